import PyProof.Rows.All
import Wide.All
import OpenK.AllK
import Wide.FinOn
import HandS.ForMost
import HandS.ForExc
import HandS.ExcInit
import HandS.ExcIs
import HandS.Deep
import HandS.Defaults
import HandS.ExcField
import HandS.ExcValue
import KE.KExcIs
import HandS.Text
import HandS.TupLe
import HandS.IsInst
import HandS.Steps
import HandS.Walk
import HandS.StrMore
import HandS.FStrTup
import HandS.More
import HandS.SlotsOwn
import HandS.RaiseMore
import KE.KCallOwn
import PyProof.InstNe
import HandS.SortKw
import KE.DatumOrd
import KE.GoesEnum
import HandS.Set
import HandS.Sort
import KE.KExcInit
import HandS.Star
import HandS.SetBool
import HandS.Strs
import HandS.Rev
import HandS.ClsMeth
import HandS.TryOnly
import PySem.Challenge.RW_quotehome_k05_whole_endings_taken_off
set_option Elab.async false
set_option linter.all false
set_option maxRecDepth 100000
set_option maxHeartbeats 4000000
/-! Calls where no repr is under way (guards): the def's promise, its body, its call, the law's end. -/
namespace Qh
open PySem PySem.Spec PyProof.Rows L2
section
variable {P : Program} {w : World} {K : PySem.W.Frag} {mg : Str → Option Value} {base : Heap} {CX : CXT} {k : Nat} {f : Addr} {fd : FuncData} {ps : List Str} {sp : Sp}

/-- one call of f, at the around A -/
def RunAt (P : Program) (w : World) (K : PySem.W.Frag) (mg : Str → Option Value) (base : Heap) (CX : CXT) (k : Nat) (f : Addr) (fd : FuncData) (ps : List Str) (sp : Sp) (A : Around) : Prop :=
  ∀ (out : List Env) (t : Shared) (G : Hp) (xs : Args) (us : List Value) (vs : List V) (Q : VK) (E : XK),
    Room k A → Env0 P w K mg base A out t G → BindsTo t fd xs (ps.zip us) → Vals vs us → sp vs G Q E →
      codeAny (model P w) A (.call (.ref f) xs) (CR CX out P w G t Q E) t

/-- the promise of a def that is called where no repr is under way -/
structure FnG (P : Program) (w : World) (K : PySem.W.Frag) (mg : Str → Option Value) (base : Heap) (CX : CXT) (k : Nat) (f : Addr) (fd : FuncData) (ps : List Str) (sp : Sp) : Prop where
  len : ∀ vs G Q E, sp vs G Q E → vs.length = ps.length
  run : ∀ A : Around, A.guards = some [] → RunAt P w K mg base CX k f fd ps sp A

theorem FnG.of (F : FnOk P w K mg base CX k f fd ps sp) : FnG P w K mg base CX k f fd ps sp :=
  ⟨F.len, fun A _ out t G xs us vs Q E hr e0 hb r h => F.run A out t G xs us vs Q E hr e0 hb r h⟩

theorem runAt_of {A : Around} {name qual : Str} {params : Arguments} {body : List Stmt} {scope : Scope} {dV kV doc pm cdv ct oc : Value} {an od : Option Addr} {osl : Array (Option Value)} {N : List Str}
    (lk : K.lookup f = some ⟨oc, od, .func (PySem.W.fnOf name qual params body scope dV kV doc pm an cdv ct), osl⟩)
    (hcd : PySem.W.codeIn K cdv qual = true) (S : FnScope N ps scope)
    (len : ∀ vs G Q E, sp vs G Q E → vs.length = ps.length)
    (hbody : ∀ (out : List Env) (t : Shared) (G : Hp) (vs : List V) (Q : VK) (E : XK),
      Room k (A.deeper (envOfC qual scope t.heap.objs.size f cdv)) → sp vs G Q E →
      ∃ rd, PSs (cxOf CX P w K mg base N qual scope f cdv A out t G E) body rd ∧ rd { nx := fun _ G' => Q .non G', rt := Q } (start N vs) G) :
    RunAt P w K mg base CX (k + 1) f (PySem.W.fnOf name qual params body scope dV kV doc pm an cdv ct) ps sp A := by
  intro out t G xs us vs Q E room e0 binds rel want
  have kin : K.In t.heap := e0.mod.kin.keeps fun a o h => (e0.bs a o h).1
  have nolim : t.heap.NoLimit := e0.mod.nolimit.keeps fun a o h => (e0.bs a o h).1
  have kinds : ∀ y ∈ ps.zip us, scope.names.lookup y.1 = some .local ∨ (scope.names.lookup y.1 = some .cell ∧
      ((cellsFrom (t.heap.objs.size + 1) scope.names []).lookup y.1).isSome = true) := by
    rintro ⟨n, v⟩ hy
    cases S.par n (List.of_mem_zip hy).1 with
    | inl q => exact Or.inl q
    | inr q => exact Or.inr ⟨q, PySem.W.cellsFrom_some _ _ _ (.inl q)⟩
  refine codeAny_call_function room.depth (kin _ _ lk) rfl S.co S.gen rfl (PySem.W.codeRec_of kin hcd) (binds _ _ _ _ ?_)
  refine wpAny_newFunctionEnv_cells S.kind kinds fun env he s1 inside => ?_
  subst he
  refine ⟨nolim.keeps inside.toInCall.keep, codeAny_func ?_⟩
  obtain ⟨rd, hrd, hq⟩ := hbody out t G vs Q E (room.deeper _) want
  have I := inv_start (CX := CX) (E := E) S room.hd e0 (len _ _ _ _ want) rel inside
  refine wpAny_mono (hrd.run [] s1 (start N vs) G _ I hq) ?_ (fun _ _ z => z)
  intro flow s2 hs
  cases flow with
  | ret u =>
    obtain ⟨v, σ', G', J, rv, q⟩ := hs
    exact ⟨v, G', J.os, J.bare, J.base, J.hok, rv, q⟩
  | next =>
    obtain ⟨σ', G', J, q⟩ := hs
    exact ⟨V.non, G', J.os, J.bare, J.base, J.hok, rfl, q⟩
  | brk => exact (hs.elim fun _ z => z.elim fun _ z => z.2).elim
  | cont => exact (hs.elim fun _ z => z.elim fun _ z => z.2).elim

theorem okG {x qual : Str} {st : Stmt} {N : List Str} (F : Fun K x qual st f fd) (S : FnScope N ps (defScope st)) (len : ∀ vs G Q E, sp vs G Q E → vs.length = ps.length)
    (hbody : ∀ (cdv : Value) (A : Around) (out : List Env) (t : Shared) (G : Hp) (vs : List V) (Q : VK) (E : XK), A.guards = some [] →
      Room k (A.deeper (envOfC qual (defScope st) t.heap.objs.size f cdv)) → sp vs G Q E →
      ∃ rd, PSs (cxOf CX P w K mg base N qual (defScope st) f cdv A out t G E) (defBody st) rd ∧ rd { nx := fun _ G' => Q .non G', rt := Q } (start N vs) G) :
    FnG P w K mg base CX (k + 1) f fd ps sp := by
  obtain ⟨oc, od, kV, doc, pm, an, cdv, ct, osl, rfl, lk, hcd⟩ := F.ex
  exact ⟨len, fun A hg => runAt_of lk hcd S len fun out t G vs Q E room want => hbody cdv A out t G vs Q E hg room want⟩
end
section
variable {X : Cx} {CX : CXT} {k : Nat} {f : Addr} {fd : FuncData} {ps : List Str} {sp : Sp} {dvs : List V} {ds : List Value} {E : XK} {x : Str} {p pos : Pos} {e : Expr} {es : List Expr} {t : TA}
theorem run_g {pins : List (Addr × Obj)} {σ : L2.St} {G : Hp} {s : Shared} {Q : VK} {us : List Value} {vs : List V} (F : FnG X.prog X.w X.K X.mg X.base CX k f fd ps sp) (gu : X.A.guards = some [])
    (hr : Room k X.A) (hb : Binds X.K fd ps ds) (hd : Vals dvs ds) (hx : Passes CX X E) (I : Inv X pins σ G s) (r : Vals vs us) (h : sp (vs ++ dvs) G Q E) :
    wpAny (model X.prog X.w) X.A (call (.ref f) us) (EP X pins σ Q) X.xe s := by
  have rr := r.append hd
  have count : (us ++ ds).length = ps.length := rr.length ▸ F.len _ _ _ _ h
  refine wpAny_call (codeAny_mono (F.run X.A gu X.stack s G ⟨us, []⟩ (us ++ ds) (vs ++ dvs) Q E hr I.env0 (hb s us I.kIn count) rr h) ?_)
  rintro (e | fl) s' hq
  · exact hx pins σ G s e s' I hq
  · cases fl with
    | ret u => exact I.after hq
    | next => exact hq.elim
    | brk => exact hq.elim
    | cont => exact hq.elim
/-- f(e, ..) -/
theorem pe_callG (F : FnG X.prog X.w X.K X.mg X.base CX k f fd ps sp) (gu : X.A.guards = some []) (hr : Room k X.A) (hg : Gl X x) (hm : X.mg x = some (.ref f)) (hk : PySem.W.keepIn X.K (.ref f) = true)
    (hb : Binds X.K fd ps ds) (hd : Vals dvs ds) (hx : Passes CX X E) (ha : PA X (e :: es) t) (hdb : (x == ("__debug__" : Str)) = false := by decide)
    (he : starEach (e :: es) X.env = (false, eval e X.env) :: starEach es X.env := by rfl) (hpl : (backTo pos (starEach es X.env)).any (·.1) = false := by rfl) :
    PE X (.Call (.Name x p) (e :: es) [] pos) (tCall sp dvs E t) := by
  constructor
  intro pins s σ G Q I h
  refine wpAny_Call_Name_kw (ld_glob I hg hm ?_ hdb)
  refine PySem.W.callWith_K (h₀ := X.base) I.ok.mod.kin hk (thn (ha.run pos pins s σ G _ I h) ?_) he hpl
  rintro us s1 ⟨vs, G1, I1, r, q⟩
  exact ⟨I1.kIn, run_g F gu hr hb hd hx I1 r q⟩
end

/-! ### the law's end -/
theorem law_callG {P : Program} {w : World} {K : PySem.W.Frag} {mg mb : Str → Option Value} {CX : CXT} {k : Nat} {fa a : Addr} {fd : FuncData} {x : Str} {sp : Sp} {t : Shared} {vs : List Value} {ns : List Int}
    (kin : K.In t.heap) (hns : t.heap.Ns mainGlobals mg) (hb : t.heap.Ns builtinsNs mb) (hbb : ∀ x : Str, x ≠ "__name__" → mb x = bootBuiltins x) (hlim : t.heap.NoLimit) (hgen : t.gens = #[])
    (ha : t.heap.get? a = some { cls := .type "list", data := .seq vs.toArray }) (hi : IntsAre vs ns) (hl : ns.length ≤ sizeLine) (room : Room k callerA)
    (F : ∀ base : Heap, K.In base → base.Ns mainGlobals mg → FnG P w K mg base CX k fa fd [x] sp) (hbind : ∀ (s : Shared) (u : Value), BindsTo s fd ⟨[u], []⟩ [(x, u)])
    (hsp : ∀ G : Hp, Only G → SqL K G a (ns.map V.int) → sp [.ref a] G (fun v _ => v = .bl true) fun _ _ _ => False)
    (hCX : ∀ G e s', CX [] G t (fun _ _ _ => False) e s' → False) :
    codeAny (model P w) callerA (.call (.ref fa) ⟨[.ref a], []⟩) (fun r s' => r = .ok (.ret (.bool true)) ∧ OldK t.heap s'.heap ∧ s'.os = t.os ∧ AllBare s'.gens) t := by
  have rel := L2.vals_ints hi
  have count := hi.length
  have none_in : ∀ b : Addr, b ∉ frs ([] : List Env) := fun b h => (by simpa [frs] using h)
  -- G tracks nothing but, perhaps, the script
  have main : ∀ G : Hp, Only G → SqL K G a (ns.map V.int) → HOk P w G t.heap → (∀ b u, G b = some u → b = a ∧ K.lookup a = none) →
      codeAny (model P w) callerA (.call (.ref fa) ⟨[.ref a], []⟩) (fun r s' => r = .ok (.ret (.bool true)) ∧ OldK t.heap s'.heap ∧ s'.os = t.os ∧ AllBare s'.gens) t := by
    intro G only seq hok which
    have plain : ∀ {b : Addr} {m : Str → Option Value}, t.heap.Ns b m → (hidT t.heap G).Ns b m := by
      rintro b m ⟨o, es, ep, e, d, r⟩
      refine ⟨o, es, ep, hidT_get e ?_, d, r⟩
      cases q : G b with
      | none => rfl
      | some u =>
        obtain ⟨rfl, _⟩ := which b u q
        rw [ha] at e
        injection e with e
        subst e
        cases d
    have kinB : K.In (hidT t.heap G) := fun b o e => hidT_get (kin b o e) (by
      cases q : G b with
      | none => rfl
      | some u =>
        obtain ⟨rfl, z⟩ := which b u q
        rw [z] at e
        cases e)
    have modB : Mod K mg (hidT t.heap G) := ⟨kinB, plain hns, ⟨mb, plain hb, hbb⟩, by
      obtain ⟨mc, h1, h2⟩ := hlim
      exact ⟨mc, plain h1, h2⟩⟩
    have start0 : Env0 P w K mg (hidT t.heap G) callerA [] t G :=
      { frames := rfl, mod := modB, bs := fun b o e => of_hidT e, bsz := Nat.le_of_eq (hidT_size _ _), funs := trivial, frf := fun b h => absurd h (none_in b), hok := hok, bare := .of_eq hgen }
    refine codeAny_mono ((F _ kinB (plain hns)).run callerA rfl [] t G ⟨[.ref a], []⟩ [.ref a] [.ref a] _ _ room start0 (hbind t (.ref a)) (.cons rfl .nil) (hsp G only seq)) ?_
    rintro (e | fl) s' h
    · exact (hCX G e s' h).elim
    · cases fl with
      | next => exact h.elim
      | brk => exact h.elim
      | cont => exact h.elim
      | ret u =>
        obtain ⟨v, G', hos, bare, un, hok', ru, rfl⟩ := h
        have ru' : u = Value.bool true := ru
        subst ru'
        refine ⟨rfl, OldK.of_keep fun b o e => ?_, hos, bare⟩
        cases q : G b with
        | none => exact un.keep b o e q (none_in b) (by simp)
        | some u =>
          obtain z | ⟨ob, xs, z⟩ := only b
          · rw [q] at z
            cases z
          · have e1 := (hok b _ z).1
            have e2 := (hok' b _ (un.frzs b ob _ z)).1
            rw [e] at e1
            injection e1 with e1
            rw [e1]
            exact e2
  have size : (ns.map V.int).length ≤ sizeLine := by
    rw [List.length_map]
    exact hl
  cases hk : K.lookup a with
  | some o =>
    have e := kin a o hk
    rw [ha] at e
    injection e with e
    subst e
    refine main (fun _ => none) (fun _ => Or.inl rfl) (Or.inr ⟨_, vs.toArray, _, hk, rfl, rfl, rfl, ?_, ?_⟩) (fun b u z => nomatch z) (fun b u z => nomatch z)
    · rw [List.size_toArray, count]
      exact hl
    · rw [List.toList_toArray]
      exact rel
  | none =>
    have at_a : ∀ {b : Addr} {u : HO}, (if b = a then some (HO.frz { cls := .type "list", data := .seq vs.toArray } (.lst (ns.map V.int))) else none) = some u →
        b = a ∧ u = HO.frz { cls := .type "list", data := .seq vs.toArray } (.lst (ns.map V.int)) := by
      intro b u z
      split at z
      · rename_i hb
        injection z with z
        exact ⟨hb, z.symm⟩
      · cases z
    refine main (fun b => if b = a then some (.frz { cls := .type "list", data := .seq vs.toArray } (.lst (ns.map V.int))) else none) ?_ (Or.inl (Or.inr ⟨_, if_pos rfl⟩)) ?_ (fun b u z => ⟨(at_a z).1, hk⟩)
    · intro b
      by_cases hb : b = a
      · exact Or.inr ⟨_, _, if_pos hb⟩
      · exact Or.inl (if_neg hb)
    · intro b u z
      obtain ⟨rfl, rfl⟩ := at_a z
      exact ⟨ha, size, vs, _, rel, ha⟩

theorem walk_ofG {l : PySem.W.OpenLaw} {n k : Nat} {q : Program} {loose : List Str} {XP : (Str → Option Value) → Heap → Prop} {YP : World → Heap → Prop} {d : DefRec} {K : Params → PySem.W.Frag} {CX : World → CXT} {sp : World → Sp} {x : Str}
    (hn : l.most = some n) (hn2 : n ≤ sizeLine) (hdf : d.params.defaults = []) (room : Room k callerA)
    (hY : ∀ (w : World) (h : Heap), YP w h → (K w.params).In h)
    (F : ∀ (w : World) (mg : Str → Option Value) (fa : Addr) (h : Heap), (K w.params).In h → h.Ns mainGlobals mg → mg d.name = some (.ref fa) →
      ∃ fd : FuncData, (∀ (s : Shared) (u : Value), BindsTo s fd ⟨[u], []⟩ [(x, u)]) ∧
        ∀ base : Heap, (K w.params).In base → base.Ns mainGlobals mg → FnG l.prog w (K w.params) mg base (CX w) k fa fd [x] (sp w))
    (hsp : ∀ (w : World) (G : Hp) (a : Addr) (ns : List Int), ns.length ≤ n → Only G → SqL (K w.params) G a (ns.map V.int) → sp w [.ref a] G (fun v _ => v = .bl true) fun _ _ _ => False)
    (hCX : ∀ (w : World) (G : Hp) (s : Shared) (e : Value) (s' : Shared), CX w [] G s (fun _ _ _ => False) e s' → False) :
    PySem.W.WalkO q loose XP YP l.row.toRowW d [] (fun f vs => PySem.call f vs) := by
  refine Att.attach_call hn hdf ?_
  intro w s0 s1 mg mb fa o pm cd doc a vs ns Gr Y ho hd hcd hmg hobj hints hlen hgen
  obtain ⟨fd, hb, hF⟩ := F w mg fa _ (hY w _ Y) Gr.T.g hmg
  exact law_callG (hY w _ Y) Gr.T.g Gr.T.b Gr.T.builtins Gr.T.nolimit hgen hobj hints (Nat.le_trans hlen hn2) room hF hb (fun G only seq => hsp w G a ns hlen only seq) fun G e s' => hCX w G s1 e s'
end Qh
set_option Elab.async false
set_option linter.all false
set_option maxRecDepth 100000
set_option maxHeartbeats 4000000
/-! An error that is caught and then kept under a name of the def: the object itself is tracked. -/
namespace Qh
open PySem PySem.Spec PyProof.Rows L2

/-- at a: an error object of the class cls, its own dict at d -/
def exk (cls : Value) (d : Option Addr) (a : Addr) : HO := .ext fun h => ∃ (oe : Obj) (vs : Array Value), h.get? a = some oe ∧ oe.cls = cls ∧ oe.dict = d ∧ oe.data = .fields vs

theorem exk_ok {P : Program} {w : World} {G : Hp} {h : Heap} {a : Addr} {oe : Obj} {vs : Array Value} (e : h.get? a = some oe) (d : oe.data = .fields vs) : ObjOk P w G h a (exk oe.cls oe.dict a) :=
  ⟨⟨oe, vs, e, rfl, rfl, d⟩, ⟨oe, e⟩, fun h1 h2 ⟨o, v, e1, r⟩ k => ⟨o, v, k o e1, r⟩⟩

section
variable {X : Cx} {pins : List (Addr × Obj)} {σ : L2.St} {G : Hp} {s : Shared}
theorem Inv.kept_err {a : Addr} {oe : Obj} {vs : Array Value} (I : Inv X pins σ G s) (hg : s.heap.get? a = some oe) (hd : oe.data = .fields vs) (na : G a = none) (nL : a ≠ X.env.locals)
    (n0 : X.s_0.heap.get? a = none) (np : ∀ p ∈ X.pn ++ pins, p.1 ≠ a) : Inv X pins σ (upd G a (exk oe.cls oe.dict a)) s := by
  have other : ∀ {b : Addr} {o : HO}, G b = some o → upd G a (exk oe.cls oe.dict a) b = some o := fun {b o} e => by
    rw [upd_ne (ne_of_none e na)]
    exact e
  have old : ∀ {b : Addr} {o : Obj}, X.s_0.heap.get? b = some o → b ≠ a := fun {b o} e z => by
    rw [z, n0] at e
    cases e
  refine ⟨I.ok, I.os, I.bare, ⟨I.base.keep, I.base.slot, fun b o e n x => ?_, I.base.there, fun b xs e => other (I.base.tups b xs e), fun b o u e => other (I.base.frzs b o u e), fun b ps e => ?_⟩, I.loc, I.cell, ?_, fun x c e => ?_, fun p hp => ?_,
    HOk.laidN I.hok (fun _ _ z => z) na (exk_ok hg hd), I.len⟩
  · rw [upd_ne (old e)]
    exact I.base.free b o e n x
  · obtain ⟨more, q⟩ := I.base.tbls b ps e
    exact ⟨more, other q⟩
  · rw [upd_ne nL.symm]
    exact I.free
  · have ne : c ≠ a := fun z => by
      obtain ⟨v, o, e1, e2⟩ := I.cell x c e
      rw [z, hg] at e1
      injection e1 with e1
      rw [← e1, hd] at e2
      cases e2
    rw [upd_ne ne]
    exact I.freeC x c e
  · obtain ⟨h1, h2, h3⟩ := I.pin p hp
    refine ⟨h1, ?_, h3⟩
    rw [upd_ne (np p hp)]
    exact h2
end

/-- what the clause 'except x as n: c = n' wishes of an error of the body: n has slot i, c slot j -/
def wHeld (K : PySem.W.Frag) (c : Value) (i j : Nat) (Wout : WX) (D : Ends) : WX := fun cls d σ G =>
  ∃ b, PySem.W.exmOne K cls c = some b ∧ (b = true → ∀ a, G a = none → D.nx (((σ.set i (some (.ref a))).set j (some (.ref a))).set i none) (upd G a (exk cls d a))) ∧ (b = false → Wout cls d σ G)

section
variable {X : Cx} {x n y : Str} {c : Value} {i j : Nat} {body : List Stmt} {np p1 p2 p3 pos pos' : Pos} {tb : WX → TS} {Wout : WX}
theorem ps_try_held (hs : X.stack = X.env :: X.outer) (hf : X.env.frame = some X.env.locals) (hex : X.ex = []) (hN : X.N.Nodup) (hi : X.N[i]? = some n) (hln : X.env.kindOf n = some .local)
    (hj : X.N[j]? = some y) (hly : X.env.scope.names.lookup y = some .local) (hdb : (n == ("__debug__" : Str)) = false) (hdc : (n == ("__classdict__" : Str)) = false)
    (hsw : swapsWith (.Name n p2) (some (.Name y p1)) p3.line X.env = pure false)
    (hc : Names X x c) (tk : Takes X Wout)
    (hb : ∀ (W : WX) (pn : List (Addr × Obj)) (xe : Value → Shared → Prop), Takes (X.tr pn xe) W → PassesOwn (model X.prog X.w) X.A X.env xe → PSs (X.tr pn xe) body (tb W)) :
    PS X (.Try body [.ExceptHandler (some (.Name x np)) (some n) [.Assign [.Name y p1] (.Name n p2) p3] pos'] [] [] pos) (fun D σ G => tb (wHeld X.K c i j Wout D) D σ G) := by
  constructor
  intro pins s σ G D I h
  have ok := I.ok
  have frames : X.A.frames = some (X.env :: X.outer) := by rw [ok.frames, hs]
  have hloc : Loc X.env.scope n := Or.inl hln
  have hlen : i < σ.length := by
    rw [I.len]
    exact (List.getElem?_eq_some_iff.mp hi).1
  refine wpAny_Try_except ?_
  refine wpAny_mono ((hb (wHeld X.K c i j Wout D) (X.pn ++ pins) (fun e s1 => wpAny (model X.prog X.w) X.A (noteFrame e X.env) (fun _ s2 => wpAny (model X.prog X.w) X.A (setFlight e none) (fun _ s3 =>
    wpAny (model X.prog X.w) X.A (handleBy e X.env [.ExceptHandler (some (.Name x np)) (some n) [.Assign [.Name y p1] (.Name n p2) p3] pos']) (SP X pins D) X.xe s3) X.xe s2) X.xe s1) ?_ PassesOwn.looking).run [] s σ G D (I.toTry _) h) ?_ (fun _ _ z => z)
  · rintro u s' ⟨a, B, sI, pins', σ', G', cls, d, rfl, J', nb, up, sky, na, os, ag, b, hb1, hyes, hno⟩
    have J : Inv X pins σ' G' sI := J'.ofTry ok
    have sky' : Sky B (X.env :: X.outer) a (Zc cls d) X.env.locals s'.heap := hs ▸ sky
    have Bno : B.get? a = none := by
      rcases sky with z | z | z
      · exact z.2.1
      · exact z.2.1
      · exact z.2.1
    show wpAny (model X.prog X.w) X.A (noteFrame (.ref a) X.env) _ _ _
    refine Sky.land Zc.steady frames hf sky' fun h3 fl3 up3 => ?_
    have J3 : Inv X pins σ' G' { s' with heap := h3 } := J.landed nb fl3.1 (up.trans up3) os ag
    obtain ⟨oe3, vs3, he3, hz3, hd3⟩ := fl3.there
    have outside : a ∉ frs (X.env :: X.outer) := fun hm => by
      obtain ⟨_, o', e', z⟩ := fl3.2.2.1.mem hm
      rw [he3] at e'
      injection e' with e'
      subst e'
      exact z _ hd3
    have nL : a ≠ X.env.locals := fun z => outside (List.mem_filterMap.mpr ⟨X.env, List.mem_cons_self, by rw [hf, z]⟩)
    have nF : a ∉ X.fs := fun hm => by
      obtain ⟨e, he, q⟩ := List.mem_filterMap.mp hm
      exact outside (List.mem_filterMap.mpr ⟨e, List.mem_cons_of_mem _ he, q⟩)
    have fresh : ∀ {b : Addr} {o : Obj}, sI.heap.get? b = some o → b ∉ frs X.stack → b ≠ a := fun {b o} e hm z => by
      have q := nb b o e hm
      rw [z, Bno] at q
      cases q
    have n0 : X.s_0.heap.get? a = none := by
      cases q : X.s_0.heap.get? a with
      | none => rfl
      | some o =>
        obtain ⟨o', e'⟩ := J.base.there a o q (by rw [hex]; simp)
        exact absurd rfl (fresh e' (hs ▸ outside))
    have npin : ∀ p ∈ X.pn ++ pins, p.1 ≠ a := fun p hp => by
      obtain ⟨q1, _, q3, q4, _⟩ := J.pin p hp
      refine fresh q1 fun hm => ?_
      rw [hs] at hm
      obtain ⟨e, he, q⟩ := List.mem_filterMap.mp hm
      rcases List.mem_cons.mp he with rfl | he
      · rw [hf] at q
        injection q with q
        exact q3 q.symm
      · exact q4 (List.mem_filterMap.mpr ⟨e, he, q⟩)
    have S3 := J3.suite he3 hd3 na nL nF
    refine wpAny_handleBy_cons (codeAny_handlers_test ?_) (by intro q; cases q)
    have LT : PySem.W.Looks (model X.prog X.w) h3 (typeOf (.ref a)) cls := fun A Q E s k q => wpAny_typeOf_ref (k _ _ he3) (by rw [hz3.1]; exact q)
    have LM := PySem.W.exm_one (M := model X.prog X.w) (J3.kIn) LT hb1
    have test : ∀ {Q : Value → Shared → Prop} {E : Value → Shared → Prop}, Q c { s' with heap := h3 } → wpAny (model X.prog X.w) (X.A.mark (some (.ref a))) (eval (.Name x np) X.env) Q E { s' with heap := h3 } := fun {Q E} q => by
      obtain ⟨hg, hdbg, hm | ⟨hm, hv, hnn⟩⟩ := hc
      · exact ld_glob (X := X.suite a ((a, oe3) :: (X.pn ++ pins))) S3 hg hm q hdbg
      · exact ld_blt (X := X.suite a ((a, oe3) :: (X.pn ++ pins))) S3 hg hm hv q hnn hdbg
    refine test (LM.here ?_)
    cases b with
    | true =>
      refine codeAny_handlers_suite_as ?_
      refine HandSPX.lands_againZ fl3 fun h4 fl4 up4 => ?_
      have J4 : Inv X pins σ' G' { s' with heap := h4 } := J.landed nb fl4.1 ((up.trans up3).trans up4) os ag
      obtain ⟨oe4, vs4, he4, hz4, hd4⟩ := fl4.there
      have S4 := J4.suite he4 hd4 na nL nF
      have hlen' : i < σ'.length := by
        rw [J.len]
        exact (List.getElem?_eq_some_iff.mp hi).1
      refine store_ok (X := X.suite a ((a, oe4) :: (X.pn ++ pins))) (v := .ref a) S4 hN hi hloc rfl (fun s5 S5 => ?_) (.inr hln)
      have asg : PSs (X.suite a ((a, oe4) :: (X.pn ++ pins))) [.Assign [.Name y p1] (.Name n p2) p3] (tAsg (tVar i) (gName j)) :=
        pss_one (ps_set hN hj (Or.inl hly) (pe_var hi (Or.inl hln) hdb hdc) hsw (.inr hly))
      refine wpAny_mono (asg.run [] s5 _ G' { nx := fun σ6 G6 => σ6 = (σ'.set i (some (.ref a))).set j (some (.ref a)) ∧ G6 = G', rt := fun _ _ => False } S5 ⟨.ref a, List.getElem?_set_self hlen', rfl, rfl⟩) ?_ (fun _ _ z => z.elim)
      intro f s6 hsp
      cases f with
      | next =>
        obtain ⟨σ6, G6, S6, rfl, rfl⟩ := hsp
        have pinned := S6.pin (a, oe4) (List.mem_append_left _ List.mem_cons_self)
        have J6 := Qh.Inv.kept_err (S6.unsuite ok) pinned.1 hd4 na nL n0 npin
        rw [hz4.1, hz4.2] at J6
        exact gone_ok J6 hN hi hln fun s7 J7 => ⟨_, _, J7, hyes rfl a na⟩
      | brk => exact (hsp.elim fun _ z => z.elim fun _ z => z.2).elim
      | cont => exact (hsp.elim fun _ z => z.elim fun _ z => z.2).elim
      | ret u => exact (hsp.elim fun _ z => z.elim fun _ z => z.elim fun _ z => z.2.2).elim
    | false =>
      show wpAny _ X.A (handleBy (.ref a) X.env []) _ _ _
      refine wpAny_handleBy_nil ?_
      obtain ⟨k1, k2, k3, oe, vs, T, oT, ts', he, hz, hd, h1, hr⟩ := id fl3
      unfold PySem.passOn
      refine wpAny_bind (wpAny_field he hd h1 ?_)
      rw [if_neg (show ¬ ((Value.ref T == Value.none) = true) from by simp)]
      have fin : wpAny (model X.prog X.w) X.A (setFlight (.ref a) X.env.frame) (fun _ s4 => wpAny (model X.prog X.w) X.A (throw (.ref a) : Sem Flow) (SP X pins D) X.xe s4) X.xe { s' with heap := h3 } := by
        rw [hf]
        refine HandSPX.setFlight_upZ fl3 fun h4 hh4 up4 => wpAny_throw (tk _ _ ?_)
        exact ⟨a, B, sI, pins, σ', G', cls, d, rfl, J, nb, (up.trans up3).trans up4, .inr (.inr (by rw [hs]; exact hh4)), na, os, ag, hno rfl⟩
      first
        | exact wpAny_bind (wpAny_pure (wpAny_bind fin))
        | exact wpAny_bind fin
  · intro f s1 hsp
    cases f with
    | next =>
      obtain ⟨σ1, G1, J1, q⟩ := hsp
      exact wpAny_execs_nil ⟨σ1, G1, J1.ofTry ok, q⟩
    | brk =>
      obtain ⟨σ1, G1, J1, q⟩ := hsp
      exact ⟨σ1, G1, J1.ofTry ok, q⟩
    | cont =>
      obtain ⟨σ1, G1, J1, q⟩ := hsp
      exact ⟨σ1, G1, J1.ofTry ok, q⟩
    | ret u =>
      obtain ⟨v, σ1, G1, J1, r, q⟩ := hsp
      exact ⟨v, σ1, G1, J1.ofTry ok, r, q⟩
end
/-! ### the kept error: its fields, isinstance -/
/-- e.f -/
def tErrF (K : PySem.W.Frag) (f : Str) (te : TE) : TE := fun σ G Q => te σ G fun x G1 => ∃ (a C d : Addr) (fs : List (Str × V)) (v : V), x = .ref a ∧ G1 a = some (exk (.ref C) (some d) a) ∧ G1 d = some (.xd fs) ∧
  XfC K C ∧ PySem.W.findIn K (.ref C) f = some none ∧ fs.lookup f = some v ∧ Q v G1
theorem pe_errF {X : Cx} {e : Expr} {te : TE} {pos : Pos} {f : Str} (he : PE X e te) (hb : attributeBase e f X.env (eval e X.env) = eval e X.env := by rfl) : PE X (.Attribute e f pos) (tErrF X.K f te) := by
  constructor
  intro pins s σ G Q I h
  refine attr_of hb (thn (he.run pins s σ G _ I h) ?_)
  rintro u s1 ⟨x, G1, I1, rx, a, C, dd, fs, v, rfl, ek, ed, T, hno, l, q⟩
  obtain rfl : u = Value.ref a := rx
  obtain ⟨⟨oe, vs, ha, hcls, hdict, hdata⟩, _⟩ := I1.hok a _ ek
  obtain ⟨mA, hns, hr⟩ := I1.hok dd _ ed
  obtain ⟨od, ho, hl⟩ := lookIn_ns hns
  obtain ⟨u, hu, ru⟩ := RelO.some_of (v := v) (o := mA f) (by rw [← l]; exact hr f)
  have J : PySem.W.InstAt s1.heap a oe C (some od) := ⟨ha, hcls, by unfold PySem.W.notCls; rw [hdata] <;> rfl, by rw [hdict]; exact ho⟩
  exact HandSPX.exc_get I1.kIn J T.ga T.gg T.exC (PySem.W.findObj_own T.hdC hno rfl (by rw [hl, hu])) (handed_of ru) ⟨v, G1, I1.tok _, ru, q⟩

/-- isinstance(e, c), e a kept error of the class at D -/
def rErrIs (K : PySem.W.Frag) : List V → Hp → VK → Prop := fun xs G Q => ∃ (a D d : Addr) (fs : List (Str × V)) (c : V) (cv : Value) (b : Bool), xs = [.ref a, c] ∧ G a = some (exk (.ref D) (some d) a) ∧ G d = some (.xd fs) ∧ ExcC K D ∧ (∀ u, RelV c u → u = cv) ∧ PySem.W.kitOne K (.ref D) cv = some b ∧ Q (.bl b) G
theorem call_errIs {X : Cx} : CallR X (.builtin "isinstance") (rErrIs X.K) := by
  rintro pins s σ G xs us Q I r ⟨a, D, d, fs, c, cv, b, rfl, ek, ed, C, hcv, e, q⟩
  obtain ⟨u1, u2, rfl, r1, r2⟩ := vals2 r
  obtain rfl : u1 = Value.ref a := r1
  obtain rfl := hcv _ r2
  obtain ⟨⟨oe, vs, ha, hcls, hdict, hdata⟩, _⟩ := I.hok a _ ek
  obtain ⟨mA, hns, hr⟩ := I.hok d _ ed
  obtain ⟨od, ho, hl⟩ := lookIn_ns hns
  have J : PySem.W.InstAt s.heap a oe D (some od) := ⟨ha, hcls, by unfold PySem.W.notCls; rw [hdata] <;> rfl, by rw [hdict]; exact ho⟩
  have hcl : (PySem.W.clsIn X.K D).isSome = true := by
    obtain ⟨cd, hc, _⟩ := PySem.W.any_some C.hd
    rw [hc]
    rfl
  exact PySem.W.kia_one (PySem.W.kitx_exc hcl C.hg C.hk C.hs C.ha C.hn C.ht C.hm) I.kIn J e (fun z => nomatch z) fun tk => ⟨.bl b, G, I.kept (t' := tk) fun _ _ z => z, rfl, q⟩
end Qh
set_option Elab.async false
set_option linter.all false
set_option maxRecDepth 100000
set_option maxHeartbeats 4000000
/-! Own defs by name: what stands behind the top, how they are called. -/
namespace Qh
open PySem PySem.Spec PyProof.Rows L2

/-- the def x of the module keeps sp -/
structure Ok (P : Program) (w : World) (K : PySem.W.Frag) (mg : Str → Option Value) (base : Heap) (x : Str) (pa : Arguments) (ps : List Str) (k : Nat) (sp : Sp) : Prop where
  ex : ∃ (f : Addr) (body : List Stmt) (scope : Scope) (kV doc pm : Value) (an : Option Addr) (cdv ct : Value), mg x = some (.ref f) ∧ PySem.W.keepIn K (.ref f) = true ∧
    (∀ us : List Value, us.length = ps.length → bindArgs (PySem.W.fnOf x x pa body scope .none kV doc pm an cdv ct) ⟨us, []⟩ = pure (ps.zip us)) ∧
    FnOk P w K mg base (L2.CX P w) k f (PySem.W.fnOf x x pa body scope .none kV doc pm an cdv ct) ps sp
/-- .. where no repr is under way -/
structure OkG (P : Program) (w : World) (K : PySem.W.Frag) (mg : Str → Option Value) (base : Heap) (x : Str) (pa : Arguments) (ps : List Str) (k : Nat) (sp : Sp) : Prop where
  ex : ∃ (f : Addr) (body : List Stmt) (scope : Scope) (kV doc pm : Value) (an : Option Addr) (cdv ct : Value), mg x = some (.ref f) ∧ PySem.W.keepIn K (.ref f) = true ∧
    (∀ us : List Value, us.length = ps.length → bindArgs (PySem.W.fnOf x x pa body scope .none kV doc pm an cdv ct) ⟨us, []⟩ = pure (ps.zip us)) ∧
    FnG P w K mg base (L2.CX P w) k f (PySem.W.fnOf x x pa body scope .none kV doc pm an cdv ct) ps sp

section
variable {X : Cx} {W : WX} {k : Nat} {ps : List Str} {sp : Sp} {pa : Arguments} {x : Str} {p pos : Pos} {e : Expr} {es : List Expr} {t : TA}
theorem bindsOf {K : PySem.W.Frag} {x : Str} {pa : Arguments} {body : List Stmt} {scope : Scope} {kV doc pm : Value} {an : Option Addr} {cdv ct : Value} {ps : List Str}
    (h : ∀ us : List Value, us.length = ps.length → bindArgs (PySem.W.fnOf x x pa body scope .none kV doc pm an cdv ct) ⟨us, []⟩ = pure (ps.zip us)) : Binds K (PySem.W.fnOf x x pa body scope .none kV doc pm an cdv ct) ps [] := .all h
/-- f(e, ..), f a def of the module -/
theorem pe_own (F : Ok X.prog X.w X.K X.mg X.base x pa ps k sp) (hr : Room k X.A) (tk : Takes X W) (ha : PA X (e :: es) t) (hg : Gl X x := by rfl) (hdb : (x == ("__debug__" : Str)) = false := by decide)
    (he : starEach (e :: es) X.env = (false, eval e X.env) :: starEach es X.env := by rfl) (hpl : (backTo pos (starEach es X.env)).any (·.1) = false := by rfl) :
    PE X (.Call (.Name x p) (e :: es) [] pos) (tCallS sp (WE W) t) := by
  obtain ⟨f, body, scope, kV, doc, pm, an, cdv, ct, hm, hk, hb, F⟩ := F.ex
  exact pe_callS F hr hg hm hk (bindsOf hb) (fun σ => passAt tk σ) ha hdb he hpl
theorem pe_ownG (F : OkG X.prog X.w X.K X.mg X.base x pa ps k sp) (gu : X.A.guards = some []) (hr : Room k X.A) (ha : PA X (e :: es) t) (hg : Gl X x := by rfl) (hdb : (x == ("__debug__" : Str)) = false := by decide)
    (he : starEach (e :: es) X.env = (false, eval e X.env) :: starEach es X.env := by rfl) (hpl : (backTo pos (starEach es X.env)).any (·.1) = false := by rfl) :
    PE X (.Call (.Name x p) (e :: es) [] pos) (tCall sp [] E0 t) := by
  obtain ⟨f, body, scope, kV, doc, pm, an, cdv, ct, hm, hk, hb, F⟩ := F.ex
  exact pe_callG F gu hr hg hm hk (bindsOf hb) .nil passL ha hdb he hpl

/-! ### keywords alone, where errors are wished for at the caller's slots -/
end

/-! ### a def as the top has left it -/
structure DefIn (K : PySem.W.Frag) (mg : Str → Option Value) (x : Str) (st : Stmt) : Prop where
  ex : ∃ (f : Addr) (fd : FuncData), Fun K x x st f fd ∧ mg x = some (.ref f)
section
variable {P : Program} {w : World} {K : PySem.W.Frag} {mg : Str → Option Value} {base : Heap} {x : Str} {st : Stmt} {N ps : List Str} {k : Nat} {sp : Sp}
/-- its promise, by its body -/
theorem DefIn.ok (D : DefIn K mg x st) (S : FnScope N ps (defScope st)) (len : ∀ vs G Q E, sp vs G Q E → vs.length = ps.length)
    (hbind : ∀ (kV doc pm : Value) (an : Option Addr) (cdv ct : Value) (us : List Value), us.length = ps.length → bindArgs (PySem.W.fnOf x x (defArgs st) (defBody st) (defScope st) .none kV doc pm an cdv ct) ⟨us, []⟩ = pure (ps.zip us))
    (hbody : ∀ (f : Addr) (cdv : Value) (A : Around) (out : List Env) (t : Shared) (G : Hp) (vs : List V) (Q : VK) (E : XK), Room k (A.deeper (envOfC x (defScope st) t.heap.objs.size f cdv)) → sp vs G Q E →
      ∃ rd, PSs (cxOf (L2.CX P w) P w K mg base N x (defScope st) f cdv A out t G E) (defBody st) rd ∧ rd { nx := fun _ G' => Q .non G', rt := Q } (start N vs) G) :
    Ok P w K mg base x (defArgs st) ps (k + 1) sp := by
  obtain ⟨f, fd, F, hm⟩ := D.ex
  have G : FnOk P w K mg base (L2.CX P w) (k + 1) f fd ps sp := F.okX S len fun cdv A out t G vs Q E room want => hbody f cdv A out t G vs Q E room want
  obtain ⟨oc, od, kV, doc, pm, an, cdv, ct, osl, rfl, lk, hcd⟩ := F.ex
  exact ⟨⟨f, _, _, kV, doc, pm, an, cdv, ct, hm, F.kp, fun us hl => hbind kV doc pm an cdv ct us hl, G⟩⟩
theorem DefIn.okG (D : DefIn K mg x st) (S : FnScope N ps (defScope st)) (len : ∀ vs G Q E, sp vs G Q E → vs.length = ps.length)
    (hbind : ∀ (kV doc pm : Value) (an : Option Addr) (cdv ct : Value) (us : List Value), us.length = ps.length → bindArgs (PySem.W.fnOf x x (defArgs st) (defBody st) (defScope st) .none kV doc pm an cdv ct) ⟨us, []⟩ = pure (ps.zip us))
    (hbody : ∀ (f : Addr) (cdv : Value) (A : Around) (out : List Env) (t : Shared) (G : Hp) (vs : List V) (Q : VK) (E : XK), A.guards = some [] → Room k (A.deeper (envOfC x (defScope st) t.heap.objs.size f cdv)) → sp vs G Q E →
      ∃ rd, PSs (cxOf (L2.CX P w) P w K mg base N x (defScope st) f cdv A out t G E) (defBody st) rd ∧ rd { nx := fun _ G' => Q .non G', rt := Q } (start N vs) G) :
    OkG P w K mg base x (defArgs st) ps (k + 1) sp := by
  obtain ⟨f, fd, F, hm⟩ := D.ex
  have G : FnG P w K mg base (L2.CX P w) (k + 1) f fd ps sp := Qh.okG F S len fun cdv A out t G vs Q E gu room want => hbody f cdv A out t G vs Q E gu room want
  obtain ⟨oc, od, kV, doc, pm, an, cdv, ct, osl, rfl, lk, hcd⟩ := F.ex
  exact ⟨⟨f, _, _, kV, doc, pm, an, cdv, ct, hm, F.kp, fun us hl => hbind kV doc pm an cdv ct us hl, G⟩⟩
end
end Qh
set_option Elab.async false
set_option linter.all false
set_option maxRecDepth 100000
set_option maxHeartbeats 4000000
/-! What every law of this table brings: built-in names, repr of data, the pen. -/
namespace Qh
open PySem PySem.Spec PyProof.Rows L2

/-- the built-in names that the module leaves alone -/
structure Blt (mg : Str → Option Value) : Prop where
  n_len : mg "len" = none
  n_int : mg "int" = none
  n_abs : mg "abs" = none
  n_list : mg "list" = none
  n_tuple : mg "tuple" = none
  n_range : mg "range" = none
  n_repr : mg "repr" = none
  n_all : mg "all" = none
  n_any : mg "any" = none
  n_isinstance : mg "isinstance" = none
  n_str : mg "str" = none
  n_bool : mg "bool" = none
  n_dict : mg "dict" = none
  n_set : mg "set" = none
  n_sorted : mg "sorted" = none
  n_enumerate : mg "enumerate" = none
  n_zip : mg "zip" = none
  n_max : mg "max" = none
  n_sum : mg "sum" = none
  n_min : mg "min" = none
  n_reversed : mg "reversed" = none

theorem bt_len : bootBuiltins "len" = some (.builtin "len") := by decide +kernel
theorem bt_abs : bootBuiltins "abs" = some (.builtin "abs") := by decide +kernel
theorem bt_int : bootBuiltins "int" = some (.type "int") := by decide +kernel
theorem bt_list : bootBuiltins "list" = some (.type "list") := by decide +kernel
theorem bt_tuple : bootBuiltins "tuple" = some (.type "tuple") := by decide +kernel
theorem bt_str : bootBuiltins "str" = some (.type "str") := by decide +kernel
theorem bt_set : bootBuiltins "set" = some (.type "set") := by decide +kernel
theorem bt_repr : bootBuiltins "repr" = some (.builtin "repr") := by decide +kernel
theorem bt_all : bootBuiltins "all" = some (.builtin "all") := by decide +kernel
theorem bt_isinstance : bootBuiltins "isinstance" = some (.builtin "isinstance") := by decide +kernel
theorem bt_sorted : bootBuiltins "sorted" = some (.builtin "sorted") := by decide +kernel
/-! ### repr of data, where no repr is under way -/
section
variable {X : Cx}
def rRepr (K : PySem.W.Frag) : List V → Hp → VK → Prop := fun xs G Q => ∃ (a : Addr) (d : PyData), xs = [.ref a] ∧ Dp K G (.ref a) d ∧ d.showable = true ∧ d.hasDict = false ∧ d.depth ≤ 40 ∧ d.shown.length ≤ sizeLine ∧ Q (.str d.shown) G
theorem call_repr (gu : X.A.guards = some []) (hu : X.A.units + 64 < cLine) : CallR X (.builtin "repr") (rRepr X.K) := by
  rintro pins s σ G xs us Q I r ⟨a, d, rfl, hd, hs, hn, hk, hz, q⟩
  obtain ⟨u, rfl, ru⟩ := vals1 r
  obtain rfl : u = Value.ref a := ru
  obtain ⟨as, rd⟩ := Dp.reads I d _ _ hd rfl
  exact repr_of_reads' rd hs (PyData.noDict_hsm hn) gu (by omega) (fun _ _ z => z) (fun h' u tk k => ⟨.str d.shown, G, I.kept k, ⟨u, rfl⟩, q⟩) hz
end

/-! ### the pen: the script's cells, how many are read, what is left of a great cell -/
def Pen (G : Hp) (p l : Addr) (c : Int) : Prop :=
  ∃ (n g : Int) (ns : List Int), G p = some (.lst [.ref l, .int n, .int g]) ∧ G l = some (.lst (ns.map V.int)) ∧ l ≠ p ∧ 0 ≤ n ∧ n ≤ c ∧ 0 ≤ g
/-- all that was tracked but p is as it was -/
def Kp (p : Addr) (G G' : Hp) : Prop := ∀ b o, b ≠ p → G b = some o → G' b = some o
theorem Kp.refl (p : Addr) (G : Hp) : Kp p G G := fun _ _ _ h => h
theorem Kp.trans {p : Addr} {G G1 G2 : Hp} (a : Kp p G G1) (b : Kp p G1 G2) : Kp p G G2 := fun x o n h => b x o n (a x o n h)
theorem Kp.new {p q : Addr} {G : Hp} {o : HO} (h : G q = none) : Kp p G (upd G q o) := fun b u _ e => by
  rw [upd_ne (ne_of_none e h)]
  exact e
theorem Kp.self {p : Addr} {G : Hp} {o : HO} : Kp p G (upd G p o) := fun b u n e => by
  rw [upd_ne n]
  exact e
theorem Kp.same {p : Addr} {G G' : Hp} (h : Same G G') : Kp p G G' := fun b o _ e => h b o e
theorem Same.new {q : Addr} {G : Hp} {o : HO} (h : G q = none) : Same G (upd G q o) := fun b u e => by
  rw [upd_ne (ne_of_none e h)]
  exact e
/-- an object that was not there before may change -/
theorem Kp.fresh {p q : Addr} {G G' : Hp} {o : HO} (k : Kp p G G') (h : G q = none) : Kp p G (upd G' q o) := fun b u n e => by
  rw [upd_ne (ne_of_none e h)]
  exact k b u n e
theorem Kp.free {p q : Addr} {G G' : Hp} (k : Kp p G G') (n : q ≠ p) (h : G' q = none) : G q = none := by
  cases e : G q with
  | none => rfl
  | some o =>
    rw [k q o n e] at h
    cases h
theorem Pen.mono {G : Hp} {p l : Addr} {c c' : Int} (P : Pen G p l c) (h : c ≤ c') : Pen G p l c' := by
  obtain ⟨n, g, ns, h1, h2, h3, h4, h5, h6⟩ := P
  exact ⟨n, g, ns, h1, h2, h3, h4, Int.le_trans h5 h, h6⟩
/-- an object that is neither the pen nor its cells may change -/
theorem Pen.upd {G : Hp} {p l q : Addr} {c : Int} {o : HO} (P : Pen G p l c) (hp : q ≠ p) (hl : q ≠ l) : Pen (upd G q o) p l c := by
  obtain ⟨n, g, ns, h1, h2, h3⟩ := P
  refine ⟨n, g, ns, ?_, ?_, h3⟩
  · rw [upd_ne hp.symm]
    exact h1
  · rw [upd_ne hl.symm]
    exact h2
theorem Pen.same {G G' : Hp} {p l : Addr} {c : Int} (P : Pen G p l c) (k : Same G G') : Pen G' p l c := by
  obtain ⟨n, g, ns, h1, h2, h3⟩ := P
  exact ⟨n, g, ns, k _ _ h1, k _ _ h2, h3⟩
theorem Pen.ne {G : Hp} {p l q : Addr} {c : Int} (P : Pen G p l c) (h : G q = none) : q ≠ p := fun e => by
  obtain ⟨n, g, ns, h1, _⟩ := P
  rw [e, h1] at h
  cases h
theorem Pen.nel {G : Hp} {p l q : Addr} {c : Int} (P : Pen G p l c) (h : G q = none) : q ≠ l := fun e => by
  obtain ⟨n, g, ns, _, h1, _⟩ := P
  rw [e, h1] at h
  cases h
theorem Pen.new {G : Hp} {p l q : Addr} {c : Int} {o : HO} (P : Pen G p l c) (h : G q = none) : Pen (L2.upd G q o) p l c := P.upd (P.ne h) (P.nel h)
/-- a number below m is drawn -/
def spDraw : Sp := fun vs G Q _ => ∃ (p l : Addr) (c m : Int), vs = [.ref p, .int m] ∧ Pen G p l c ∧ c ≤ 1000000 ∧ 0 < m ∧ m ≤ 1000000 ∧ ∀ (d : Int) (G' : Hp), 0 ≤ d → d < m → Kp p G G' → Pen G' p l (c + 1) → Q (.int d) G'
/-- one of some things is drawn -/
def spPick (K : PySem.W.Frag) : Sp := fun vs G Q _ => ∃ (p l a : Addr) (c : Int) (xs : List V), vs = [.ref p, .ref a] ∧ Pen G p l c ∧ c ≤ 1000000 ∧ a ≠ p ∧ SqL K G a xs ∧ 0 < xs.length ∧ xs.length ≤ 1000000 ∧
  ∀ (x : V) (G' : Hp), x ∈ xs → Kp p G G' → Pen G' p l (c + 1) → Q x G'
/-- the pen is made -/
def spPen (K : PySem.W.Frag) : Sp := fun vs G Q _ => ∃ (a : Addr) (ns : List Int), vs = [.ref a] ∧ SqL K G a (ns.map V.int) ∧ ∀ (p l : Addr) (G' : Hp), G p = none → Same G G' → Pen G' p l 0 → Q (.ref p) G'
theorem Kp.seq {K : PySem.W.Frag} {p a : Addr} {G G' : Hp} {xs : List V} (k : Kp p G G') (n : a ≠ p) (h : SqL K G a xs) : SqL K G' a xs := by
  rcases h with (h | ⟨o, h⟩) | h
  · exact .inl (.inl (k _ _ n h))
  · exact .inl (.inr ⟨o, k _ _ n h⟩)
  · exact .inr h

/-! ### data -/
theorem dp_ints {K : PySem.W.Frag} {G : Hp} : ∀ ns : List Int, DpAll K G (ns.map V.int) (ns.map PyData.int)
  | [] => .nil
  | a :: r => .cons (.int a) (dp_ints r)
theorem dp_strs {K : PySem.W.Frag} {G : Hp} : ∀ xs : List Str, DpAll K G (xs.map V.str) (xs.map PyData.str)
  | [] => .nil
  | a :: r => .cons (.str a) (dp_strs r)
theorem lay_ints : ∀ ns : List Int, PyData.canLayAll0 (ns.map PyData.int) = true ∧ PyData.depthAll (ns.map PyData.int) = 0
  | [] => ⟨rfl, rfl⟩
  | a :: r => ⟨by show (true && PyData.canLayAll0 (r.map PyData.int)) = true; rw [(lay_ints r).1]; rfl, by show max 0 (PyData.depthAll (r.map PyData.int)) = 0; rw [(lay_ints r).2]; rfl⟩
/-- signs that are signs -/
def txt (x : Str) : Bool := x.cps.all (· < 0x110000)
theorem shaped_ints (ns : List Int) : SeqAt.shaped (.list (ns.map PyData.int)) = true := by
  show (PyData.canLayAll0 (ns.map PyData.int) && decide (PyData.depthAll (ns.map PyData.int) + 1 ≤ 64)) = true
  rw [(lay_ints ns).1, (lay_ints ns).2]
  rfl
theorem eqv_nil_r (ds : List PyData) : PyData.eqv (.list ds) (.list []) = decide (ds = []) := by
  cases ds with
  | nil => rfl
  | cons a r => rfl
theorem mod_lt (a b : Int) (h : 0 < b) : 0 ≤ a % b ∧ a % b < b := ⟨Int.emod_nonneg _ (by omega), Int.emod_lt_of_pos _ h⟩
theorem mod_at {xs : List V} (a : Int) (h : 0 < xs.length) : ∃ v, atI xs (a % (xs.length : Int)) = some v ∧ v ∈ xs := by
  have hm := mod_lt a (xs.length : Int) (by omega)
  have hl : (a % (xs.length : Int)).toNat < xs.length := by omega
  refine ⟨xs[(a % (xs.length : Int)).toNat], ?_, List.getElem_mem hl⟩
  have h2 : xs[(a % (xs.length : Int)).toNat]? = some xs[(a % (xs.length : Int)).toNat] := List.getElem?_eq_getElem hl
  have h3 := atI_nat h2
  rwa [Int.toNat_of_nonneg hm.1] at h3
theorem at_lt {xs : List V} (d : Int) (h0 : 0 ≤ d) (h : d < xs.length) : ∃ v, atI xs d = some v ∧ xs[d.toNat]? = some v ∧ v ∈ xs := by
  have hl : d.toNat < xs.length := by omega
  refine ⟨xs[d.toNat], ?_, List.getElem?_eq_getElem hl, List.getElem_mem hl⟩
  have h3 := atI_nat (List.getElem?_eq_getElem hl)
  rwa [Int.toNat_of_nonneg h0] at h3
theorem mem_ints {ns : List Int} {v : V} (h : v ∈ ns.map V.int) : ∃ i, v = V.int i := by
  obtain ⟨i, _, rfl⟩ := List.mem_map.mp h
  exact ⟨i, rfl⟩

theorem pow18 : (10 : Int) ^ (18 : Int).toNat = 1000000000000000000 := by decide +kernel
theorem draw_bound (x n A B b : Int) (hx : 0 ≤ x ∧ x < 2147483648) (hn : 0 ≤ n ∧ n ≤ 1000000) (hA : 0 ≤ A ∧ A ≤ 100000) (hB : 0 ≤ B ∧ B ≤ 100000) (hb : 0 ≤ b ∧ b ≤ 100000) : (x * (2 * n + b) + A * n * n + B).natAbs < 2 ^ 64 := by
  have h1 : x * (2 * n + b) ≤ 2147483648 * 2100000 := Int.mul_le_mul (by omega) (by omega) (by omega) (by omega)
  have h2 : 0 ≤ x * (2 * n + b) := Int.mul_nonneg hx.1 (by omega)
  have h3 : A * n ≤ 100000 * 1000000 := Int.mul_le_mul hA.2 hn.2 hn.1 (by omega)
  have h4 : 0 ≤ A * n := Int.mul_nonneg hA.1 hn.1
  have h5 : A * n * n ≤ 100000 * 1000000 * 1000000 := Int.mul_le_mul h3 hn.2 hn.1 (by omega)
  have h6 : 0 ≤ A * n * n := Int.mul_nonneg h4 hn.1
  omega
theorem great_nonneg (x : Int) (b : Bool) (h : 1000000000000000000 ≤ x) : 0 ≤ 2 * (x - 1000000000000000000) + (if b = true then (1 : Int) else 0) := by
  have hb : (0 : Int) ≤ (if b = true then (1 : Int) else 0) := by cases b <;> decide
  omega

/-! ### words -/
def ltr (c : Nat) : Bool := decide (97 ≤ c) && decide (c ≤ 122)
/-- 1 to m letters -/
def lettersS (x : Str) (m : Int) : Bool := (decide (1 ≤ (x.length : Int)) && decide ((x.length : Int) ≤ m)) && x.cps.toList.all ltr
def lettersV (v : V) (m : Int) : Bool := match v with
  | .str x => lettersS x m
  | _ => false
def wordS (x : Str) : Bool := lettersS x 10
def wordV (v : V) : Bool := lettersV v 10
/-- a value whose type is known: a text of a small size, or something else -/
def Known (K : PySem.W.Frag) (G : Hp) (v : V) : Prop := (∃ x, v = .str x ∧ x.length ≤ 1000000) ∨ ((∀ x, v ≠ .str x) ∧ ∃ t, TyX K G v t ∧ PySem.W.kitOne K t (.type "str") = some false)
def spLetters (K : PySem.W.Frag) : Sp := fun vs G Q _ => ∃ (v : V) (m : Int), vs = [v, .int m] ∧ Known K G v ∧ ∀ G', Same G G' → Q (.bl (lettersV v m)) G'
def spIsWord (K : PySem.W.Frag) : Sp := fun vs G Q _ => ∃ (v : V), vs = [v] ∧ Known K G v ∧ ∀ G', Same G G' → Q (.bl (wordV v)) G'
theorem lettersV_other {v : V} {m : Int} (h : ∀ x, v ≠ .str x) : lettersV v m = false := by
  cases v with
  | str x => exact absurd rfl (h x)
  | _ => rfl
theorem big_line {n : Nat} (h : n ≤ 1000000) : n ≤ sizeLine := Nat.le_trans h (by decide)
theorem big_line' {n : Nat} (h : n ≤ 1000000) : n < sizeLine := Nat.lt_of_le_of_lt h (by decide)
theorem Same.fresh {q : Addr} {G G' : Hp} {o : HO} (k : Same G G') (h : G q = none) : Same G (upd G' q o) := fun b u e => by
  rw [upd_ne (ne_of_none e h)]
  exact k b u e
theorem take_get {α : Type} {l : List α} {i : Nat} {a : α} (h : l[i]? = some a) : l.take (i + 1) = l.take i ++ [a] := by
  obtain ⟨h1, h2⟩ := List.getElem?_eq_some_iff.mp h
  rw [List.take_succ, h]
  rfl
end Qh
set_option Elab.async false
set_option linter.all false
set_option maxRecDepth 100000
set_option maxHeartbeats 4000000
namespace K05
open PySem PySem.Spec PyProof.Rows L2 Qh
def top (i : Nat) : Stmt := PySem.Challenge.pw_quotehome_k05_whole_endings_taken_off.main.body.getD i (.Pass ⟨0, 0, 0, 0⟩)
abbrev sPen : Stmt := top 19
abbrev sDraw : Stmt := top 20
abbrev sPick : Stmt := top 21
section
variable {P : Program} {w : World} {K : PySem.W.Frag} {mg : Str → Option Value} {base : Heap}
theorem scPen : FnScope ["_law_script"] ["_law_script"] (defScope sPen) := ⟨rfl, rfl, rfl, by decide +kernel, rfl, by decide +kernel, by decide +kernel⟩
theorem ok_pen (D : DefIn K mg "_law_pen" sPen) (B : Blt mg) : Ok P w K mg base "_law_pen" (defArgs sPen) ["_law_script"] 1 (spPen K) := by
  refine D.ok scPen (fun vs G Q E h => ?_) (fun _ _ _ _ _ _ us hl => match us, hl with | [_], _ => rfl) (fun f cdv A out t G vs Q E hr h => ?_)
  · obtain ⟨a, ns, rfl, _⟩ := h
    rfl
  · obtain ⟨a, ns, rfl, hS, k⟩ := h
    refine ⟨_, pss_one (ps_ret (pe_lst (pa_cons (pe_callTy call_list_of (by rfl) B.n_list bt_list (pa_cons (pe_slice sl_list (pv 0) po_none (po_some pe_int)) pa_nil)) (pa_cons pe_int (pa_cons pe_int pa_nil))))), ?_⟩
    refine ⟨_, rfl, 63, rfl, a, ns.map V.int, rfl, hS, fun q hq => ?_⟩
    refine ⟨q, _, rfl, .inl (SqL.of upd_same), fun l hl => ?_⟩
    refine ⟨by show 3 ≤ sizeLine; decide, fun p hp => ?_⟩
    have lq : l ≠ q := fun e => by rw [e, upd_same] at hl; cases hl
    have pl : p ≠ l := fun e => by rw [e, upd_same] at hp; cases hp
    have pq : p ≠ q := fun e => by rw [e, upd_ne lq.symm, upd_same] at hp; cases hp
    have nl : G l = none := by rw [upd_ne lq] at hl; exact hl
    have np : G p = none := by rw [upd_ne pl, upd_ne pq] at hp; exact hp
    have hcut : cutV (ns.map V.int) none (some 63) = (ns.take 63).map V.int := by
      unfold cutV
      rw [HT.sIx_none, show (some (63 : Int)) = some ((63 : Nat) : Int) from rfl, HT.sIx_nat, List.drop_zero, Nat.sub_zero, List.map_take]
      by_cases h : 63 ≤ (ns.map V.int).length
      · rw [Nat.min_eq_left h]
      · rw [Nat.min_eq_right (by omega), List.take_of_length_le (Nat.le_refl _), List.take_of_length_le (by omega)]
    refine k p l _ np (fun b o e => ?_) ⟨0, 0, ns.take 63, upd_same, ?_, pl.symm, Int.le_refl _, Int.le_refl _, Int.le_refl _⟩
    · rw [upd_ne (ne_of_none e np), upd_ne (ne_of_none e nl), upd_ne (ne_of_none e hq)]
      exact e
    · rw [upd_ne pl.symm, upd_same, hcut]
theorem scDraw : FnScope ["_law_pen_here", "_law_many", "_law_digit", "_law_at", "_law_cell", "_law_great", "_law_mixed"] ["_law_pen_here", "_law_many"] (defScope sDraw) := ⟨rfl, rfl, rfl, by decide +kernel, rfl, by decide +kernel, by decide +kernel⟩

theorem ok_draw (D : DefIn K mg "_law_draw" sDraw) (B : Blt mg) : Ok P w K mg base "_law_draw" (defArgs sDraw) ["_law_pen_here", "_law_many"] 1 spDraw := by
  refine D.ok scDraw (fun vs G Q E h => ?_) (fun _ _ _ _ _ _ us hl => match us, hl with | [_, _], _ => rfl) (fun f cdv A out t G vs Q E hr h => ?_)
  · obtain ⟨p, l, c, m, rfl, _⟩ := h
    rfl
  · obtain ⟨p, l, c, m, rfl, ⟨n, g, ns, hp, hl, lp, n0, nc, g0⟩, hc, m0, mm, k⟩ := h
    have hu64 := hr.units
    refine ⟨_, (pss_cons (ps_if (pt_cmpR op_gt (pe_ix ix_list (pv 0) pe_int (fun _ _ => rfl)) pe_int (nomark _)) (pss_cons (ps_set (i := 2) scDraw.nd rfl (by first | exact Or.inl rfl | exact Or.inr rfl) (pe_op op_mod (pe_callTy call_int1 (by rfl) B.n_int bt_int (pa_cons (pe_ix ix_list (pv 0) pe_int (fun _ _ => rfl)) pa_nil)) (pv 1)))
    (pss_cons (ps_asg (pe_op op_fdiv (pe_callTy call_int1 (by rfl) B.n_int bt_int (pa_cons (pe_ix ix_list (pv 0) pe_int (fun _ _ => rfl)) pa_nil)) (pv 1)) (pg_sub (pv 0) pe_int set_list))
    (pss_one (ps_ret (pv 2))))) pss_nil)
    (pss_cons (ps_set (i := 3) scDraw.nd rfl (by first | exact Or.inl rfl | exact Or.inr rfl) (pe_ix ix_list (pv 0) pe_int (fun _ _ => rfl)))
    (pss_cons (ps_asg (pe_op op_add (pv 3) pe_int) (pg_sub (pv 0) pe_int set_list))
    (pss_cons (ps_set (i := 4) scDraw.nd rfl (by first | exact Or.inl rfl | exact Or.inr rfl) (pe_op op_add (pe_op op_mul pe_int (pv 3)) pe_int))
    (pss_cons (ps_if (pt_cmpR (op_neD hu64) (pe_ix ix_list (pv 0) pe_int (fun _ _ => rfl)) (pe_lst pa_nil) (nomark _)) (pss_one (ps_set (i := 4) scDraw.nd rfl (by first | exact Or.inl rfl | exact Or.inr rfl) (pe_ix ix_list (pe_ix ix_list (pv 0) pe_int (fun _ _ => rfl)) (pe_op op_mod (pe_callTy call_int1 (by rfl) B.n_int bt_int (pa_cons (pv 3) pa_nil)) (pe_callB call_len (by rfl) B.n_len bt_len (pa_cons (pe_ix ix_list (pv 0) pe_int (fun _ _ => rfl)) pa_nil))) (fun _ _ => rfl)))) pss_nil)
    (pss_cons (ps_if (PW.pt (pw_and (pt_cmpR op_lt (pv 3) (pe_callB call_len (by rfl) B.n_len bt_len (pa_cons (pe_ix ix_list (pv 0) pe_int (fun _ _ => rfl)) pa_nil)) (nomark _)) (pw_and1 (pt_cmpR op_ge (pe_callB call_abs (by rfl) B.n_abs bt_abs (pa_cons (pv 4) pa_nil)) (pe_op op_pow pe_int pe_int) (nomark _))))) (pss_cons (ps_set (i := 5) scDraw.nd rfl (by first | exact Or.inl rfl | exact Or.inr rfl) (pe_op op_add (pe_op op_mul pe_int (pe_op op_sub (pe_callB call_abs (by rfl) B.n_abs bt_abs (pa_cons (pv 4) pa_nil)) (pe_op op_pow pe_int pe_int))) (pe_callTy call_int1 (by rfl) B.n_int bt_int (pa_cons (pe_cmpR op_lt (pv 4) pe_int (nomark _)) pa_nil))))
    (pss_cons (ps_asg (pe_op op_fdiv (pe_callTy call_int1 (by rfl) B.n_int bt_int (pa_cons (pv 5) pa_nil)) (pv 1)) (pg_sub (pv 0) pe_int set_list))
    (pss_one (ps_ret (pe_op op_mod (pe_callTy call_int1 (by rfl) B.n_int bt_int (pa_cons (pv 5) pa_nil)) (pv 1)))))) pss_nil)
    (pss_cons (ps_set (i := 6) scDraw.nd rfl (by first | exact Or.inl rfl | exact Or.inr rfl) (pe_op op_mod (pe_callTy call_int1 (by rfl) B.n_int bt_int (pa_cons (pe_op op_pow (pe_op op_add (pe_op op_add (pe_op op_mod (pe_callTy call_int1 (by rfl) B.n_int bt_int (pa_cons (pv 4) pa_nil)) pe_int) (pe_op op_mul pe_int (pv 3))) pe_int) pe_int) pa_nil)) pe_int))
    (pss_cons (ps_set (i := 6) scDraw.nd rfl (by first | exact Or.inl rfl | exact Or.inr rfl) (pe_op op_mod (pe_callTy call_int1 (by rfl) B.n_int bt_int (pa_cons (pe_op op_pow (pe_op op_add (pe_op op_add (pe_op op_mul (pv 6) (pe_op op_add (pe_op op_mul pe_int (pv 3)) pe_int)) (pe_op op_mul (pe_op op_mul pe_int (pv 3)) (pv 3))) pe_int) pe_int) pa_nil)) pe_int))
    (pss_one (ps_ret (pe_op op_mod (pe_callTy call_int1 (by rfl) B.n_int bt_int (pa_cons (pe_op op_fdiv (pv 6) pe_int) pa_nil)) (pv 1)))))))))))), ?_⟩
    refine ⟨_, rfl, p, _, _, _, rfl, rfl, SqL.of hp, rfl, _, _, rfl, rfl, _, rfl, ?_⟩
    refine ite2 (fun hg => ?_) (fun hg => ?_)
    · have hg := of_decide_eq_true hg
      refine ⟨_, rfl, p, _, _, _, rfl, rfl, SqL.of hp, rfl, .inl ⟨_, rfl, _, rfl, _, _, rfl, rfl, m0, ?_⟩⟩
      refine ⟨_, rfl, p, _, _, _, rfl, rfl, SqL.of hp, rfl, .inl ⟨_, rfl, _, rfl, _, _, rfl, rfl, ⟨m0, by omega⟩, _, rfl, p, _, _, 2, rfl, rfl, hp, rfl, ?_⟩⟩
      refine ⟨_, rfl, ?_⟩
      refine k (g % m) _ (mod_lt g m m0).1 (mod_lt g m m0).2 Kp.self ⟨n, g / m, ns, upd_same, ?_, lp, n0, by omega, Int.ediv_nonneg g0 (by omega)⟩
      rw [upd_ne lp]
      exact hl
    · -- at = pen[1]; pen[1] = at + 1; cell = ..
      refine ⟨_, rfl, p, _, _, _, rfl, rfl, SqL.of hp, rfl, ?_⟩
      refine ⟨_, rfl, _, _, rfl, rfl, _, rfl, p, _, _, 1, rfl, rfl, hp, rfl, ?_⟩
      have hp1 : (upd G p (.lst [.ref l, .int (n + 1), .int g])) p = some (.lst [.ref l, .int (n + 1), .int g]) := upd_same
      have hl1 : (upd G p (.lst [.ref l, .int (n + 1), .int g])) l = some (.lst (ns.map V.int)) := by
        rw [upd_ne lp]
        exact hl
      refine ⟨_, rfl, _, _, rfl, rfl, .inl ⟨by decide, by decide⟩, _, _, rfl, rfl, ?_⟩
      -- if pen[0] != []
      refine ⟨_, rfl, p, _, _, _, rfl, rfl, SqL.of hp1, rfl, by show 0 ≤ sizeLine; decide, fun q hq => ?_⟩
      have lq : l ≠ q := ne_of_none hl1 hq
      have pq : p ≠ q := ne_of_none hp1 hq
      have hl2 : (upd (upd G p (.lst [.ref l, .int (n + 1), .int g])) q (.lst [])) l = some (.lst (ns.map V.int)) := by
        rw [upd_ne lq]
        exact hl1
      have hp2 : (upd (upd G p (.lst [.ref l, .int (n + 1), .int g])) q (.lst [])) p = some (.lst [.ref l, .int (n + 1), .int g]) := by
        rw [upd_ne pq]
        exact hp1
      have nq : G q = none := by
        rw [upd_ne pq.symm] at hq
        exact hq
      have kp2 : Kp p G (upd (upd G p (.lst [.ref l, .int (n + 1), .int g])) q (.lst [])) := Kp.fresh Kp.self nq
      have hq2 : (upd (upd G p (.lst [.ref l, .int (n + 1), .int g])) q (.lst [])) q = some (.lst []) := upd_same
      refine ⟨.list (ns.map PyData.int), .list [], .lst (SqL.of hl2) (dp_ints ns), .lst (SqL.of hq2) .nil, shaped_ints ns, rfl, _, rfl, ?_⟩
      rw [eqv_nil_r]
      refine ite2 (fun hne => ?yes) (fun hne => ?no)
      case' yes =>
        have hz : 0 < (ns.map V.int).length := by
          cases ns with
          | nil => exact absurd hne (by decide)
          | cons a r => exact Nat.succ_pos _
        obtain ⟨v, hv, hm⟩ := mod_at (xs := ns.map V.int) n hz
        obtain ⟨cell, rfl⟩ := mem_ints hm
        refine ⟨_, rfl, p, _, _, _, rfl, rfl, SqL.of hp2, rfl, _, rfl, .inl ⟨_, rfl, ?_⟩⟩
        refine ⟨_, rfl, p, _, _, _, rfl, rfl, SqL.of hp2, rfl, .ref l, _, rfl, .inl ⟨_, SqL.of hl2, rfl⟩, _, _, rfl, rfl, by omega, l, _, _, _, rfl, rfl, SqL.of hl2, hv, ?_⟩
      all_goals
        refine ⟨_, rfl, _, rfl, p, _, _, _, rfl, rfl, SqL.of hp2, rfl, .ref l, _, rfl, .inl ⟨_, SqL.of hl2, rfl⟩, _, _, rfl, rfl, _, rfl, ?_⟩
        refine ite2 (fun _ => ?_) (fun _ => ?_)
        case' _ =>
          refine ⟨_, rfl, _, rfl, _, _, rfl, rfl, ⟨by decide, by decide, by decide⟩, _, _, rfl, rfl, _, rfl, ?_⟩
          rw [pow18]
          refine ite2 (fun hbig => ?_) (fun hbig => ?_)
          case _ =>
            have hbig := of_decide_eq_true hbig
            refine ⟨_, rfl, _, rfl, _, _, rfl, rfl, ⟨by decide, by decide, by decide⟩, _, _, rfl, rfl, _, _, rfl, rfl, .inl ⟨by decide, by decide⟩, _, rfl, _, _, rfl, rfl, .inr ⟨_, rfl, _, _, rfl, rfl, ?_⟩⟩
            refine ⟨_, rfl, .inl ⟨_, rfl, _, rfl, _, _, rfl, rfl, ⟨m0, by omega⟩, _, rfl, p, _, _, 2, rfl, rfl, hp2, rfl, ?_⟩⟩
            refine ⟨_, rfl, .inl ⟨_, rfl, _, rfl, _, _, rfl, rfl, m0, ?_⟩⟩
            refine k _ _ (mod_lt _ m m0).1 (mod_lt _ m m0).2 (Kp.trans kp2 Kp.self) ⟨n + 1, _, ns, upd_same, ?_, lp, by omega, by omega, Int.ediv_nonneg ?_ (by omega)⟩
            · rw [upd_ne lp]
              exact hl2
            · rw [pow18]
              exact great_nonneg _ _ hbig
        all_goals
          refine ⟨_, rfl, .inl ⟨_, rfl, _, _, rfl, rfl, by show (0 : Int) < _; decide, _, rfl, _, _, rfl, rfl, .inl ⟨by decide, by decide⟩, _, _, rfl, rfl, _, _, rfl, rfl, _, _, rfl, rfl, ⟨by decide, by decide, ?_⟩, .inl ⟨_, rfl, _, _, rfl, rfl, by show (0 : Int) < _; decide, ?_⟩⟩⟩
          · omega
          refine ⟨_, rfl, _, rfl, _, _, rfl, rfl, .inl ⟨by decide, by decide⟩, _, _, rfl, rfl, _, _, rfl, rfl, .inr ⟨by omega, by omega⟩, ?_⟩
          refine ⟨_, rfl, _, _, rfl, rfl, .inl ⟨by decide, by decide⟩, _, rfl, _, _, rfl, rfl, .inr ⟨by omega, by omega⟩, _, _, rfl, rfl, _, _, rfl, rfl, _, _, rfl, rfl, ⟨by decide, by decide, ?_⟩, .inl ⟨_, rfl, _, _, rfl, rfl, by show (0 : Int) < _; decide, ?_⟩⟩
          · exact draw_bound _ _ _ _ _ ⟨(mod_lt _ _ (by decide)).1, Int.lt_trans (mod_lt _ _ (by decide)).2 (by decide)⟩ ⟨n0, by omega⟩ (by decide) (by decide) (by decide)
          refine ⟨_, rfl, _, _, rfl, rfl, ⟨by decide, by decide⟩, .inl ⟨_, rfl, _, rfl, _, _, rfl, rfl, m0, ?_⟩⟩
          exact k _ _ (mod_lt _ m m0).1 (mod_lt _ m m0).2 kp2 ⟨n + 1, g, ns, hp2, hl2, lp, by omega, by omega, g0⟩
theorem scPick : FnScope ["_law_pen_here", "_law_some"] ["_law_pen_here", "_law_some"] (defScope sPick) := ⟨rfl, rfl, rfl, by decide +kernel, rfl, by decide +kernel, by decide +kernel⟩
theorem ok_pick (D : DefIn K mg "_law_pick" sPick) (B : Blt mg) (F__law_draw : Ok P w K mg base "_law_draw" (defArgs sDraw) ["_law_pen_here", "_law_many"] 1 spDraw) : Ok P w K mg base "_law_pick" (defArgs sPick) ["_law_pen_here", "_law_some"] 2 (spPick K) := by
  refine D.ok scPick (fun vs G Q E h => ?_) (fun _ _ _ _ _ _ us hl => match us, hl with | [_, _], _ => rfl) (fun f cdv A out t G vs Q E hr h => ?_)
  · obtain ⟨p, l, a, c, xs, rfl, _⟩ := h
    rfl
  · obtain ⟨p, l, a, c, xs, rfl, hP, hc, ha, hS, h0, h1, k⟩ := h
    refine ⟨_, pss_one (ps_ret (pe_ix ix_list (pv 1) (pe_own F__law_draw (hr.mono (by decide)) takes0 (pa_cons (pv 0) (pa_cons (pe_callB call_len (by rfl) B.n_len bt_len (pa_cons (pv 1) pa_nil)) pa_nil))) (fun _ _ => rfl))), ?_⟩
    refine ⟨_, rfl, _, rfl, _, rfl, .ref a, _, rfl, .inl ⟨xs, hS, rfl⟩, p, l, c, (xs.length : Int), rfl, hP, hc, by omega, by omega, fun d G' d0 dm kp P' => ?_⟩
    obtain ⟨v, hv, _, hm⟩ := at_lt d d0 dm
    exact ⟨a, xs, d, v, rfl, rfl, kp.seq ha hS, hv, k v G' hm kp P'⟩
end
end K05
set_option Elab.async false
set_option linter.all false
set_option maxRecDepth 100000
set_option maxHeartbeats 4000000
/-! Texts of letters by isascii, isalpha, islower. -/
namespace Qh
open PySem PySem.Spec PyProof.Rows L2
theorem uni128 : ∀ c : Fin 128, (Unicode.isAlpha c.val && !(Unicode.isUpper c.val || Unicode.isTitle c.val)) = ltr c.val ∧ (ltr c.val = true → Unicode.isLower c.val = true) := by decide +kernel
theorem uni_all (l : List Nat) (h : l.all (fun c => decide (c < 128)) = true) : (l.all Unicode.isAlpha && !l.any fun c => Unicode.isUpper c || Unicode.isTitle c) = l.all ltr := by
  induction l with
  | nil => rfl
  | cons a r ih =>
    rw [List.all_cons, Bool.and_eq_true] at h
    have ha := of_decide_eq_true h.1
    have h1 := (uni128 ⟨a, ha⟩).1
    have ih := ih h.2
    simp only [List.all_cons, List.any_cons, Bool.not_or]
    rw [← ih, ← h1]
    simp only [Bool.not_or]
    cases Unicode.isAlpha a <;> cases Unicode.isUpper a <;> cases Unicode.isTitle a <;> simp
theorem ltr_ascii (c : Nat) (h : ltr c = true) : c < 128 := by
  unfold ltr at h
  simp at h
  omega
theorem letters_now (x : Str) : (if Txt.isascii x = true then (if Txt.isalpha x = true then Txt.islower x else false) else false) = (decide (1 ≤ (x.length : Int)) && x.cps.toList.all ltr) := by
  have e1 : Txt.isascii x = x.cps.toList.all (fun c => decide (c < 128)) := by
    unfold Txt.isascii
    rw [← Array.all_toList]
  have e2 : Txt.isalpha x = (decide (x.length > 0) && x.cps.toList.all Unicode.isAlpha) := by
    unfold Txt.isalpha
    rw [← Array.all_toList]
  have e3 : Txt.islower x = (x.cps.toList.any Unicode.isLower && !x.cps.toList.any fun c => Unicode.isUpper c || Unicode.isTitle c) := by
    unfold Txt.islower
    rw [← Array.any_toList, ← Array.any_toList]
  have el : x.length = x.cps.toList.length := by simp [Str.length]
  rw [e1, e2, e3, el]
  generalize x.cps.toList = l
  cases ha : l.all (fun c => decide (c < 128)) with
  | false =>
    have : l.all ltr = false := by
      cases hl : l.all ltr with
      | false => rfl
      | true =>
        rw [List.all_eq_true] at hl
        rw [← ha]
        symm
        rw [List.all_eq_true]
        exact fun c hc => decide_eq_true (ltr_ascii c (hl c hc))
    rw [this]
    simp
  | true =>
    have h := uni_all l ha
    cases l with
    | nil => rfl
    | cons a r =>
      have hlow : (a :: r).all ltr = true → (a :: r).any Unicode.isLower = true := fun hh => by
        rw [List.all_eq_true] at hh
        rw [List.any_eq_true]
        have h1 := hh a (List.mem_cons_self)
        exact ⟨a, List.mem_cons_self, (uni128 ⟨a, ltr_ascii a h1⟩).2 h1⟩
      rw [← h] at hlow ⊢
      rw [if_pos rfl]
      have p1 : decide ((a :: r).length > 0) = true := decide_eq_true (Nat.succ_pos _)
      have p2 : decide (1 ≤ (((a :: r).length : Nat) : Int)) = true := by
        refine decide_eq_true ?_
        have := Nat.succ_pos r.length
        rw [List.length_cons]
        omega
      rw [p1, p2]
      revert hlow
      generalize (a :: r).all Unicode.isAlpha = p
      generalize (a :: r).any Unicode.isLower = q
      generalize ((a :: r).any fun c => Unicode.isUpper c || Unicode.isTitle c) = s
      intro hlow
      cases p <;> cases q <;> cases s <;> simp at hlow ⊢
end Qh
set_option Elab.async false
set_option linter.all false
set_option maxRecDepth 100000
set_option maxHeartbeats 4000000
namespace K05
open PySem PySem.Spec PyProof.Rows L2 Qh
abbrev sLetters : Stmt := top 5
abbrev sIsWord : Stmt := top 6
abbrev sIsEnding : Stmt := top 12
/-- is_ending -/
def endingV (v : V) : Bool := lettersV v 4
def spIsEnding (K : PySem.W.Frag) : Sp := fun vs G Q _ => ∃ v, vs = [v] ∧ Known K G v ∧ ∀ G', Same G G' → Q (.bl (endingV v)) G'
section
variable {P : Program} {w : World} {K : PySem.W.Frag} {mg : Str → Option Value} {base : Heap}
theorem scLetters : FnScope ["value", "most"] ["value", "most"] (defScope sLetters) := ⟨rfl, rfl, rfl, by decide +kernel, rfl, by decide +kernel, by decide +kernel⟩
theorem ok_letters (D : DefIn K mg "is_letters" sLetters) (B : Blt mg) : Ok P w K mg base "is_letters" (defArgs sLetters) ["value", "most"] 1 (spLetters K) := by
  refine D.ok scLetters (fun vs G Q E h => ?_) (fun _ _ _ _ _ _ us hl => match us, hl with | [_, _], _ => rfl) (fun f cdv A out t G vs Q E hr h => ?_)
  · obtain ⟨v, m, rfl, _⟩ := h
    rfl
  · obtain ⟨v, m, rfl, hv, k⟩ := h
    refine ⟨_, (pss_cons (ps_if (PW.pt (pw_or (pt_not (pt_val (pe_callB call_isi (by rfl) B.n_isinstance bt_isinstance (pa_cons (pv 0) (pa_cons (pe_bltn (v := .ty "str") (by rfl) B.n_str bt_str rfl) pa_nil))))) (pw_or1 (pt_cmpR op_gt (pe_callB call_len (by rfl) B.n_len bt_len (pa_cons (pv 0) pa_nil)) (pv 1) (nomark _))))) (pss_one (ps_ret pe_bl)) pss_nil)
      (pss_one (ps_ret (pe_and (pe_bm0 PySem.F.plainAttrs_str PySem.F.slot_str_isascii PySem.F.type_str_isascii mt_isascii (pv 0)) (pe_and (pe_bm0 PySem.F.plainAttrs_str PySem.F.slot_str_isalpha PySem.F.type_str_isalpha mt_isalpha (pv 0)) (pe_one (pe_bm0 PySem.F.plainAttrs_str PySem.F.slot_str_islower PySem.F.type_str_islower mt_islower (pv 0)))))))), ?_⟩
    rcases hv with ⟨x, rfl, hx⟩ | ⟨hno, ty, hty, hk⟩
    · refine ⟨_, rfl, _, _, _, _, _, rfl, .ty _, .base (.str x), kit_ty (r := true) (by decide +kernel), _, rfl, ?_⟩
      refine iteF ?_
      refine ⟨_, rfl, .str x, x.length, rfl, ⟨big_line hx, rfl⟩, _, rfl, _, _, rfl, rfl, _, rfl, ?_⟩
      have hk := k G (Same.refl G)
      have e : lettersV (.str x) m = (decide ((x.length : Int) ≤ m) && (decide (1 ≤ (x.length : Int)) && x.cps.toList.all ltr)) := by
        show lettersS x m = _
        unfold lettersS
        cases decide (1 ≤ (x.length : Int)) <;> cases decide ((x.length : Int) ≤ m) <;> rfl
      rw [e, ← letters_now] at hk
      refine ite2 (fun h1 => ?_) (fun h1 => ?_)
      · have h1 : decide ((x.length : Int) ≤ m) = false := by
          have := of_decide_eq_true h1
          exact decide_eq_false (by omega)
        rw [h1] at hk
        exact hk
      · have h1 : decide ((x.length : Int) ≤ m) = true := by
          have : ¬ ((x.length : Int) > m) := fun z => h1 (decide_eq_true z)
          exact decide_eq_true (by omega)
        rw [h1, Bool.true_and] at hk
        refine ⟨_, rfl, rfl, x, rfl, rfl, trivial, _, rfl, ?_⟩
        refine ite2 (fun h2 => ?_) (fun h2 => ?_)
        · rw [if_pos h2] at hk
          refine ⟨_, rfl, rfl, x, rfl, rfl, trivial, _, rfl, ?_⟩
          refine ite2 (fun h3 => ?_) (fun h3 => ?_)
          · rw [if_pos h3] at hk
            exact ⟨_, rfl, rfl, x, rfl, rfl, trivial, hk⟩
          · rw [if_neg h3] at hk
            exact hk
        · rw [if_neg h2] at hk
          exact hk
    · refine ⟨_, rfl, _, _, _, _, _, rfl, .ty _, hty, hk, _, rfl, ?_⟩
      refine iteT ?_
      have h := k G (Same.refl G)
      rw [lettersV_other hno] at h
      exact h
theorem scIsWord : FnScope ["value"] ["value"] (defScope sIsWord) := ⟨rfl, rfl, rfl, by decide +kernel, rfl, by decide +kernel, by decide +kernel⟩
theorem ok_isWord (D : DefIn K mg "is_word" sIsWord) (hM : ∃ t, mg "MOST_LETTERS" = some (.int 10 t)) (F_is_letters : Ok P w K mg base "is_letters" (defArgs sLetters) ["value", "most"] 1 (spLetters K)) : Ok P w K mg base "is_word" (defArgs sIsWord) ["value"] 2 (spIsWord K) := by
  refine D.ok scIsWord (fun vs G Q E h => ?_) (fun _ _ _ _ _ _ us hl => match us, hl with | [_], _ => rfl) (fun f cdv A out t G vs Q E hr h => ?_)
  · obtain ⟨v, rfl, _⟩ := h
    rfl
  · obtain ⟨v, rfl, hv, k⟩ := h
    obtain ⟨tk, hM⟩ := hM
    refine ⟨_, pss_one (ps_ret (pe_own F_is_letters (hr.mono (by decide)) takes0 (pa_cons (pv 0) (pa_cons (pe_glob (v := .int 10) rfl hM ⟨_, rfl⟩) pa_nil)))), ?_⟩
    exact ⟨_, rfl, v, 10, rfl, hv, k⟩
theorem scIsEnding : FnScope ["value"] ["value"] (defScope sIsEnding) := ⟨rfl, rfl, rfl, by decide +kernel, rfl, by decide +kernel, by decide +kernel⟩
theorem ok_isEnding (D : DefIn K mg "is_ending" sIsEnding) (hM : ∃ t, mg "MOST_ENDING_LETTERS" = some (.int 4 t)) (F_is_letters : Ok P w K mg base "is_letters" (defArgs sLetters) ["value", "most"] 1 (spLetters K)) : Ok P w K mg base "is_ending" (defArgs sIsEnding) ["value"] 2 (spIsEnding K) := by
  refine D.ok scIsEnding (fun vs G Q E h => ?_) (fun _ _ _ _ _ _ us hl => match us, hl with | [_], _ => rfl) (fun f cdv A out t G vs Q E hr h => ?_)
  · obtain ⟨v, rfl, _⟩ := h
    rfl
  · obtain ⟨v, rfl, hv, k⟩ := h
    obtain ⟨tk, hM⟩ := hM
    refine ⟨_, pss_one (ps_ret (pe_own F_is_letters (hr.mono (by decide)) takes0 (pa_cons (pv 0) (pa_cons (pe_glob (v := .int 4) rfl hM ⟨_, rfl⟩) pa_nil)))), ?_⟩
    exact ⟨_, rfl, v, 4, rfl, hv, k⟩
end
end K05
set_option Elab.async false
set_option linter.all false
set_option maxRecDepth 100000
set_option maxHeartbeats 4000000
/-! Own errors with one field or more, made by their own __init__. -/
namespace Qh
open PySem PySem.Spec PyProof.Rows L2 TL
/-- the class at C as the top has left it -/
structure ErrC (K : PySem.W.Frag) (mg : Str → Option Value) (x : Str) (C : Addr) : Prop where
  g : mg x = some (.ref C)
  o : OexC K C
  xf : XfC K C
  ec : ExcC K C
/-- C.__init__(self, f): self.f = f -/
def spErr1 (C : Addr) (f : Str) : Sp := fun vs G Q _ => ∃ (a : Addr) (v : V), vs = [.ref a, v] ∧ G a = some (exo a C none) ∧ ∀ d, G d = none → d ≠ a → Q .non (upd (upd G d (exd d [(f, v)])) a (exo a C (some d)))
structure Err1 (P : Program) (w : World) (K : PySem.W.Frag) (mg : Str → Option Value) (base : Heap) (x f : Str) (C : Addr) : Prop where
  c : ErrC K mg x C
  no : PySem.W.findIn K (.ref C) f = some none
  init : ∃ (fI : Addr) (fd : FuncData), PySem.W.findIn K (.ref C) "__init__" = some (some (.ref fI)) ∧ PySem.W.typeIn K (.ref fI) = some (.type "function") ∧ Binds K fd ["self", f] [] ∧
    FnOk P w K mg base (L2.CX P w) 1 fI fd ["self", f] (spErr1 C f)
theorem err_heap {G : Hp} {a d C : Addr} {u : HO} {fs : List (Str × V)} (ha : G a = none) (hd : d ≠ a) :
    upd (del (upd (upd (upd G a (exo a C none)) d (exd d fs)) a (exo a C (some d))) a) d u = upd G d u := by
  funext b
  by_cases hb : b = d
  · subst hb
    rw [upd_same, upd_same]
  · rw [upd_ne hb, upd_ne hb]
    by_cases hba : b = a
    · subst hba
      rw [del_same, ha]
    · rw [del_ne hba, upd_ne hba, upd_ne hb, upd_ne hba]
section
variable {X : Cx} {x f : Str} {C : Addr} {e : Expr} {te : TE} {p pos : Pos}
end
/-! ### parts between blanks -/
def blank : Str := Str.ofString " "
def partsOf (x : Str) : List Str := Txt.split x blank
/-- what words_of tells of a value: the words, or the index of the first part that is none -/
def heardS (x : Str) : List Str ⊕ Nat := if x.length = 0 then .inl [] else match (partsOf x).findIdx? (fun p => !wordS p) with
  | none => .inl (partsOf x)
  | some i => .inr i
def heardV (v : V) : List Str ⊕ Nat := match v with
  | .str x => heardS x
  | _ => .inr 0
theorem findIdx_some {α : Type} {p : α → Bool} : ∀ {xs : List α} {i : Nat} {a : α}, xs[i]? = some a → p a = true → (∀ (j : Nat) (b : α), j < i → xs[j]? = some b → p b = false) → xs.findIdx? p = some i
  | [], i, a, h, _, _ => by simp at h
  | x :: r, 0, a, h, ha, _ => by
    have e : x = a := by simpa using h
    rw [List.findIdx?_cons, e, ha]
    rfl
  | x :: r, i + 1, a, h, ha, hb => by
    have h0 : p x = false := hb 0 x (by omega) (by simp)
    have ih := findIdx_some (p := p) (xs := r) (i := i) (a := a) (by simpa using h) ha fun j b hj hjb => hb (j + 1) b (by omega) (by simpa using hjb)
    rw [List.findIdx?_cons, h0, ih]
    rfl
theorem findIdx_none {α : Type} {p : α → Bool} : ∀ {xs : List α}, (∀ (j : Nat) (b : α), xs[j]? = some b → p b = false) → xs.findIdx? p = none
  | [], _ => rfl
  | x :: r, hb => by
    have h0 : p x = false := hb 0 x (by simp)
    have ih := findIdx_none (p := p) (xs := r) fun j b hjb => hb (j + 1) b (by simpa using hjb)
    rw [List.findIdx?_cons, h0, ih]
    rfl
theorem map_at {α β : Type} {f : α → β} {l : List α} {i : Nat} {b : β} (h : (l.map f)[i]? = some b) : ∃ a, l[i]? = some a ∧ b = f a := by
  rw [List.getElem?_map] at h
  cases e : l[i]? with
  | none => rw [e] at h; cases h
  | some a => rw [e] at h; exact ⟨a, rfl, (Option.some.inj h).symm⟩

/-! ### texts put together -/
theorem joinL_nil : ∀ ls : List (List Nat), joinL [] ls = ls.flatten
  | [] => rfl
  | [p] => by simp [joinL]
  | p :: q :: r => by
    have ih := joinL_nil (q :: r)
    show p ++ ([] ++ joinL [] (q :: r)) = _
    rw [ih]
    simp
def nothing : Str := Str.ofString ""
theorem tl_nothing : tl nothing = [] := by decide +kernel
theorem tl_glue (ys : List Str) : tl (Txt.join nothing ys) = (ys.map tl).flatten := by
  rw [join_eq, tl_join, tl_nothing, joinL_nil]
/-- signs that are plain and no blank -/
def clean (x : Str) : Bool := (tl x).all fun c => decide (c < 128) && decide (c ≠ 32)
theorem sum_le {l : List Nat} {m : Nat} (h : ∀ x ∈ l, x ≤ m) : l.sum ≤ l.length * m := by
  induction l with
  | nil => simp
  | cons a r ih =>
    have h1 := h a List.mem_cons_self
    have h2 := ih fun x hx => h x (List.mem_cons_of_mem _ hx)
    simp only [List.sum_cons, List.length_cons, Nat.succ_mul]
    omega
theorem glue_len {ys : List Str} : (Txt.join nothing ys).length = (ys.map (·.length)).sum := by
  rw [len_tl, tl_glue, List.length_flatten, List.map_map]
  exact congrArg List.sum (List.map_congr_left fun y _ => (len_tl y).symm)
section
variable {X : Cx}
end
/-- what is heard, as data -/
def heardD (v : V) : PyData := match heardV v with
  | .inl ps => .tuple [.str (Str.ofString "told"), .tuple (ps.map PyData.str)]
  | .inr i => .tuple [.str (Str.ofString "index"), .int (i : Int)]
def spHeard (K : PySem.W.Frag) : Sp := fun vs G Q _ => ∃ (v : V), vs = [v] ∧ Known K G v ∧ ∀ (q : Addr) (G' : Hp), Same G G' → Dp K G' (.ref q) (heardD v) → Q (.ref q) G'

def told (ps : List Str) : PyData := .tuple [.str (Str.ofString "told"), .tuple (ps.map PyData.str)]
def atIx (i : Nat) : PyData := .tuple [.str (Str.ofString "index"), .int (i : Int)]
/-- what is due of parts -/
def dueD (ys : List Str) : PyData := if ys = [] ∨ ys = [nothing] then told [] else match ys.findIdx? (fun p => !wordS p) with
  | none => told ys
  | some i => atIx i
def spDue (K : PySem.W.Frag) : Sp := fun vs G Q _ => ∃ (a : Addr) (ys : List Str), vs = [.ref a] ∧ SqL K G a (ys.map V.str) ∧ (∀ y ∈ ys, clean y = true ∧ y.length ≤ 1000) ∧ ys.length ≤ 1000 ∧ ∀ (q : Addr) (G' : Hp), Same G G' → Dp K G' (.ref q) (dueD ys) → Q (.ref q) G'
end Qh
set_option Elab.async false
set_option linter.all false
set_option maxRecDepth 100000
set_option maxHeartbeats 4000000
/-! New objects, told by what stands there and what stays; values that are no texts; repr of texts. -/
namespace Qh
open PySem PySem.Spec PyProof.Rows L2 TL
section
variable {X : Cx} {es : List Expr} {t : TA} {pos : Pos}
def nTup (t : TA) : TE := fun σ G Q => t σ G fun xs G1 => xs.length ≤ sizeLine ∧ ∀ p G', G1 p = none → Same G1 G' → G' p = some (.tup xs) → Q (.ref p) G'
def nLst (t : TA) : TE := fun σ G Q => t σ G fun xs G1 => xs.length ≤ sizeLine ∧ ∀ p G', G1 p = none → Same G1 G' → G' p = some (.lst xs) → Q (.ref p) G'
theorem pn_tup {x1} (h : PA X es t) : PE X (.Tuple es x1 pos) (nTup t) := by
  constructor
  intro pins s σ G Q I hq
  refine wpAny_Tuple_spliced (thn (h.run pos pins s σ G _ I hq) ?_)
  rintro us s1 ⟨xs, G1, I1, r, z, q⟩
  refine ⟨r.length ▸ z, ?_⟩
  have hf : G1 s1.heap.objs.size = none := I1.hok.fresh (Nat.le_refl _)
  refine ⟨.ref s1.heap.objs.size, L2.upd G1 s1.heap.objs.size (.tup xs), I1.laid (t' := s1.toks) (fun b u e => Heap.get?_push_of_some _ e) (Nat.le_refl _) ?_, rfl, q _ _ hf (Same.new hf) upd_same⟩
  exact ⟨z, us, r, ⟨_, Heap.get?_push_size _ rfl, rfl, _, rfl⟩⟩
theorem pn_lst (h : PA X es t) : PE X (.List es pos) (nLst t) := by
  constructor
  intro pins s σ G Q I hq
  refine wpAny_List_spliced (thn (h.run pos pins s σ G _ I hq) ?_)
  rintro us s1 ⟨xs, G1, I1, r, z, q⟩
  refine ⟨r.length ▸ z, ?_⟩
  have hf : G1 s1.heap.objs.size = none := I1.hok.fresh (Nat.le_refl _)
  refine ⟨.ref s1.heap.objs.size, L2.upd G1 s1.heap.objs.size (.lst xs), I1.laid (t' := s1.toks) (fun b u e => Heap.get?_push_of_some _ e) (Nat.le_refl _) ?_, rfl, q _ _ hf (Same.new hf) upd_same⟩
  exact ⟨z, us, 0, r, Heap.get?_push_size _ rfl⟩
theorem opr_imp {f : Value → Value → Sem Value} {r r' : R2} (h : OpR X f r) (k : ∀ x y G Q, r' x y G Q → r x y G Q) : OpR X f r' := fun pins s σ G x y v u Q I rx ry q => h pins s σ G x y v u Q I rx ry (k x y G Q q)
theorem callr_imp {f : Value} {r r' : List V → Hp → VK → Prop} (h : CallR X f r) (k : ∀ xs G Q, r' xs G Q → r xs G Q) : CallR X f r' := fun pins s σ G xs us Q I r q => h pins s σ G xs us Q I r (k xs G Q q)
def nCat : R2 := fun x y G Q => ∃ l b xs zs, x = .ref l ∧ y = .ref b ∧ G l = some (.lst xs) ∧ G b = some (.lst zs) ∧ xs.length + zs.length ≤ sizeLine ∧ ∀ p G', G p = none → Same G G' → G' p = some (.lst (xs ++ zs)) → Q (.ref p) G'
theorem on_cat : OpR X (binaryOp .Add) nCat := opr_imp op_cat fun x y G Q ⟨l, b, xs, zs, e1, e2, h1, h2, hz, q⟩ => ⟨l, b, xs, zs, e1, e2, h1, h2, hz, fun p hp => q p _ hp (Same.new hp) upd_same⟩
def nRep : R2 := fun x y G Q => ∃ l k xs, x = .ref l ∧ y = .int k ∧ G l = some (.lst xs) ∧ -(2 ^ 63) ≤ k ∧ k < 2 ^ 63 ∧ xs.length * k.toNat ≤ sizeLine ∧ ∀ p G', G p = none → Same G G' → G' p = some (.lst (List.replicate k.toNat xs).flatten) → Q (.ref p) G'
theorem on_rep : OpR X (binaryOp .Mult) nRep := opr_imp op_rep fun x y G Q ⟨l, k, xs, e1, e2, h1, h2, h3, hz, q⟩ => ⟨l, k, xs, e1, e2, h1, h2, h3, hz, fun p hp => q p _ hp (Same.new hp) upd_same⟩
def nList (K : PySem.W.Frag) : List V → Hp → VK → Prop := fun vs G Q => ∃ p ys, vs = [.ref p] ∧ (SqL K G p ys ∨ SqT K G p ys) ∧ ∀ l G', G l = none → Same G G' → G' l = some (.lst ys) → Q (.ref l) G'
theorem cn_list : CallR X (.type "list") (nList X.K) := callr_imp call_list_of fun xs G Q ⟨p, ys, e, h, q⟩ => ⟨p, ys, e, h, fun l hl => q l _ hl (Same.new hl) upd_same⟩
/-- tuple(a list) -/
def nTuple (K : PySem.W.Frag) : List V → Hp → VK → Prop := fun vs G Q => ∃ p ys, vs = [.ref p] ∧ SqL K G p ys ∧ ∀ l G', G l = none → Same G G' → G' l = some (.tup ys) → Q (.ref l) G'
theorem cn_tuple : CallR X (.type "tuple") (nTuple X.K) := callr_imp call_tuple_of fun xs G Q ⟨p, ys, e, h, q⟩ => ⟨p, ys, e, .inl ⟨h, fun l hl => q l _ hl (Same.new hl) upd_same⟩⟩
theorem pe_imp {e : Expr} {te te' : TE} (h : PE X e te) (k : ∀ σ G Q, te' σ G Q → te σ G Q) : PE X e te' := ⟨fun pins s σ G Q I q => h.run pins s σ G Q I (k σ G Q q)⟩
def nDict : TE := fun _ G Q => ∀ p G', G p = none → Same G G' → G' p = some (.dK []) → Q (.ref p) G'
theorem pn_dict : PE X (.Dict [] [] pos) nDict := pe_imp pe_dnewK fun σ G Q q p hp => q p _ hp (Same.new hp) upd_same
end
/-! ### what is read stays -/
mutual
theorem dp_same {K : PySem.W.Frag} {G G' : Hp} (s : Same G G') : ∀ {v : V} {d : PyData}, Dp K G v d → Dp K G' v d
  | _, _, .non => .non
  | _, _, .bl b => .bl b
  | _, _, .int i => .int i
  | _, _, .str x => .str x
  | _, _, .lst h r => .lst (s.seq h) (dps_same s r)
  | _, _, .tup h r => .tup (by
      rcases h with (h | ⟨o, h⟩) | h
      · exact .inl (.inl (s _ _ h))
      · exact .inl (.inr ⟨o, s _ _ h⟩)
      · exact .inr h) (dps_same s r)
theorem dps_same {K : PySem.W.Frag} {G G' : Hp} (s : Same G G') : ∀ {vs : List V} {ds : List PyData}, DpAll K G vs ds → DpAll K G' vs ds
  | _, _, .nil => .nil
  | _, _, .cons h r => .cons (dp_same s h) (dps_same s r)
end
/-- no text, of a known type -/
def Odd (K : PySem.W.Frag) (G : Hp) (v : V) : Prop := (∀ x, v ≠ .str x) ∧ ((v = .non ∨ (∃ b, v = .bl b) ∨ ∃ i, v = .int i) ∨ ∃ a o, v = .ref a ∧ G a = some o ∧ ((∃ xs, o = .lst xs) ∨ (∃ xs, o = .tup xs) ∨ ∃ kvs, o = .dK kvs))
theorem Odd.same {K : PySem.W.Frag} {G G' : Hp} {v : V} (h : Odd K G v) (s : Same G G') : Odd K G' v := by
  obtain ⟨h1, h2 | ⟨a, o, e, ha, h3⟩⟩ := h
  · exact ⟨h1, .inl h2⟩
  · exact ⟨h1, .inr ⟨a, o, e, s _ _ ha, h3⟩⟩
theorem Odd.known {K : PySem.W.Frag} {G : Hp} {v : V} (h : Odd K G v) : Known K G v := by
  refine .inr ⟨h.1, ?_⟩
  obtain ⟨_, (rfl | ⟨b, rfl⟩ | ⟨i, rfl⟩) | ⟨a, o, rfl, ha, ⟨xs, rfl⟩ | ⟨xs, rfl⟩ | ⟨kvs, rfl⟩⟩⟩ := h
  · exact ⟨_, .base .non, kit_ty (by decide +kernel)⟩
  · exact ⟨_, .base (.bl b), kit_ty (by decide +kernel)⟩
  · exact ⟨_, .base (.int i), kit_ty (by decide +kernel)⟩
  · exact ⟨_, .base (.lst ha), kit_ty (by decide +kernel)⟩
  · exact ⟨_, .base (.tup ha), kit_ty (by decide +kernel)⟩
  · exact ⟨_, .base (.dK ha), kit_ty (by decide +kernel)⟩
/-! ### repr of a tuple of texts -/
theorem shown_strs : ∀ xs : List Str, PyData.shownAll (xs.map PyData.str) = xs.map reprText
  | [] => rfl
  | a :: r => by
    show reprText a :: PyData.shownAll (r.map PyData.str) = reprText a :: r.map reprText
    rw [shown_strs r]
theorem showable_strs : ∀ xs : List Str, PyData.showableAll (xs.map PyData.str) = true
  | [] => rfl
  | a :: r => by
    show (true && PyData.showableAll (r.map PyData.str)) = true
    rw [showable_strs r]
    rfl
theorem nodict_strs : ∀ xs : List Str, PyData.hasDictAll (xs.map PyData.str) = false
  | [] => rfl
  | a :: r => by
    show (false || PyData.hasDictAll (r.map PyData.str)) = false
    rw [nodict_strs r]
    rfl
/-! ### what is heard of words put together -/
theorem due_words {ps : List Str} (h : ∀ p ∈ ps, wordS p = true) : dueD ps = told ps := by
  unfold dueD
  split
  · rename_i e
    rcases e with rfl | rfl
    · rfl
    · exact absurd (h nothing List.mem_cons_self) (by decide +kernel)
  · rw [findIdx_none fun j b hb => by rw [h b (List.mem_of_getElem? hb)]; rfl]
theorem eqv_same {d : PyData} (h : SeqAt.shaped d = true) : PyData.eqv d d = true := SeqAt.eqv_refl d (SeqAt.canLay_of_shaped h)
end Qh
set_option Elab.async false
set_option linter.all false
set_option maxRecDepth 100000
set_option maxHeartbeats 4000000
/-! Own ==, !=, str, repr of instances with a dict of their own. -/
namespace Qp
open PySem PySem.Spec PyProof.Rows L2 TL Qh SlX
section
variable {prog : Program} {w : World} {A : Around} {E : Value → Shared → Prop} {s : Shared} {K : PySem.W.Frag} {x C f L : Addr} {h₀ : Heap} {m : Str → Option Value} {ox : Obj} {od : Option Obj} {b tb : Value}
end
section
variable {X : Cx} {CX : CXT} {C g : Addr} {n : Nat} {sp : Sp} {E : XK}
end
end Qp
set_option Elab.async false
set_option linter.all false
set_option maxRecDepth 100000
set_option maxHeartbeats 4000000
/-! A walk over a list or a tuple; max(a list of ints, default = d); enumerate(a tuple); o.m(k = v). -/
namespace Ql
open PySem PySem.Spec PyProof.Rows L2 Qh PySem.W
section
variable {X : Cx} {tg : Expr}
def iSeq (K : PySem.W.Frag) (tl : TE) : TI := fun σ H R => tl σ H fun x H1 => ∃ a, x = .ref a ∧ (((∃ xs, SqL K H1 a xs) ∧ R (Itl K a) H1) ∨ ((∃ xs, SqT K H1 a xs) ∧ R (Itt K a) H1))
theorem pi_seq {l : Expr} {tl : TE} (hl : PE X l tl) : PI X tg l (iSeq X.K tl) := by
  refine ⟨fun pins s σ H R I h => ?_⟩
  refine thn (hl.run pins s σ H _ I h) fun v s1 ⟨x, H1, I1, r1, q1⟩ => ?_
  obtain ⟨a, e, q1⟩ := q1
  subst e
  cases r1
  have old : ∀ b ∈ [s1.heap.objs.size], FpOk X pins H1 b := fun b hb => by
    have e : b = s1.heap.objs.size := by simpa using hb
    subst e
    exact I1.fpOk (Nat.le_refl _) (I1.hok.fresh (Nat.le_refl _))
  rcases q1 with ⟨⟨xs, hq⟩, q⟩ | ⟨⟨xs, hq⟩, q⟩
  · obtain ⟨its, rv, p, hz⟩ := I1.list hq
    refine wpAny_pyIter_list p.isList ?_
    exact ⟨s1.heap.objs.size, [s1.heap.objs.size], _, _, H1, rfl, I1.kept (t' := s1.toks) fun b o e => Heap.get?_push_of_some _ e, turn_list a _, ⟨_, Heap.get?_push_size _ rfl, rfl, rfl⟩, old, q⟩
  · obtain ⟨its, rv, p, hz⟩ := I1.tuple hq
    refine wpAny_pyIter_tuple (show s1.heap.IsTuple a its.toArray from p) ?_
    exact ⟨s1.heap.objs.size, [s1.heap.objs.size], _, _, H1, rfl, I1.kept (t' := s1.toks) fun b o e => Heap.get?_push_of_some _ e, turn_tuple a _, ⟨_, Heap.get?_push_size _ rfl, rfl, rfl⟩, old, q⟩
/-! ### max(xs, default = d) -/
/-! ### enumerate(tuple) -/
open AutoSeq1 (wpAny_loadPart') in
theorem meets_enumT (l : Addr) (items : Array Value) (n : Nat) (dct : Option Addr) (sl : Array (Option Value)) :
    Meets (Builtin.«enumerate.__new__» ⟨[.type "enumerate", .ref l], []⟩) (fun _ R s => s.heap.get? l = some { cls := .type "tuple", dict := dct, data := .seq items n, slots := sl } ∧
      R (.ok (.ret (.ref (s.heap.push { cls := .type "tuple_iterator", data := .fields #[.ref l, .int 0 0] }).objs.size)))
        { s with heap := (s.heap.push { cls := .type "tuple_iterator", data := .fields #[.ref l, .int 0 0] }).push { cls := .type "enumerate", data := .fields #[.none, .bool false, .ref s.heap.objs.size, rawInt 0, .none, .none] } }) :=
  .of_wp fun prog w A R s h => by
    obtain ⟨hp, g, d, tk, os⟩ := s
    obtain ⟨hl, h⟩ := h
    have hsub := sub_enumerate
    have hL : Heap.IsTuple (Shared.heap ⟨hp, g, d, tk, os⟩) l items := ⟨_, hl, rfl, n, rfl⟩
    wp_walk using wpAny_loadPart' hl
    refine wpAny_stack_any fun st => wpAny_pure ?_
    split
    · rename_i c _ _ _ _ _
      cases (c == Value.type "enumerate")
      · wp_walk using wpAny_loadPart' hl, wpAny_pyIter_tuple hL
        exact ⟨_, rfl, h⟩
      · wp_walk using wpAny_loadPart' hl, wpAny_pyIter_tuple hL
        exact ⟨_, rfl, h⟩
    · wp_walk using wpAny_loadPart' hl, wpAny_pyIter_tuple hL
      exact ⟨_, rfl, h⟩
theorem call_enumT {prog : Program} {w : World} {A : Around} {E : Value → Shared → Prop} {s : Shared} {l : Addr} {items : Array Value} {Q : Value → Shared → Prop} (hL : s.heap.IsTuple l items)
    (h : ∀ h', IsEnum h' (s.heap.objs.size + 1) s.heap.objs.size 0 .none → h'.IsTupleIter s.heap.objs.size l 0 → h'.objs.size = s.heap.objs.size + 2 →
      (∀ b o, s.heap.get? b = some o → h'.get? b = some o) → Q (.ref (s.heap.objs.size + 1)) { s with heap := h' }) :
    wpAny (model prog w) A (call (.type "enumerate") [.ref l]) Q E s := by
  obtain ⟨⟨c, dct, dt, sl⟩, hl, hc, n, hd⟩ := hL
  replace hc : c = .type "tuple" := hc
  replace hd : dt = .seq items n := hd
  subst hc hd
  refine callType_new F.called_enumerate (by decide) (F.typeCall_enumerate_1 _) (F.newCall_enumerate_1 _) (fun obj => F.args_object_init_2 obj _) F.entry_enumerate_new
    (meets_enumT l items n dct sl) ⟨hl, ?_⟩
  have hz : (s.heap.push { cls := .type "tuple_iterator", data := .fields #[.ref l, .int 0 0] }).objs.size = s.heap.objs.size + 1 := Heap.size_push ..
  show _ ∧ _
  rw [hz]
  have he : IsEnum ((s.heap.push { cls := .type "tuple_iterator", data := .fields #[.ref l, .int 0 0] }).push
      { cls := .type "enumerate", data := .fields #[.none, .bool false, .ref s.heap.objs.size, rawInt 0, .none, .none] }) (s.heap.objs.size + 1) s.heap.objs.size 0 .none := by
    have := Heap.get?_push_size (s.heap.push { cls := .type "tuple_iterator", data := .fields #[.ref l, .int 0 0] })
      (o := { cls := .type "enumerate", data := .fields #[.none, .bool false, .ref s.heap.objs.size, rawInt 0, .none, .none] }) rfl
    rw [hz] at this; exact this
  refine ⟨⟨_, he, rfl⟩, h _ he ⟨_, Heap.get?_push_of_some _ (Heap.get?_push_size _ rfl), rfl, rfl⟩ (by rw [Heap.size_push, hz]) fun b o x => Heap.get?_push_of_some _ (Heap.get?_push_of_some _ x)⟩
def IteT (K : PySem.W.Frag) (a : Addr) : It :=
  ⟨fun i H => ∃ (xs : List V) (x : V), SqT K H a xs ∧ xs[i]? = some x, fun i H v H' => ∃ T x, v = .ref T ∧ H T = none ∧ H' = upd H T (.tup [.int (i : Nat), x]) ∧ ∀ xs, SqT K H a xs → xs[i]? = some x, fun i H => ∃ xs : List V, SqT K H a xs ∧ xs.length ≤ i⟩
theorem turn_enumT {P : Program} {w : World} {K : PySem.W.Frag} {elts : List Expr} {kk : Nat} {tpos : Pos} (a e it : Addr) :
    Turn P w K (.Tuple elts kk tpos) (IteT K a) [e, it] e (fun i h => (∃ old, IsEnum h e it ((i : Nat) : Int) old) ∧ h.IsTupleIter it a i ∧ e ≠ it ∧ a ≠ it ∧ a ≠ e) where
  mem := by simp
  obj := fun i h st b hb => by
    obtain ⟨⟨old, he⟩, ⟨o, ho, hc, hd⟩, _⟩ := st
    have e' : b = e ∨ b = it := by simpa using hb
    rcases e' with z | z
    · rw [z]; exact ⟨_, he, fun v q => nomatch q⟩
    · rw [z]; exact ⟨o, ho, fun v q => by rw [hd] at q; cases q⟩
  keep := fun i h h' st k => let ⟨⟨old, he⟩, hi, hne⟩ := st; ⟨⟨old, k e (by simp) _ he⟩, hi.at fun o q => k it (by simp) o q, hne⟩
  item := by
    intro X hP hw hK hc i pins s σ H E I hf st hg
    subst hP hw hK
    obtain ⟨⟨old, he⟩, hit, hne, hai, hae⟩ := st
    obtain ⟨xs, x, hq, hx⟩ := hg
    obtain ⟨its, rv, p, hz⟩ := I.tuple hq
    have p : s.heap.IsTuple a its.toArray := p
    obtain ⟨u, hu, ru⟩ := rv.get hx
    have hel : e < s.heap.objs.size := Heap.lt_size he
    have hil : it < s.heap.objs.size := by obtain ⟨_, q, _⟩ := hit; exact Heap.lt_size q
    have hlt : i < its.toArray.size := by
      have := (List.getElem?_eq_some_iff.mp hu).1
      simpa using this
    refine wpAny_pyNext_enum_itemD (Draws.tuple (A := X.A.in1) (I.ok.hd hc) it a hai its.toArray) he ⟨hit, p⟩ hlt hne (by simp only [List.mem_cons, List.not_mem_nil, or_false, not_or]; exact ⟨hne, Ne.symm hae⟩) fun v h' tk hv ho st' hT hsz hk => ?_
    have ev : v = u := by
      have hu' : its.toArray[i]? = some u := by simpa using hu
      have h2 : its.toArray[i]? = some v := hv
      rw [hu'] at h2
      exact (Option.some.inj h2).symm
    subst ev
    have hit' := st'.1
    refine ⟨_, rfl, wpAny_letOwnedTupleGo_enum (s := { s with heap := h', toks := tk + 1 }) ho fun h'' he' sb => ?_⟩
    have hT2 : h''.get? s.heap.objs.size = some { cls := .type "tuple", data := .seq #[.int i tk, v] } := (sb.2 _ (Nat.ne_of_gt hel)).trans hT
    have new : ObjOk X.prog X.w (upd H s.heap.objs.size (.tup [.int (i : Nat), x])) h'' s.heap.objs.size (.tup [.int (i : Nat), x]) :=
      ⟨by show 2 ≤ sizeLine; decide, [.int i tk, v], .cons ⟨_, rfl⟩ (.cons ru .nil), ⟨_, hT2, rfl, _, rfl⟩⟩
    have I1 : Inv X pins σ (upd H s.heap.objs.size (.tup [.int (i : Nat), x])) { s with heap := h'', toks := tk + 1 } :=
      I.turnedNew (ch := [e, it]) (fun b ob hb q => (sb.2 b (fun z => hb (by simp [z]))).trans (hk b ob (fun z => hb (by simp [z])) (fun z => hb (by simp [z])) q)) hf (Nat.le_refl _) new
    refine ⟨.ref s.heap.objs.size, _, I1, rfl, ⟨_, x, rfl, I.hok.fresh (Nat.le_refl _), rfl, fun ys hy => by rw [I.tuple_inj hy hq]; exact hx⟩, ⟨⟨v, ?_⟩, hit'.at fun o q => (sb.2 it (Ne.symm hne)).trans q, hne, hai, hae⟩, fun b hb => ?_⟩
    · have e1 : ((i + 1 : Nat) : Int) = (i : Int) + 1 := by omega
      rw [e1]; exact he'
    · have hb' : b < s.heap.objs.size := by
        have e' : b = e ∨ b = it := by simpa using hb
        rcases e' with z | z
        · rw [z]; exact hel
        · rw [z]; exact hil
      rw [upd_ne (Nat.ne_of_lt hb')]
      exact (hf b hb).1
  done := by
    intro X hP hw hK hc i pins s σ H E I hf st hg
    subst hP hw hK
    obtain ⟨⟨old, he⟩, hit, hne, hai, hae⟩ := st
    obtain ⟨xs, hq, hx⟩ := hg
    obtain ⟨its, rv, p, hz⟩ := I.tuple hq
    have p : s.heap.IsTuple a its.toArray := p
    obtain ⟨f0, f1, f2, f3, f4, f5⟩ := hf it (by simp)
    have hl := rv.length
    have hT : s.TypeIs (.ref e) "enumerate" := ⟨_, he, rfl⟩
    unfold pyNext
    refine wpAny_bind (wpAny_attempt (wpAny_callSpecial?_slot (name := Str.ofString "__next__") hT F.slot_enumerate_next
      (wpAny_call_entry F.slot_enumerate_next hT F.entry_enumerate_next ?_ (F.args_enumerate_next_1 _))))
    show wpAny _ _ (field (.ref e) 2 >>= _) _ _ _
    refine wpAny_bind (wpAny_field he rfl (x := .ref it) rfl ?_)
    refine wpAny_bind (wpAny_nextOf_tuple_end (I.ok.hd hc) hit p (by simp; omega) fun h' x he' hx' => ?_)
    obtain ⟨o, ho, hcl⟩ := hx'
    refine wpAny_bind (wpAny_isInstance (T := "StopIteration") (b := true) ⟨o, ho, hcl⟩ isSubtype_stop ?_)
    exact wpAny_pure ⟨rfl, I.turned (t' := s.toks) (fun b o hb q => he' b o hb q) f0 f1 f3 f4 f5⟩
  self := fun A i s Q E st h => let ⟨⟨_, he⟩, _⟩ := st; wpAny_pyIter_enum he h
def iEnumT (K : PySem.W.Frag) (ta : TA) : TI := fun σ H R => ta σ H fun vs H1 => ∃ a xs, vs = [.ref a] ∧ SqT K H1 a xs ∧ R (IteT K a) H1
theorem pi_enumT {e : Expr} {ta : TA} {p pos tpos : Pos} {elts : List Expr} {kk : Nat} (hg : Gl X "enumerate") (hm : X.mg "enumerate" = none) (ha : PA X [e] ta) (hs : starEach [e] X.env = [(false, eval e X.env)] := by rfl) :
    PI X (.Tuple elts kk tpos) (.Call (.Name "enumerate" p) [e] [] pos) (iEnumT X.K ta) := by
  refine ⟨fun pins s σ H R I h => ?_⟩
  refine Call_ (ld_blt I hg hm boot_enumerate (PyProof.Rows.callWith_type1 (thn (ha.run pos pins s σ H _ I h) fun us s1 ⟨vs, H1, I1, r1, q1⟩ => ?_) hs rfl))
  obtain ⟨a, xs, ex, hq, q⟩ := q1
  subst ex
  cases r1 with
  | cons r rr =>
    cases rr
    cases r
    obtain ⟨its, rv, p', hz⟩ := I1.tuple hq
    have p' : s1.heap.IsTuple a its.toArray := p'
    have la : a < s1.heap.objs.size := by obtain ⟨_, h1, _⟩ := p'; exact Heap.lt_size h1
    refine call_enumT p' fun h' he hit hsz hk => wpAny_pyIter_enum he ?_
    have I2 : Inv X pins σ H1 { s1 with heap := h' } := I1.kept (t' := s1.toks) hk
    refine ⟨s1.heap.objs.size + 1, [s1.heap.objs.size + 1, s1.heap.objs.size], _, _, H1, rfl, I2, turn_enumT a (s1.heap.objs.size + 1) s1.heap.objs.size, ⟨⟨.none, he⟩, hit, Nat.succ_ne_self _, Nat.ne_of_lt la, Nat.ne_of_lt (Nat.lt_succ_of_lt la)⟩, fun b hb => ?_, q⟩
    have e' : b = s1.heap.objs.size + 1 ∨ b = s1.heap.objs.size := by simpa using hb
    have hle : s1.heap.objs.size ≤ b := by
      rcases e' with z | z
      · rw [z]; exact Nat.le_add_right _ _
      · rw [z]; exact Nat.le_refl _
    exact I1.fpOk hle (I1.hok.fresh hle)
theorem walk_enumT {K : PySem.W.Frag} {a : Addr} {xs : List V} : Walk (IteT K a) xs.length (fun H => SqT K H a xs) (YPair (fun i => some (.int (i : Nat))) (fun i => xs[i]?)) := by
  refine ⟨fun i _ hi q => ⟨xs, xs[i], q, by simp [hi]⟩, fun _ q => ⟨xs, q, Nat.le_refl _⟩, fun i H v H' _ q y => ?_⟩
  obtain ⟨T, x, h1, h2, h3, h4⟩ := y
  exact ⟨T, .int (i : Nat), x, h1, h2, h3, rfl, h4 xs q⟩
end
end Ql
set_option Elab.async false
set_option linter.all false
set_option maxRecDepth 100000
set_option maxHeartbeats 4000000
/-! Sets of texts: what stands in them, a text added, made of a row, sorted. -/
namespace Qs
open PySem PySem.Spec PyProof.Rows L2
def keyX (e : Int × Value) : Str := match e.2 with
  | .str x _ => x
  | _ => Str.empty
def GoodX (w : World) (e : Int × Value) : Prop := ∃ x tk, e.2 = Value.str x tk ∧ e.1 = hashStr w x
/-- the set at a has just the texts ks -/
def SetX (w : World) (h : Heap) (a : Addr) (ks : List Str) : Prop := ∃ o es ep t, h.get? a = some o ∧ o.ExactSet ∧ o.data = .set es ep t ∧ (∀ e ∈ es.toList, GoodX w e) ∧ (es.toList.map keyX).Perm ks ∧ ks.Nodup ∧
  es.size < scanBound ∧ t.fits es.size = true ∧ Ris t.place.toList ∧ (w.params.followText "set-order" = true ∨ t.led = true)
section
variable {P : Program} {w : World} {h h' : Heap} {a : Addr} {ks : List Str}
theorem SetX.at (R : SetX w h a ks) (k : ∀ o, h.get? a = some o → h'.get? a = some o) : SetX w h' a ks := by
  obtain ⟨o, es, ep, t, hob, more⟩ := R
  exact ⟨o, es, ep, t, k o hob, more⟩
theorem SetX.lt (R : SetX w h a ks) : a < h.objs.size := by
  obtain ⟨o, es, ep, t, hob, _⟩ := R
  exact Heap.lt_size hob
theorem str_is (x : Str) (tk : Tok) : (strKind P w).is x (.str x tk) = true := strKind_is P w x tk
theorem goods_elems {l : List (Int × Value)} (gd : ∀ e ∈ l, GoodX w e) : ElemsOf (strKind P w) l := fun e he => by
  obtain ⟨x, tk, e1, e2⟩ := gd e he
  exact ⟨⟨x, by rw [e1]; exact str_is x tk, e2⟩, by rw [e1] <;> rfl⟩
theorem good_key {e : Int × Value} (gd : GoodX w e) (x : Str) : (strKind P w).is x e.2 = true ↔ keyX e = x := by
  obtain ⟨y, tk, e1, _⟩ := gd
  have ek : keyX e = y := by
    unfold keyX
    rw [e1]
  rw [e1, ek]
  constructor
  · intro z
    exact (strKind P w).inj _ _ _ (str_is y tk) z
  · intro z
    rw [← z]
    exact str_is y tk
theorem put_get {o : Obj} {es es' : Array (Int × Value)} {ep : Nat} {t t' : SetTable} (hob : h.get? a = some o) (hdt : o.data = .set es ep t) :
    (h.update a (Obj.putSet es' t')).get? a = some { o with data := .set es' (ep + 1) t' } := L2.store_at hob hdt
end
section
variable {P : Program} {w : World} {A : Around} {E : Value → Shared → Prop} {s : Shared} {a : Addr} {ks : List Str}
theorem tail_add {g : Bool → Sem Unit} (quiet : ∀ (b : Bool) (s₁ : Shared) (Q' : Unit → Shared → Prop), Q' () s₁ → wpAny (model P w) A (g b) Q' E s₁)
    {o : Obj} {es : Array (Int × Value)} {ep : Nat} {t : SetTable} (hob : s.heap.get? a = some o) (exact_ : o.ExactSet) (hdt : o.data = .set es ep t)
    {es1 : Array (Int × Value)} {t2 : SetTable} {ks1 : List Str} (gd : ∀ e ∈ es1.toList, GoodX w e) (pm1 : (es1.toList.map keyX).Perm ks1) (nd1 : ks1.Nodup)
    (few : es1.size < scanBound) (fit : t2.fits es1.size = true) (rise : Ris t2.place.toList) (led : w.params.followText "set-order" = true ∨ t2.led = true) {wasDummy : Bool} {R : Option Bool → Shared → Prop}
    (hR : ∀ h', Heap.SameBut a s.heap h' → SetX w h' a ks1 → R (some true) { s with heap := h' }) :
    wpAny (model P w) A (do
        storeSet a es1 t2
        if (!wasDummy && t2.tooFull) = true then do
            g (relayAll t2 es1 (SetTable.grown es1.size)).2.2
            storeSet a (relayAll t2 es1 (SetTable.grown es1.size)).1 (relayAll t2 es1 (SetTable.grown es1.size)).2.1
            pure (some true)
          else pure (some true)) R E s := by
  refine wpAny_bind (wpAny_storeSet_of hob hdt ?_ (fits_of_scanBound few))
  have laid := put_get (es' := es1) (t' := t2) hob hdt
  have same1 := Heap.SameBut.update s.heap a (Obj.putSet es1 t2)
  split
  · have pmR := relayAll_perm t2 es1 (SetTable.grown es1.size)
    have fitR := relayAll_fits t2 es1 (SetTable.grown es1.size)
    have riseR := relayAll_ris t2 es1 (SetTable.grown es1.size)
    have ledR := relayAll_led t2 es1 (SetTable.grown es1.size)
    generalize relayAll t2 es1 (SetTable.grown es1.size) = Y at pmR fitR riseR ledR ⊢
    obtain ⟨es2, t3, gave⟩ := Y
    dsimp only at pmR fitR riseR ledR ⊢
    have size2 : es2.size = es1.size := by rw [← Array.length_toList, pmR.length_eq, Array.length_toList]
    have few2 : es2.size < scanBound := by rw [size2]; exact few
    refine wpAny_bind (quiet _ _ _ ?_)
    refine wpAny_bind (wpAny_storeSet_of laid rfl ?_ (fits_of_scanBound few2))
    have laid2 := put_get (es' := es2) (t' := t3) laid rfl
    refine wpAny_pure (hR _ (same1.trans (Heap.SameBut.update _ a _)) ⟨_, es2, _, t3, laid2, exact_, rfl, fun e he => gd e (pmR.mem_iff.mp he), (pmR.map keyX).trans pm1, nd1, few2, fitR, riseR, ?_⟩)
    rcases led with z | z
    · exact .inl z
    · exact .inr (by rw [ledR]; exact z)
  · exact wpAny_pure (hR _ same1 ⟨_, es1, _, t2, laid, exact_, rfl, gd, pm1, nd1, few, fit, rise, led⟩)
/-- what the set has behind x -/
def more (ks : List Str) (x : Str) : List Str := if x ∈ ks then ks else x :: ks
theorem hashed_add {x : Str} {tk : Tok} {Q : Bool → Shared → Prop} (R : SetX w s.heap a ks) (room : ks.length + 1 < scanBound)
    (hQ : ∀ h' b, Heap.SameBut a s.heap h' → SetX w h' a (more ks x) → Q b { s with heap := h' }) :
    wpAny (model P w) A (setAddHashed a (.str x tk) ((strKind P w).hash x)) Q E s := by
  obtain ⟨o, es, ep, t, hob, exact_, hdt, gd, pm, nd, few, fit, rise, led⟩ := R
  have isx : (strKind P w).is x (.str x tk) = true := str_is x tk
  have scan : (Value.str x tk).scannable = true := rfl
  have elems : ElemsOf (strKind P w) es.toList := goods_elems gd
  have many : es.size = ks.length := by rw [← pm.length_eq, List.length_map, Array.length_toList]
  unfold setAddHashed setAddHashedIn
  refine wpAny_holding (wpAny_bind (wpAny_setState_of hob hdt fit ?_))
  dsimp only
  rw [byScan_of scan few elems]
  simp only [↓reduceIte]
  unfold setAddByScan
  refine wpAny_bind ?_
  refine wpAny_bind (wpAny_rule ?_)
  refine wpAny_bind (wpAny_setScan_of isx hob hdt fit elems ?_)
  cases found : List.findIdx? (fun e => (strKind P w).is x e.2) es.toList with
  | some j =>
    dsimp only
    obtain ⟨hj, pj, _⟩ := List.findIdx?_eq_some_iff_getElem.mp found
    have inx : x ∈ ks := pm.mem_iff.mp (List.mem_map.mpr ⟨es.toList[j], List.getElem_mem hj, (good_key (P := P) (gd _ (List.getElem_mem hj)) x).1 pj⟩)
    refine wpAny_pure (wpAny_pure ?_)
    refine hQ s.heap _ (Heap.SameBut.refl a s.heap) ⟨o, es, ep, t, hob, exact_, hdt, gd, ?_, ?_, few, fit, rise, led⟩
    · unfold more
      rw [if_pos inx]
      exact pm
    · unfold more
      rw [if_pos inx]
      exact nd
  | none =>
    dsimp only
    have notin : x ∉ ks := fun z => by
      obtain ⟨e, he, q⟩ := List.mem_map.mp (pm.mem_iff.mpr z)
      have c := List.findIdx?_eq_none_iff.mp found e he
      rw [(good_key (P := P) (gd e he) x).2 q] at c
      cases c
    have quiet : ∀ (b : Bool) (s₁ : Shared) (Q' : Unit → Shared → Prop), Q' () s₁ → wpAny (model P w) A (match b with | true => rule "set.scan.the-table-gave-way" | false => pure ()) Q' E s₁ := fun b s₁ Q' z => by
      cases b
      · exact wpAny_pure z
      · exact wpAny_rule z
    have pmL := layNew_perm t es ((strKind P w).hash x) (.str x tk)
    have fitL := layNew_fits t es ((strKind P w).hash x) (.str x tk)
    have riseL := layNew_ris t es ((strKind P w).hash x) (.str x tk) rise
    have ledL := layNew_led t es ((strKind P w).hash x) (.str x tk)
    generalize layNew t es ((strKind P w).hash x) (.str x tk) = Y at pmL fitL riseL ledL ⊢
    obtain ⟨es1, t1, wasDummy, gave⟩ := Y
    dsimp only at pmL fitL riseL ledL ⊢
    rw [Array.toList_push] at pmL
    have pmC : es1.toList.Perm (((strKind P w).hash x, Value.str x tk) :: es.toList) := pmL.trans (List.perm_append_singleton _ _)
    have pmK : (es1.toList.map keyX).Perm (x :: ks) := (pmC.map keyX).trans (pm.cons x)
    have gd1 : ∀ e ∈ es1.toList, GoodX w e := fun e he => by
      rcases List.mem_cons.mp (pmC.mem_iff.mp he) with z | z
      · rw [z]
        exact ⟨x, tk, rfl, rfl⟩
      · exact gd e z
    have nd1 : (x :: ks).Nodup := List.nodup_cons.mpr ⟨notin, nd⟩
    have few1 : es1.size < scanBound := by
      rw [← Array.length_toList, pmC.length_eq, List.length_cons, Array.length_toList, many]
      exact room
    have led1 : w.params.followText "set-order" = true ∨ t1.led = true := by
      rcases led with z | z
      · exact .inl z
      · exact .inr (by rw [ledL]; exact z)
    have fin : ∀ h', Heap.SameBut a s.heap h' → SetX w h' a (x :: ks) → Q true { s with heap := h' } := fun h' sb r => hQ h' _ sb (by
      unfold more
      rw [if_neg notin]
      exact r)
    refine wpAny_bind (quiet _ _ _ ?_)
    split
    · refine wpAny_bind ?_
      rw [hashByValue_scannable 8 scan]
      refine wpAny_pure ?_
      refine tail_add ?_ hob exact_ hdt gd1 pmK nd1 few1 ?_ ?_ ?_ ?_
      · intro b s₁ Q' z; cases b <;> first | exact wpAny_pure z | exact wpAny_rule z
      · first | (split <;> first | exact fitL | exact SetTable.fits_plain_off fitL) | exact fitL
      · first | (split <;> exact riseL) | exact riseL
      · first | (split <;> exact led1) | exact led1
      · intro h' sb r; dsimp only; exact wpAny_pure (fin h' sb r)
    · refine wpAny_bind (wpAny_pure ?_)
      simp only [↓reduceIte]
      refine tail_add ?_ hob exact_ hdt gd1 pmK nd1 few1 fitL riseL led1 ?_
      · intro b s₁ Q' z; cases b <;> first | exact wpAny_pure z | exact wpAny_rule z
      · intro h' sb r; dsimp only; exact wpAny_pure (fin h' sb r)
end
end Qs
set_option Elab.async false
set_option linter.all false
set_option maxRecDepth 100000
set_option maxHeartbeats 4000000
/-! set(a list or tuple of texts). -/
namespace Qs
open PySem PySem.Spec PyProof.Rows L2
def metOf (l : List Str) (i : Nat) : List Str := (l.take i).foldl more []
theorem metOf_succ {l : List Str} {i : Nat} {x : Str} (h : l[i]? = some x) : metOf l (i + 1) = more (metOf l i) x := by
  unfold metOf
  rw [List.take_succ, h]
  show ((l.take i) ++ [x]).foldl more [] = _
  rw [List.foldl_append]
  rfl
theorem more_len (ks : List Str) (x : Str) : (more ks x).length ≤ ks.length + 1 := by
  unfold more
  split
  · omega
  · simp
theorem fold_len : ∀ (l ks : List Str), (l.foldl more ks).length ≤ ks.length + l.length
  | [], ks => by simp
  | x :: l, ks => by
    have h1 := fold_len l (more ks x)
    have h2 := more_len ks x
    simp only [List.foldl_cons, List.length_cons]
    omega
theorem met_len (l : List Str) (i : Nat) : (metOf l i).length ≤ i := by
  have h := fold_len (l.take i) []
  simp only [List.length_nil, List.length_take] at h
  unfold metOf
  omega
theorem more_mem (ks : List Str) (x y : Str) : y ∈ more ks x ↔ y ∈ ks ∨ y = x := by
  unfold more
  by_cases h : x ∈ ks
  · rw [if_pos h]
    constructor
    · exact fun z => .inl z
    · rintro (z | z)
      · exact z
      · rw [z]
        exact h
  · rw [if_neg h, List.mem_cons]
    exact Or.comm
theorem fold_mem : ∀ (l ks : List Str) (y : Str), y ∈ l.foldl more ks ↔ y ∈ ks ∨ y ∈ l
  | [], ks, y => by simp
  | x :: l, ks, y => by
    rw [List.foldl_cons, fold_mem l (more ks x) y, more_mem, List.mem_cons, or_assoc]
theorem met_mem (l : List Str) (y : Str) : y ∈ metOf l l.length ↔ y ∈ l := by
  unfold metOf
  rw [List.take_length, fold_mem]
  simp
theorem fresh_x {h : Heap} {a : Addr} (w : World) (hob : h.get? a = some { cls := .type "set", dict := none, data := .set #[] 0 (.fresh 0 0 (!w.params.followText "set-order")) }) : SetX w h a [] :=
  ⟨_, #[], 0, _, hob, ⟨rfl, rfl, rfl⟩, rfl, (fun e he => by simp at he), (by simp), List.nodup_nil, (by decide), (by rfl), List.Pairwise.nil, by
    show _ ∨ (!w.params.followText "set-order") = true
    cases w.params.followText "set-order"
    · exact .inr rfl
    · exact .inl rfl⟩
section
variable {prog : Program} {w : World} {A : Around} {R : Result → Shared → Prop} {I : Addr} {fp wr : List Addr} {G : Array GenState → Array GenState → Prop} {n : Nat} {P : Nat → Value → Prop} {St : Nat → Shared → Prop}
/-- the loop of set.update, over texts -/
theorem loop_add (W : WalksS prog w A.in1 I fp wr G n P St) (S : Addr) (apart : S ∉ fp) (l : List Str) (items : ∀ i v, P i v → ∃ x t, v = .str x t ∧ l[i]? = some x) (few : n + 1 < scanBound) :
    ∀ (k i : Nat) (s : Shared), n - i = k → i ≤ n → St i s → SetX w s.heap S (metOf l i) →
      (∀ s', Moved (S :: wr) G s s' → SetX w s'.heap S (metOf l n) → R (.ok (.ret .none)) s') →
      codeAny (model prog w) A (.builtin "set.update.loop" ⟨[.ref S, .ref I], []⟩) R s := by
  have notw : S ∉ wr := fun z => apart (W.sub _ z)
  have wider : ∀ b ∈ wr, b ∈ S :: wr := fun b hb => List.mem_cons_of_mem _ hb
  intro k
  induction k with
  | zero =>
    intro i s hk hi st have_ hR
    obtain rfl : i = n := by omega
    refine codeAny_builtin F.entry_set_update_loop ?_
    rw [Around.under_plainId F.plain_set_update_loop _]
    show wpAny _ A.in1 (pyNext (.ref I) >>= _) _ _ s
    refine wpAny_bind (W.done s _ _ st fun s' mv => ?_)
    show wpAny _ A.in1 (ret Value.none) _ _ s'
    exact wpAny_pure (hR s' (mv.mono wider) (have_.at fun o z => mv.heap S _ notw z))
  | succ k ih =>
    intro i s hk hi st have_ hR
    have lt : i < n := by omega
    refine codeAny_builtin F.entry_set_update_loop ?_
    rw [Around.under_plainId F.plain_set_update_loop _]
    show wpAny _ A.in1 (pyNext (.ref I) >>= _) _ _ s
    refine wpAny_bind (W.item i s _ _ lt st fun v s' pv st' mv => ?_)
    obtain ⟨x, t, rfl, lx⟩ := items i v pv
    have have2 : SetX w s'.heap S (metOf l i) := have_.at fun o z => mv.heap S _ notw z
    show wpAny _ A.in1 (holding [Value.str x t] (setAdd S (.str x t)) >>= _) _ _ s'
    refine wpAny_bind (wpAny_holding ?_)
    unfold setAdd
    refine wpAny_holding ?_
    refine wpAny_bind ((strKind prog w).pyHash (k := x) (str_is x t) ?_)
    refine hashed_add (P := prog) (s := { s' with toks := s'.toks + 1 }) have2 (by have := met_len l i; omega) fun h' b sb got => ?_
    rw [← metOf_succ lx] at got
    refine wpAny_pure ⟨plainId_quiet F.plain_set_update_loop _, ih (i + 1) _ (by omega) lt (W.frame _ s' _ _ st' (Nat.le_succ _) fun c hc o e => ?_) got fun s'' mv2 fin => ?_⟩
    · rw [sb.2 c fun z : c = S => apart (z ▸ hc)]
      exact e
    · refine hR s'' (Moved.trans W.gtrans ((mv.mono wider).then_heap (Nat.le_succ _) fun c o hc e => ?_) mv2) fin
      rw [sb.2 c fun z : c = S => hc (z ▸ List.mem_cons_self)]
      exact e
end
end Qs
set_option Elab.async false
set_option linter.all false
set_option maxRecDepth 100000
set_option maxHeartbeats 6400000
/-! The call of set with a list or a tuple of texts. -/
namespace PySem
section
variable {prog : Program} {w : World} {A : Around} {E : Value → Shared → Prop} {s : Shared}
/-- an empty set, as the world orders sets -/
abbrev emptyX (w : World) : Obj := { cls := .type "set", dict := none, data := .set #[] 0 (.fresh 0 0 (!w.params.followText "set-order")) }
theorem newX (a : Value) {Q₁ : Value → Shared → Prop} (h : Q₁ (.ref s.heap.objs.size) { s with heap := s.heap.push (emptyX w) }) :
    codeAny (model prog w) A (.call (.builtin "set.__new__") ⟨[.type "set", a], []⟩) (wants Q₁ E) s := by
  refine codeAny_of_tree ?_
  show wpAny _ A.in1 (do checkBuiltinCall "set.__new__" ⟨[.type "set", a], []⟩; again (.builtin "set.__new__" ⟨[.type "set", a], []⟩)) _ _ s
  refine wpAny_bind (wpAny_of_eq (F.newCall_set_1 a) (wpAny_pure ⟨plainId_quiet F.plain_set_new _, codeAny_builtin F.entry_set_new ?_⟩))
  rw [Around.under_plainId F.plain_set_new _]
  unfold Builtin.«set.__new__» Builtin.Frozenset.newClass
  have isSub := sub_set_self
  obtain ⟨hp, gs, dr, tk, os⟩ := s
  dsimp only
  wp_walk
  refine wpAny_askSetting (wpAny_pure ?_)
  dsimp only
  simp only [newObj]
  exact wpAny_bind (wpAny_alloc (wpAny_pure (wpAny_pure h)))

set_option maxHeartbeats 6400000 in
theorem set_of_list {l : Addr} {items : Array Value} {ts : List Str} {Q : Value → Shared → Prop} (calm : A.handled = none) (hl : s.heap.IsList l items) (all : ∀ (i : Nat) (v : Value), items[i]? = some v → ∃ x t, v = Value.str x t ∧ ts[i]? = some x) (few : items.size + 1 < scanBound)
    (k : ∀ (h' : Heap) (tk : Nat), Qs.SetX w h' s.heap.objs.size (Qs.metOf ts items.size) → (∀ b o, b < s.heap.objs.size → s.heap.get? b = some o → h'.get? b = some o) → Q (.ref s.heap.objs.size) { s with heap := h', toks := tk }) :
    wpAny (model prog w) A (call (.type "set") [.ref l]) Q E s := by
  obtain ⟨c, tl, hmro⟩ := F.called_set.mro
  have hmade := F.called_set.made
  have hsub := F.called_set.sub
  refine wpAny_call (codeAny_of_tree ?_)
  show wpAny _ _ (callAny (.type "set") _) _ _ _
  refine wpAny_pure ⟨Code.quiet_builtin _ (by decide +kernel), codeAny_builtin F.entry_type_call ?_⟩
  rw [Around.under_plain (weight_type_call_type "set" [.ref l] []) rfl]
  have n1 := F.called_set.notType
  have n2 := F.called_set.canCreate
  have n3 := F.typeCall_set_1 (.ref l)
  repeat (any_goals (first | assumption | wp_step))
  refine codeAny_mono (newX (w := w) (.ref l) (E := E) (Q₁ := fun obj s₁ => obj = .ref s.heap.objs.size ∧ s₁ = { s with heap := s.heap.push (emptyX w) }) ⟨rfl, rfl⟩) fun r s₁ hr => ?_
  rcases r with e | fl
  · exact hr
  cases fl with
  | next => exact hr.elim
  | brk => exact hr.elim
  | cont => exact hr.elim
  | ret obj =>
    obtain ⟨rfl, rfl⟩ := hr
    have here : (s.heap.push (emptyX w)).get? s.heap.objs.size = some (emptyX w) := Heap.get?_push_size _ rfl
    have isT : Shared.TypeIs { s with heap := s.heap.push (emptyX w) } (.ref s.heap.objs.size) "set" := ⟨_, here, rfl⟩
    have n4 := F.called_set.init.lookup
    have n5 := F.called_set.init.bind (.ref s.heap.objs.size)
    repeat (any_goals (first | assumption | wp_step))
    refine codeAny_mono (codeAny_call_builtin (R := wants (fun r s₂ => r = .none ∧ ∃ h' tk, s₂ = { s with heap := h', toks := tk } ∧ Qs.SetX w h' s.heap.objs.size (Qs.metOf ts items.size) ∧
      (∀ b o, b < s.heap.objs.size → s.heap.get? b = some o → h'.get? b = some o)) E) F.called_set.init.plain F.entry_set_init (check_set_init_1 isT ?_)) fun r₂ s₂ hr₂ => ?_
    · obtain ⟨ol, hol, hcl, nl, hdl⟩ := hl
      obtain ⟨ocls, odict, odata, oslots⟩ := ol
      simp only at hcl hdl
      subst hcl; subst hdl
      have hol2 : (s.heap.push (emptyX w)).get? l = some { cls := .type "list", dict := odict, data := .seq items nl, slots := oslots } := Heap.get?_push_of_some _ hol
      have m1 := F.sub_list_set
      have m2 := F.sub_list_frozenset
      have m3 : (Value.type "list" == Value.type "dict") = false := by decide
      have hl1 : (s.heap.push (emptyX w)).IsList l items := ⟨_, hol2, rfl, nl, rfl⟩
      unfold Builtin.«set.__init__» noKeywords Builtin.Frozenset.updateFrom
      generalize hPI : pyIter = PI
      wp_walk
      subst hPI
      refine wpAny_pyIter_list hl1 ?_
      refine wpAny_bind (wpAny_runValue ?_)
      have lt : l < s.heap.objs.size := Heap.lt_size hol
      have calm3 : A.in1.in1.in1.handled = none := by simp [calm]
      have two : (s.heap.push (emptyX w)).objs.size = s.heap.objs.size + 1 := Heap.size_push _ _
      have neI : l ≠ (s.heap.push (emptyX w)).objs.size := by
        rw [two]
        exact Nat.ne_of_lt (Nat.lt_succ_of_lt lt)
      have apart : s.heap.objs.size ∉ [(s.heap.push (emptyX w)).objs.size, l] := by
        rw [two]
        simp only [List.mem_cons, List.not_mem_nil, or_false, not_or]
        exact ⟨Nat.ne_of_lt (Nat.lt_succ_self _), Nat.ne_of_gt lt⟩
      refine Qs.loop_add ((Walks.list calm3 _ l neI items).toS) s.heap.objs.size apart ts all few (items.size - 0) 0 _ (by omega) (Nat.zero_le _) ⟨⟨_, Heap.get?_push_size _ rfl, rfl, rfl⟩, (hl1.push _)⟩ ?_ ?_
      · exact Qs.fresh_x w (Heap.get?_push_of_some _ here)
      · rintro ⟨h', g', d', tk', os'⟩ mv fin
        obtain rfl : g' = s.gens := mv.gens
        obtain rfl : d' = s.drawn := mv.drawn
        obtain rfl : os' = s.os := mv.os
        show wpAny _ _ _ _ _ _
        refine wpAny_pure ?_
        show wpAny _ _ (ret Value.none) _ _ _
        refine wpAny_pure ⟨rfl, h', tk', rfl, fin, fun b o hb e => ?_⟩
        refine mv.heap b o ?_ (Heap.get?_push_of_some _ (Heap.get?_push_of_some _ e))
        rw [two]
        simp only [List.mem_cons, List.not_mem_nil, or_false, not_or]
        exact ⟨Nat.ne_of_lt hb, Nat.ne_of_lt (Nat.lt_succ_of_lt hb)⟩
    · rcases r₂ with e | fl₂
      · exact hr₂
      cases fl₂ with
      | next => exact hr₂.elim
      | brk => exact hr₂.elim
      | cont => exact hr₂.elim
      | ret v =>
        obtain ⟨rfl, h', tk, rfl, fin, kept⟩ := hr₂
        repeat (any_goals (first | assumption | wp_step))
        exact k _ _ fin kept

set_option maxHeartbeats 6400000 in
theorem set_of_tuple {l : Addr} {items : Array Value} {ts : List Str} {Q : Value → Shared → Prop} (calm : A.handled = none) (hl : s.heap.IsTuple l items) (all : ∀ (i : Nat) (v : Value), items[i]? = some v → ∃ x t, v = Value.str x t ∧ ts[i]? = some x) (few : items.size + 1 < scanBound)
    (k : ∀ (h' : Heap) (tk : Nat), Qs.SetX w h' s.heap.objs.size (Qs.metOf ts items.size) → (∀ b o, b < s.heap.objs.size → s.heap.get? b = some o → h'.get? b = some o) → Q (.ref s.heap.objs.size) { s with heap := h', toks := tk }) :
    wpAny (model prog w) A (call (.type "set") [.ref l]) Q E s := by
  obtain ⟨c, tl, hmro⟩ := F.called_set.mro
  have hmade := F.called_set.made
  have hsub := F.called_set.sub
  refine wpAny_call (codeAny_of_tree ?_)
  show wpAny _ _ (callAny (.type "set") _) _ _ _
  refine wpAny_pure ⟨Code.quiet_builtin _ (by decide +kernel), codeAny_builtin F.entry_type_call ?_⟩
  rw [Around.under_plain (weight_type_call_type "set" [.ref l] []) rfl]
  have n1 := F.called_set.notType
  have n2 := F.called_set.canCreate
  have n3 := F.typeCall_set_1 (.ref l)
  repeat (any_goals (first | assumption | wp_step))
  refine codeAny_mono (newX (w := w) (.ref l) (E := E) (Q₁ := fun obj s₁ => obj = .ref s.heap.objs.size ∧ s₁ = { s with heap := s.heap.push (emptyX w) }) ⟨rfl, rfl⟩) fun r s₁ hr => ?_
  rcases r with e | fl
  · exact hr
  cases fl with
  | next => exact hr.elim
  | brk => exact hr.elim
  | cont => exact hr.elim
  | ret obj =>
    obtain ⟨rfl, rfl⟩ := hr
    have here : (s.heap.push (emptyX w)).get? s.heap.objs.size = some (emptyX w) := Heap.get?_push_size _ rfl
    have isT : Shared.TypeIs { s with heap := s.heap.push (emptyX w) } (.ref s.heap.objs.size) "set" := ⟨_, here, rfl⟩
    have n4 := F.called_set.init.lookup
    have n5 := F.called_set.init.bind (.ref s.heap.objs.size)
    repeat (any_goals (first | assumption | wp_step))
    refine codeAny_mono (codeAny_call_builtin (R := wants (fun r s₂ => r = .none ∧ ∃ h' tk, s₂ = { s with heap := h', toks := tk } ∧ Qs.SetX w h' s.heap.objs.size (Qs.metOf ts items.size) ∧
      (∀ b o, b < s.heap.objs.size → s.heap.get? b = some o → h'.get? b = some o)) E) F.called_set.init.plain F.entry_set_init (check_set_init_1 isT ?_)) fun r₂ s₂ hr₂ => ?_
    · obtain ⟨ol, hol, hcl, nl, hdl⟩ := hl
      obtain ⟨ocls, odict, odata, oslots⟩ := ol
      simp only at hcl hdl
      subst hcl; subst hdl
      have hol2 : (s.heap.push (emptyX w)).get? l = some { cls := .type "tuple", dict := odict, data := .seq items nl, slots := oslots } := Heap.get?_push_of_some _ hol
      have m1 := F.sub_tuple_set
      have m2 := F.sub_tuple_frozenset
      have m3 : (Value.type "tuple" == Value.type "dict") = false := by decide
      have hl1 : (s.heap.push (emptyX w)).IsTuple l items := ⟨_, hol2, rfl, nl, rfl⟩
      unfold Builtin.«set.__init__» noKeywords Builtin.Frozenset.updateFrom
      generalize hPI : pyIter = PI
      wp_walk
      subst hPI
      refine wpAny_pyIter_tuple hl1 ?_
      refine wpAny_bind (wpAny_runValue ?_)
      have lt : l < s.heap.objs.size := Heap.lt_size hol
      have calm3 : A.in1.in1.in1.handled = none := by simp [calm]
      have two : (s.heap.push (emptyX w)).objs.size = s.heap.objs.size + 1 := Heap.size_push _ _
      have neI : l ≠ (s.heap.push (emptyX w)).objs.size := by
        rw [two]
        exact Nat.ne_of_lt (Nat.lt_succ_of_lt lt)
      have apart : s.heap.objs.size ∉ [(s.heap.push (emptyX w)).objs.size, l] := by
        rw [two]
        simp only [List.mem_cons, List.not_mem_nil, or_false, not_or]
        exact ⟨Nat.ne_of_lt (Nat.lt_succ_self _), Nat.ne_of_gt lt⟩
      refine Qs.loop_add ((Walks.tuple calm3 _ l neI items).toS) s.heap.objs.size apart ts all few (items.size - 0) 0 _ (by omega) (Nat.zero_le _) ⟨⟨_, Heap.get?_push_size _ rfl, rfl, rfl⟩, (hl1.push _)⟩ ?_ ?_
      · exact Qs.fresh_x w (Heap.get?_push_of_some _ here)
      · rintro ⟨h', g', d', tk', os'⟩ mv fin
        obtain rfl : g' = s.gens := mv.gens
        obtain rfl : d' = s.drawn := mv.drawn
        obtain rfl : os' = s.os := mv.os
        show wpAny _ _ _ _ _ _
        refine wpAny_pure ?_
        show wpAny _ _ (ret Value.none) _ _ _
        refine wpAny_pure ⟨rfl, h', tk', rfl, fin, fun b o hb e => ?_⟩
        refine mv.heap b o ?_ (Heap.get?_push_of_some _ (Heap.get?_push_of_some _ e))
        rw [two]
        simp only [List.mem_cons, List.not_mem_nil, or_false, not_or]
        exact ⟨Nat.ne_of_lt hb, Nat.ne_of_lt (Nat.lt_succ_of_lt hb)⟩
    · rcases r₂ with e | fl₂
      · exact hr₂
      cases fl₂ with
      | next => exact hr₂.elim
      | brk => exact hr₂.elim
      | cont => exact hr₂.elim
      | ret v =>
        obtain ⟨rfl, h', tk, rfl, fin, kept⟩ := hr₂
        repeat (any_goals (first | assumption | wp_step))
        exact k _ _ fin kept
end
end PySem
set_option Elab.async false
set_option linter.all false
set_option maxRecDepth 100000
set_option maxHeartbeats 4000000
/-! sorted(a set of texts); the rules. -/
namespace Qs
open PySem PySem.Spec PyProof.Rows L2
section
variable {P : Program} {w : World} {A : Around} {E : Value → Shared → Prop} {s : Shared} {a : Addr} {ks : List Str}
theorem sorted_x {Q : Value → Shared → Prop} (R : SetX w s.heap a ks) (calm : A.handled = none) (few : ks.length < 64)
    (hQ : ∀ s' p (out : Array Value) (c : Nat) (ss : List Str), (∀ b o, s.heap.get? b = some o → s'.heap.get? b = some o) → s'.gens = s.gens → s'.os = s.os → s.heap.objs.size ≤ p →
      s'.heap.get? p = some (seqObj "list" out c) → StrsAre out.toList ss → ss.Perm ks → sortedS ss = true → Q (.ref p) s') :
    wpAny (model P w) A (call (.builtin "sorted") [.ref a]) Q E s := by
  obtain ⟨o, es, ep, t, hob, exact_, hdt, gd, pm, nd, fewS, fit, rise, led⟩ := R
  refine Calls.call_function_entry kind_sorted plain_sorted entry_sorted (args_sorted1 _) ?_
  unfold Builtin.«sorted»
  refine wpAny_bind (m := checkCount "sorted" 1 1 _) (wpAny_pure ?_)
  refine wpAny_bind (collect_set (A := A.in1) calm ⟨o, hob, exact_.1, hdt⟩ fit fewS rise led fun s1 vs kept grew same_g same_o pmv => ?_)
  have pmk : (vs.map strOf).Perm ks := by
    have q := pmv.map strOf
    rw [List.map_map] at q
    have e : es.toList.map (strOf ∘ fun x => x.2) = es.toList.map keyX := List.map_congr_left fun e he => by
      obtain ⟨x, tk, e1, _⟩ := gd e he
      show strOf e.2 = keyX e
      unfold keyX
      rw [e1]
      rfl
    rw [e] at q
    exact q.trans pm
  have hvl : vs.length = ks.length := by rw [← pmk.length_eq, List.length_map]
  have areS : StrsAre vs (vs.map strOf) := strsAre_map vs fun v hv => by
    obtain ⟨e, he, q⟩ := List.mem_map.mp (pmv.mem_iff.mp hv)
    obtain ⟨x, tk, e1, _⟩ := gd e he
    exact ⟨x, tk, by rw [← q]; exact e1⟩
  refine wpAny_bind (wpAny_newList ?_ (by rw [hvl, sizeLine_eq]; omega))
  have hoL : (s1.heap.push (seqObj "list" vs.toArray 0)).get? s1.heap.objs.size = some (seqObj "list" vs.toArray 0) := Heap.get?_push_size _ rfl
  refine wpAny_bind (wpAny_holding (wpAny_call_entry slot_list_sort ⟨_, hoL, rfl⟩ entry_list_sort (list_sort_treeK strKind_oneLt hoL areS.keysOf (fun v₁ v₂ rest e => keyKind_strs (by rw [← e]; exact areS)) (by rw [hvl]; exact few) fun st' hp hs => ⟨_, rfl, ?_⟩) (args_list_sort _)))
  obtain ⟨ss, g1, g2, g3⟩ := sorted_out_str areS hp hs
  obtain ⟨c, hc⟩ := sortedHeap_at (vs := vs) (out := (arrOf st').map (·.2)) hoL
  refine wpAny_pure ⟨_, rfl, hQ _ s1.heap.objs.size _ c ss (fun b u e => ?_) same_g same_o grew hc g1 (g2.trans pmk) g3⟩
  have q := kept b u e
  have lt := Heap.lt_size q
  show (sortedHeap (s1.heap.push (seqObj "list" vs.toArray 0)) s1.heap.objs.size vs ((arrOf st').map (·.2))).get? b = some u
  rw [sortedHeap_old (Nat.ne_of_lt lt) (by rw [size_push']; exact Nat.lt_succ_of_lt lt)]
  exact Heap.get?_push_of_some _ q
end
/-- a set of texts, as the layer tells it -/
def SetXO (w : World) (a : Addr) (ks : List Str) : HO := .ext fun h => SetX w h a ks
theorem setXO_ok {P : Program} {w : World} {H : Hp} {h : Heap} {a : Addr} {ks : List Str} (R : SetX w h a ks) : ObjOk P w H h a (SetXO w a ks) := by
  refine ⟨R, ?_, fun h1 h2 z k => SetX.at z k⟩
  obtain ⟨o, _, _, _, hob, _⟩ := R
  exact ⟨o, hob⟩
theorem valsX : ∀ {ts : List Str} {us : List Value}, Vals (ts.map V.str) us → us.length = ts.length ∧ ∀ (i : Nat) (v : Value), us[i]? = some v → ∃ x t, v = Value.str x t ∧ ts[i]? = some x
  | [], _, r => by
    cases r
    exact ⟨rfl, fun i v h => by simp at h⟩
  | x :: ts, _, r => by
    cases r with
    | cons h r =>
      obtain ⟨t, rfl⟩ := h
      obtain ⟨l, q⟩ := valsX r
      refine ⟨by rw [List.length_cons, List.length_cons, l], fun i v hv => ?_⟩
      cases i with
      | zero =>
        simp at hv
        exact ⟨x, t, hv.symm, by simp⟩
      | succ i => exact q i v (by simpa using hv)
theorem xVals : ∀ {ss : List Str} {us : List Value}, StrsAre us ss → Vals (ss.map V.str) us
  | _, _, .nil => .nil
  | _, _, .cons x t r => .cons ⟨t, rfl⟩ (xVals r)
section
variable {X : Cx}
/-- set(a list or tuple of texts) -/
def rSetX (K : PySem.W.Frag) (w : World) : List V → Hp → VK → Prop := fun xs G Q => ∃ (l : Addr) (ts : List Str), xs = [.ref l] ∧ (SqL K G l (ts.map V.str) ∨ SqT K G l (ts.map V.str)) ∧ ts.length + 1 < scanBound ∧
  ∀ a G', G a = none → Same G G' → G' a = some (SetXO w a (metOf ts ts.length)) → Q (.ref a) G'
theorem call_setX (hc : X.calm = true) : CallR X (.type "set") (rSetX X.K X.w) := by
  rintro pins s σ G xs us Q I r ⟨l, ts, rfl, hs, few, q⟩
  obtain ⟨u, rfl, ru⟩ := vals1 r
  obtain rfl : u = Value.ref l := ru
  have fin : ∀ (n : Nat), n = ts.length → ∀ (h' : Heap) (tk : Nat), SetX X.w h' s.heap.objs.size (metOf ts n) → (∀ b o, b < s.heap.objs.size → s.heap.get? b = some o → h'.get? b = some o) →
      EP X pins σ Q (.ref s.heap.objs.size) { s with heap := h', toks := tk } := fun n hn h' tk got kept => by
    subst hn
    have J := I.laid (t' := tk) (fun b u e => kept b u (Heap.lt_size e) e) (Nat.le_refl _) (setXO_ok got)
    exact ⟨.ref s.heap.objs.size, _, J, rfl, q _ _ I.fresh (Qh.Same.new I.fresh) upd_same⟩
  rcases hs with hs | hs
  · obtain ⟨its, rv, ⟨o, n, e1, e2, e3, e4⟩, _⟩ := I.list hs
    obtain ⟨len, all⟩ := valsX rv
    have hz : its.toArray.size = ts.length := by rw [List.size_toArray, len]
    exact set_of_list (ts := ts) (I.ok.hd hc) ⟨o, e1, e2, n, e4⟩ (fun i v h => all i v (by simpa using h)) (by rw [hz]; exact few) fun h' tk got kept => fin _ hz h' tk got kept
  · obtain ⟨its, rv, ⟨o, e1, e2, n, e4⟩, _⟩ := I.tuple hs
    obtain ⟨len, all⟩ := valsX rv
    have hz : its.toArray.size = ts.length := by rw [List.size_toArray, len]
    exact set_of_tuple (ts := ts) (I.ok.hd hc) ⟨o, e1, e2, n, e4⟩ (fun i v h => all i v (by simpa using h)) (by rw [hz]; exact few) fun h' tk got kept => fin _ hz h' tk got kept
/-- sorted(a set of texts) -/
def rSortX (w : World) : List V → Hp → VK → Prop := fun xs G Q => ∃ (a : Addr) (ks : List Str), xs = [.ref a] ∧ G a = some (SetXO w a ks) ∧ ks.length < 64 ∧
  ∀ (ss : List Str) p G', ss.Perm ks → sortedS ss = true → G p = none → Same G G' → G' p = some (.lst (ss.map V.str)) → Q (.ref p) G'
theorem call_sortX (hc : X.calm = true) : CallR X (.builtin "sorted") (rSortX X.w) := by
  rintro pins s σ G xs us Q I r ⟨a, ks, rfl, ha, few, q⟩
  obtain ⟨u, rfl, ru⟩ := vals1 r
  obtain rfl : u = Value.ref a := ru
  obtain ⟨R, _, _⟩ := I.hok a _ ha
  refine sorted_x R (I.ok.hd hc) few ?_
  intro s' p out c ss kept eg eo hp here areS pm so
  have free : G p = none := I.hok.fresh hp
  have J : Inv X pins σ (upd G p (.lst (ss.map V.str))) s' := I.call' (ch := []) eo (Un.laid kept hp free)
    (I.hok.laid kept hp ⟨by rw [List.length_map, pm.length_eq, sizeLine_eq]; omega, out.toList, c, xVals areS, by rw [Array.toArray_toList]; exact here⟩) (by rw [eg]; exact I.bare) (fun _ z => nomatch z)
  exact ⟨.ref p, _, J, rfl, q ss p _ pm so free (Qh.Same.new free) upd_same⟩
end
end Qs
set_option Elab.async false
set_option linter.all false
set_option maxRecDepth 100000
set_option maxHeartbeats 4000000
/-! Just one row of texts is sorted; ascending(values). -/
namespace Qs
open PySem PySem.Spec PyProof.Rows L2
def leX (a b : Str) : Prop := a.cps.toList ≤ b.cps.toList
theorem leX_of {a b : Str} (h : ltCps b.cps.toList a.cps.toList = false) : leX a b := by
  rw [ltCps_eq] at h
  exact List.not_lt.mp (of_decide_eq_false h)
theorem leX_trans {a b c : Str} (h : leX a b) (k : leX b c) : leX a c := List.le_trans h k
theorem leX_anti {a b : Str} (h : leX a b) (k : leX b a) : a = b := by
  have e : a.cps.toList = b.cps.toList := List.le_antisymm h k
  obtain ⟨x⟩ := a
  obtain ⟨y⟩ := b
  have e : x = y := Array.toList_inj.mp e
  rw [e]
theorem rising_pw : ∀ (r : List Str) (p : Str), risingS p r = true → (∀ y ∈ r, leX p y) ∧ r.Pairwise leX
  | [], p, _ => ⟨(fun y h => nomatch h), List.Pairwise.nil⟩
  | x :: r, p, h => by
    have h : (!ltCps x.cps.toList p.cps.toList && risingS x r) = true := h
    obtain ⟨h1, h2⟩ := Bool.and_eq_true_iff.mp h
    obtain ⟨ih1, ih2⟩ := rising_pw r x h2
    have px : leX p x := leX_of (by simpa using h1)
    refine ⟨fun y hy => ?_, List.pairwise_cons.mpr ⟨ih1, ih2⟩⟩
    rcases List.mem_cons.mp hy with rfl | hy
    · exact px
    · exact leX_trans px (ih1 y hy)
theorem sorted_pw : ∀ {l : List Str}, sortedS l = true → l.Pairwise leX
  | [], _ => List.Pairwise.nil
  | x :: r, h => by
    obtain ⟨h1, h2⟩ := rising_pw r x h
    exact List.pairwise_cons.mpr ⟨h1, h2⟩
/-- texts that are the same but for their order have one sorted row -/
theorem sorted_one {ss tt : List Str} (p : ss.Perm tt) (h : sortedS ss = true) (k : sortedS tt = true) : ss = tt :=
  List.Perm.eq_of_pairwise (fun a b _ _ h k => leX_anti h k) (sorted_pw h) (sorted_pw k) p
theorem more_nodup {ks : List Str} {x : Str} (h : ks.Nodup) : (more ks x).Nodup := by
  unfold more
  split
  · exact h
  · rename_i n
    exact List.nodup_cons.mpr ⟨n, h⟩
theorem fold_nodup : ∀ (l : List Str) {ks : List Str}, ks.Nodup → (l.foldl more ks).Nodup
  | [], _, h => h
  | x :: l, _, h => fold_nodup l (more_nodup h)
theorem met_nodup (l : List Str) : (metOf l l.length).Nodup := fold_nodup _ List.nodup_nil
/-- rows with the same texts have one set -/
theorem met_perm {l m : List Str} (h : ∀ y, y ∈ l ↔ y ∈ m) : (metOf l l.length).Perm (metOf m m.length) :=
  (List.perm_ext_iff_of_nodup (met_nodup l) (met_nodup m)).mpr fun y => by rw [met_mem, met_mem, h y]
/-- ss is the ascending row of the texts ts -/
def Asc (ts ss : List Str) : Prop := ss.Perm (metOf ts ts.length) ∧ sortedS ss = true
theorem asc_one {ts us ss tt : List Str} (h : Asc ts ss) (k : Asc us tt) (e : ∀ y, y ∈ ts ↔ y ∈ us) : ss = tt :=
  sorted_one ((h.1.trans (met_perm e)).trans k.1.symm) h.2 k.2
theorem asc_mem {ts ss : List Str} (h : Asc ts ss) (y : Str) : y ∈ ss ↔ y ∈ ts := by rw [h.1.mem_iff, met_mem]
theorem asc_len {ts ss : List Str} (h : Asc ts ss) : ss.length ≤ ts.length := by
  rw [h.1.length_eq]
  exact met_len ts ts.length
/-- ascending(values): the tuple -/
def spAsc (K : PySem.W.Frag) : Sp := fun vs G Q _ => ∃ (l : Addr) (ts : List Str), vs = [.ref l] ∧ (SqL K G l (ts.map V.str) ∨ SqT K G l (ts.map V.str)) ∧ ts.length < 64 ∧
  ∀ (ss : List Str) p G', Asc ts ss → G p = none → Same G G' → G' p = some (.tup (ss.map V.str)) → Q (.ref p) G'
end Qs
set_option Elab.async false
set_option linter.all false
set_option maxRecDepth 100000
set_option maxHeartbeats 4000000
/-! Own errors as plain values: any built-in base, values by position or by name. -/
namespace Qv
open PySem PySem.HandSPX
section
variable {M : Model} {A : Around} {E : Value → Shared → Prop} {h : Heap} {g : Array GenState} {d : Drawn} {t : Nat} {os : OsState} {prog : Program} {w : World} {R : Result → Shared → Prop}
variable {nm q : Str} {C N : Addr} {bs bm bmB : List Value} {hdct : Bool} {sn : List Str} {sub : List Value} {ab : Bool} {col : Option Bool} {dd : Option Addr} {k0 k1 k2 k3 k5 : Option Value} {B newId initId : String} {rest : List Value} {kw : List (Str × Value)}

/-- what new asks of the bases -/
def basesOk (B : String) (bm : List Value) : Bool := bm.contains (.type B) && (!bm.contains (.type "AttributeError") && !bm.contains (.type "NameError"))
end
section
open PySem.W Builtin Builtin.ObjectAttr
variable {prog : Program} {w : World} {A : Around} {R : Result → Shared → Prop} {K : W.Frag} {hp : Heap} {g : Array GenState} {d : Drawn} {t : Nat} {os : OsState} {name : Str} {tk : Tok} {v : Value} {x C : Addr} {fv : Array Value} {cd : ClassData} {B : String} {bmB : List Value}
end
end Qv
set_option Elab.async false
set_option linter.all false
set_option maxRecDepth 100000
/-! KeyError's own store of a field. -/
namespace Qv
open PySem PySem.F
end Qv
set_option Elab.async false
set_option linter.all false
set_option maxRecDepth 100000
set_option maxHeartbeats 4000000
/-! Own errors as plain values, in the layer of readings. -/
namespace Qv
open PySem PySem.Spec PyProof.Rows L2 Qh
/-- what the top says of an own error class, whatever its built-in base -/
structure OexG (K : PySem.W.Frag) (C : Addr) : Prop where
  cls : ∃ (B newId initId Bs : String) (bmN bmB : List Value) (nm q : Str) (N : Addr) (bs bm : List Value) (sn : List Str) (sub : List Value) (ab : Bool) (col : Option Bool) (dd : Option Addr) (k0 k1 k2 k3 k5 : Option Value),
    K.lookup C = some (excClassObj nm q C N bs bm true sn sub ab col dd k0 k1 k2 k3 k5 newId) ∧ basesOk B bm = true ∧ ExcBaseFacts B newId initId bmN ∧ StoreFacts Bs bmB "object.__setattr__" "object"  ∧ PySem.W.excOver K C bmB = true
  sa : PySem.W.findIn K (.ref C) "__setattr__" = some (some (.builtin "object.__setattr__"))
  kC : PySem.W.keepIn K (.ref C) = true
/-- the error of the class C at a, with these fields -/
def ErrAt (G : Hp) (a C : Addr) (fs : List (Str × V)) : Prop := ∃ d, G a = some (exo a C (some d)) ∧ G d = some (exd d fs)
theorem ErrAt.same {G G' : Hp} {a C : Addr} {fs : List (Str × V)} (e : ErrAt G a C fs) (s : Same G G') : ErrAt G' a C fs := by
  obtain ⟨d, h1, h2⟩ := e
  exact ⟨d, s _ _ h1, s _ _ h2⟩
/-- C.__init__(self, f, ..): self.f = f, .. -/
def spErrG (C : Addr) (fields : List Str) : Sp := fun vs G Q _ => ∃ (a : Addr) (ws : List V), vs = .ref a :: ws ∧ ws.length = fields.length ∧ G a = some (exo a C none) ∧
  ∀ d, G d = none → d ≠ a → Q .non (upd (upd G d (exd d (fields.zip ws).reverse)) a (exo a C (some d)))
section
variable {X : Cx} {pins : List (Addr × Obj)} {σ : L2.St} {H : Hp} {s : Shared} {a C dx : Addr} {f : Str} {y : V} {u : Value} {fs : List (Str × V)} {Q : Unit → Shared → Prop} {E : Value → Shared → Prop} {A : Around}
theorem OexG.data {K : PySem.W.Frag} {C : Addr} (T : OexG K C) : ∃ (B newId initId Bs : String) (bmN bmB : List Value) (nm q : Str) (N : Addr) (bs bm : List Value) (sn : List Str) (sub : List Value) (ab : Bool) (col : Option Bool) (dd : Option Addr) (k0 k1 k2 k3 k5 : Option Value) (cd : ClassData),
    K.lookup C = some (excClassObj nm q C N bs bm true sn sub ab col dd k0 k1 k2 k3 k5 newId) ∧ basesOk B bm = true ∧ ExcBaseFacts B newId initId bmN ∧ StoreFacts Bs bmB "object.__setattr__" "object" ∧ PySem.W.excOver K C bmB = true ∧ PySem.W.clsIn K C = some cd ∧ cd.hasDict = true := by
  obtain ⟨B, newId, initId, Bs, bmN, bmB, nm, q, N, bs, bm, sn, sub, ab, col, dd, k0, k1, k2, k3, k5, h1, h2, h3, h4, h5⟩ := T.cls
  exact ⟨B, newId, initId, Bs, bmN, bmB, nm, q, N, bs, bm, sn, sub, ab, col, dd, k0, k1, k2, k3, k5, { name := nm, bases := bs, mro := .ref C :: bm, ns := N, qualname := q, hasDict := true, slotNames := sn, subclasses := sub, abstract := ab, collection := col, hasDel := false },
    h1, h2, h3, h4, h5, by unfold PySem.W.clsIn; rw [h1] <;> rfl, rfl⟩
end
section
variable {X : Cx} {o e : Expr} {es : List Expr} {kws : List Keyword} {to te : TE} {ta : TA} {f x : Str} {p p' pos : Pos} {C : Addr} {fields : List Str}
end
end Qv
set_option Elab.async false
set_option linter.all false
set_option maxRecDepth 100000
set_option maxHeartbeats 4000000
/-! Own errors as plain values: made, read, told apart. -/
namespace Qv
open PySem PySem.Spec PyProof.Rows L2 Qh
/-- an own error class with this __init__ -/
structure ErrK (P : Program) (w : World) (K : PySem.W.Frag) (mg : Str → Option Value) (base : Heap) (x qn : Str) (pa : Arguments) (fields : List Str) (C : Addr) : Prop where
  g : mg x = some (.ref C)
  o : OexG K C
  xf : XfC K C
  ec : ExcC K C
  no : ∀ f ∈ fields, PySem.W.findIn K (.ref C) f = some none
  init : ∃ (fI : Addr) (body : List Stmt) (scope : Scope) (kV doc pm : Value) (an : Option Addr) (cdv ct : Value), PySem.W.findIn K (.ref C) "__init__" = some (some (.ref fI)) ∧ PySem.W.typeIn K (.ref fI) = some (.type "function") ∧
    (∀ us : List Value, us.length = fields.length + 1 → bindArgs (PySem.W.fnOf "__init__" qn pa body scope .none kV doc pm an cdv ct) ⟨us, []⟩ = pure ((("self" : Str) :: fields).zip us)) ∧
    FnOk P w K mg base (L2.CX P w) 1 fI (PySem.W.fnOf "__init__" qn pa body scope .none kV doc pm an cdv ct) (("self" : Str) :: fields) (spErrG C fields)
section
variable {X : Cx} {pins : List (Addr × Obj)} {σ : L2.St} {H1 : Hp} {s : Shared} {C fI : Addr} {fd : FuncData} {ps : List Str} {sp : Sp} {rest us : List Value} {kw : List (Str × Value)} {vs : List V} {Q : VK}
end
section
variable {X : Cx} {o e : Expr} {es : List Expr} {kws : List Keyword} {to te : TE} {ta : TA} {f x qn : Str} {pa : Arguments} {p pos : Pos} {C : Addr} {fields : List Str}
end
end Qv
set_option Elab.async false
set_option linter.all false
set_option maxRecDepth 100000
set_option maxHeartbeats 4000000
/-! Instances made where errors are wished for at the caller's slots; ascending(values). -/
namespace Qi
open PySem PySem.Spec PyProof.Rows L2 Qh
/-- C(e, ..), by a positional promise of its __init__ -/
def tMakeS (C : Addr) (sp : Sp) (E : L2.St → XK) (t : TA) : TE := fun σ H Q => t σ H fun vs H1 => ∀ x dx, H1 x = Option.none → H1 dx = Option.none → dx ≠ x →
  sp (V.ref x :: vs) (upd (upd H1 dx (.own x)) x (.ins C dx [])) (fun v H2 => v = .non ∧ Q (.ref x) H2) (E σ)
section
variable {X : Cx} {W : WX} {k : Nat} {f C : Addr} {sp : Sp} {x : Str} {e : Expr} {es : List Expr} {t : TA} {p pos : Pos}
theorem run_makeS {E : XK} {pins : List (Addr × Obj)} {σ : L2.St} {H : Hp} {s : Shared} {Q : VK} {us : List Value} {vs : List V} (M : Mk X.K C f) (F : FnR X.prog X.w X.K X.mg X.base (L2.CX X.prog X.w) k f sp) (hr : Room (k + 1) X.A)
    (hx : ∀ (H2 : Hp) (s2 : Shared) (er : Value) (s' : Shared), Inv X pins σ H2 s2 → L2.CX X.prog X.w X.stack H2 s2 E er s' → X.xe er s') (I : Inv X pins σ H s) (r : Vals vs us)
    (h : ∀ x dx, H x = Option.none → H dx = Option.none → dx ≠ x → sp (V.ref x :: vs) (upd (upd H dx (.own x)) x (.ins C dx [])) (fun v H2 => v = .non ∧ Q (.ref x) H2) E) :
    wpAny (model X.prog X.w) X.A (call (.ref C) us) (EP X pins σ Q) X.xe s := by
  have want := h (s.heap.objs.size + 1) s.heap.objs.size (I.hok.fresh (Nat.le_succ _)) (I.hok.fresh (Nat.le_refl _)) (Nat.ne_of_lt (Nat.lt_succ_self _))
  have J := Inv.made (C := C) I
  have rr : Vals (V.ref (s.heap.objs.size + 1) :: vs) (Value.ref (s.heap.objs.size + 1) :: us) := .cons rfl r
  refine wpAny_call (make_map (f := f) I.kIn M.makes M.init (beq_iff_eq.mp M.fn) (codeAny_mono (F _ X.stack _ _ (Value.ref (s.heap.objs.size + 1) :: us) _ _ E (hr.make C us []) (J.env0.make C us []) rr want) ?_))
  rintro (er | fl) s' hq
  · exact hx _ _ er s' J hq
  · cases fl with
    | next => exact hq.elim
    | brk => exact hq.elim
    | cont => exact hq.elim
    | ret u =>
      obtain ⟨v, H2, J2, rv, ev, q⟩ := J.after hq
      subst ev
      exact ⟨rv, .ref (s.heap.objs.size + 1), H2, J2, rfl, q⟩
theorem pe_makeS (M : Mk X.K C f) (F : FnR X.prog X.w X.K X.mg X.base (L2.CX X.prog X.w) k f sp) (hr : Room (k + 1) X.A) (tk : Takes X W) (hm : X.mg x = some (.ref C)) (ha : PA X (e :: es) t) (hg : Gl X x := by rfl) (hdb : (x == ("__debug__" : Str)) = false := by decide)
    (he : starEach (e :: es) X.env = (false, eval e X.env) :: starEach es X.env := by rfl) (hpl : (backTo pos (starEach es X.env)).any (·.1) = false := by rfl) : PE X (.Call (.Name x p) (e :: es) [] pos) (tMakeS C sp (WE W) t) := by
  constructor
  intro pins s σ H Q I h
  refine wpAny_Call_Name_kw (ld_glob I hg hm ?_ hdb)
  refine PySem.W.callWith_K (h₀ := X.base) I.ok.mod.kin M.kp (thn (ha.run pos pins s σ H _ I h) ?_) he hpl
  rintro us s1 ⟨vs, H1, I1, r, q⟩
  exact ⟨I1.kIn, run_makeS M F hr (fun H2 s2 er s' J c => passAt tk σ pins H2 s2 er s' J c) I1 r q⟩
end
/-- ascending(values): the tuple of the texts in order, each once -/
def spAsc (K : PySem.W.Frag) : Sp := fun vs G Q _ => ∃ (l : Addr) (ts : List Str), vs = [.ref l] ∧ (SqL K G l (ts.map V.str) ∨ SqT K G l (ts.map V.str)) ∧ ts.length < 64 ∧
  ∀ (ss : List Str) p G', Qs.Asc ts ss → G p = none → Same G G' → G' p = some (.tup (ss.map V.str)) → Q (.ref p) G'
theorem asc_read {K : PySem.W.Frag} {w : World} {G : Hp} {Q : VK} {l : Addr} {ts : List Str} (hs : SqL K G l (ts.map V.str) ∨ SqT K G l (ts.map V.str)) (few : ts.length < 64)
    (k : ∀ (ss : List Str) p G', Qs.Asc ts ss → G p = none → Same G G' → G' p = some (.tup (ss.map V.str)) → Q (.ref p) G') :
    Qs.rSetX K w [.ref l] G fun v1 G1 => Qs.rSortX w [v1] G1 fun v2 G2 => nTuple K [v2] G2 Q := by
  refine ⟨l, ts, rfl, hs, by unfold scanBound; omega, fun a G1 n1 s1 l1 => ?_⟩
  have len := Qs.met_len ts ts.length
  refine ⟨a, _, rfl, l1, by omega, fun ss b G2 pm so n2 s2 l2 => ?_⟩
  refine ⟨b, _, rfl, SqL.of l2, fun c G3 n3 s3 l3 => ?_⟩
  exact k ss c G3 ⟨pm, so⟩ ((s1.trans s2).free n3) ((s1.trans s2).trans s3) l3
end Qi
set_option Elab.async false
set_option linter.all false
set_option maxRecDepth 100000
set_option maxHeartbeats 4000000
namespace K05
open PySem PySem.Spec PyProof.Rows L2 TL Qh Qi Qs Ql
abbrev sAsc : Stmt := top 8
abbrev sIsKeep : Stmt := top 15
theorem seqT_same {K : PySem.W.Frag} {G G' : Hp} {a : Addr} {xs : List V} (s : Same G G') (h : SqT K G a xs) : SqT K G' a xs := by
  rcases h with (h | ⟨o, h⟩) | h
  · exact .inl (.inl (s _ _ h))
  · exact .inl (.inr ⟨o, s _ _ h⟩)
  · exact .inr h
theorem tyL {K : PySem.W.Frag} {G : Hp} {a : Addr} {xs : List V} (h : SqL K G a xs) : TyX K G (.ref a) (.type "list") := by
  rcases h with (h | ⟨o, h⟩) | ⟨o, its, n, h, c, _⟩
  · exact .base (.lst h)
  · exact .base (.frz h)
  · exact .kList h c
theorem tyT {K : PySem.W.Frag} {G : Hp} {a : Addr} {xs : List V} (h : SqT K G a xs) : TyX K G (.ref a) (.type "tuple") := by
  rcases h with (h | ⟨o, h⟩) | ⟨o, its, n, h, c, _⟩
  · exact .base (.tup h)
  · exact .fTuple h
  · exact .kTuple h c
abbrev seqTys : List Value := [.type "list", .type "tuple"]
/-- a value given as keep: the values of a list or a tuple, or no such thing -/
def KeepAt (K : PySem.W.Frag) (G : Hp) (kv : V) : Option (List V) → Prop
  | some xs => ∃ a, kv = .ref a ∧ (SqL K G a xs ∨ SqT K G a xs) ∧ xs.length ≤ 1000 ∧ ∀ v ∈ xs, ∀ G', Same G G' → Known K G' v
  | none => ∃ t, TyX K G kv t ∧ PySem.W.kitAny K t seqTys = some false
def keepOk : Option (List V) → Bool
  | some xs => decide (xs.length ≤ 20) && xs.all wordV
  | none => false
def spIsKeep (K : PySem.W.Frag) : Sp := fun vs G Q _ => ∃ kv ko, vs = [kv] ∧ (∀ G', Same G G' → KeepAt K G' kv ko) ∧ ∀ G', Same G G' → Q (.bl (keepOk ko)) G'
theorem kit_list {K : PySem.W.Frag} : PySem.W.kitAny K (.type "list") seqTys = some true := kitAny_cons (kit_ty (r := true) (by decide +kernel)) (fun z => nomatch z) fun _ => rfl
theorem kit_tup {K : PySem.W.Frag} : PySem.W.kitAny K (.type "tuple") seqTys = some true := kitAny_cons (kit_ty (r := false) (by decide +kernel)) (fun _ => kitAny_cons (kit_ty (r := true) (by decide +kernel)) (fun z => nomatch z) fun _ => rfl) fun z => nomatch z
section
variable {P : Program} {w : World} {K : PySem.W.Frag} {mg : Str → Option Value} {base : Heap}
theorem scAsc : FnScope ["values"] ["values"] (defScope sAsc) := ⟨rfl, rfl, rfl, by decide +kernel, rfl, by decide +kernel, by decide +kernel⟩
theorem ok_asc (D : DefIn K mg "ascending" sAsc) (B : Blt mg) : Ok P w K mg base "ascending" (defArgs sAsc) ["values"] 1 (Qi.spAsc K) := by
  refine D.ok scAsc (fun vs G Q E h => ?_) (fun _ _ _ _ _ _ us hl => match us, hl with | [_], _ => rfl) (fun f cdv A out t G vs Q E hr h => ?_)
  · obtain ⟨l, ts, rfl, _⟩ := h
    rfl
  · obtain ⟨l, ts, rfl, hs, few, k⟩ := h
    refine ⟨_, pss_one (ps_ret (pe_callTy cn_tuple (by rfl) B.n_tuple bt_tuple (pa_cons (pe_callB (call_sortX rfl) (by rfl) B.n_sorted bt_sorted (pa_cons (pe_callTy (call_setX rfl) (by rfl) B.n_set bt_set (pa_cons (pv 0) pa_nil)) pa_nil)) pa_nil))), ?_⟩
    exact ⟨_, rfl, asc_read (w := w) hs few k⟩
theorem scIsKeep : FnScope ["keep", "word"] ["keep"] (defScope sIsKeep) := ⟨rfl, rfl, rfl, by decide +kernel, rfl, by decide +kernel, by decide +kernel⟩
theorem ok_isKeep (D : DefIn K mg "is_keep" sIsKeep) (B : Blt mg) (hM : ∃ t, mg "MOST_KEPT" = some (.int 20 t)) (F_is_word : Ok P w K mg base "is_word" (defArgs sIsWord) ["value"] 2 (spIsWord K)) :
    Ok P w K mg base "is_keep" (defArgs sIsKeep) ["keep"] 3 (spIsKeep K) := by
  obtain ⟨tM, hM⟩ := hM
  refine D.ok scIsKeep (fun vs G Q E h => ?_) (fun _ _ _ _ _ _ us hl => match us, hl with | [_], _ => rfl) (fun f cdv A out t G vs Q E hr h => ?_)
  · obtain ⟨kv, ko, rfl, _⟩ := h
    rfl
  · obtain ⟨kv, ko, rfl, hk, k⟩ := h
    refine ⟨_, (pss_cons (ps_if (PW.pt (pw_or (pt_not (pt_val (pe_callB call_isiT (by rfl) B.n_isinstance bt_isinstance (pa_cons (pv 0) (pa_cons (pn_tup (pa_cons (pe_bltn (v := .ty "list") (by rfl) B.n_list bt_list rfl) (pa_cons (pe_bltn (v := .ty "tuple") (by rfl) B.n_tuple bt_tuple rfl) pa_nil))) pa_nil))))) (pw_or1 (pt_cmpR op_gt (pe_callB (call_len (X := _)) (by rfl) B.n_len bt_len (pa_cons (pv 0) pa_nil)) (pe_glob (v := .int 20) rfl hM ⟨_, rfl⟩) (nomark _))))) (pss_one (ps_ret pe_bl)) pss_nil)
    (pss_one (ps_ret (pe_callB (cr_all rfl) (by rfl) B.n_all bt_all (pa_cons (pe_lc (own := [("word", 1)]) (tt := tYes) rfl scIsKeep.nd (pi_seq (pv 0)) (blkOk_by (N := ["keep", "word"]) (sc := defScope sIsKeep) (by decide +kernel)) (fun _ _ _ _ _ => pg_name (i := 1) scIsKeep.nd rfl (by first | exact Or.inl rfl | exact Or.inr rfl)) (fun _ _ _ _ _ => pts_nil) (fun _ _ _ _ _ => (pe_own F_is_word (hr.mono (by decide)) takes0 (pa_cons (pv 1) pa_nil)))) pa_nil))))), ?_⟩
    refine ⟨_, rfl, by show 2 ≤ sizeLine; decide, fun tp G1 ntp s1 htp => ?_⟩
    have tys : Paired ClsV [V.ty "list", V.ty "tuple"] seqTys := .cons (.ty _) (.cons (.ty _) .nil)
    cases ko with
    | none =>
      obtain ⟨ty, hty, hkit⟩ := hk G1 s1
      refine ⟨kv, tp, _, ty, _, _, rfl, htp, tys, hty, hkit, _, rfl, ?_⟩
      exact iteT (k G1 s1)
    | some xs =>
      obtain ⟨a, rfl, hS, hn, hv⟩ := hk G1 s1
      have hT : ∃ ty, TyX K G1 (.ref a) ty ∧ PySem.W.kitAny K ty seqTys = some true := by
        rcases hS with h | h
        · exact ⟨_, tyL h, kit_list⟩
        · exact ⟨_, tyT h, kit_tup⟩
      obtain ⟨ty, hty, hkit⟩ := hT
      refine ⟨_, tp, _, ty, _, _, rfl, htp, tys, hty, hkit, _, rfl, ?_⟩
      refine iteF ?_
      refine ⟨_, rfl, .ref a, _, rfl, (by rcases hS with h | h; exact .inl ⟨_, h, rfl⟩; exact .inr ⟨_, h, rfl⟩), _, _, rfl, rfl, _, rfl, ?_⟩
      have k := k
      refine ite2 (fun h1 => ?_) (fun h1 => ?_)
      · have e : keepOk (some xs) = false := by
          have h1 := of_decide_eq_true h1
          show (decide (xs.length ≤ 20) && xs.all wordV) = false
          rw [decide_eq_false (show ¬ xs.length ≤ 20 by omega)]
          rfl
        rw [e] at k
        exact k G1 s1
      · have h1 : xs.length ≤ 20 := by
          have : ¬ (xs.length : Int) > 20 := by simpa using h1
          omega
        have hs : ∀ (D : Addr), G1 D = none → ∀ i x H, xs[i]? = some x → (Same G1 H ∧ H D = some (.lst ((xs.take i).map fun y => V.bl (wordV y)))) → ∀ G2, Same H G2 → ∃ acc, G2 D = some (.lst acc) ∧ acc.length < sizeLine ∧ (Same G1 (L2.upd G2 D (.lst (acc ++ [V.bl (wordV x)]))) ∧ (L2.upd G2 D (.lst (acc ++ [V.bl (wordV x)]))) D = some (.lst ((xs.take (i + 1)).map fun y => V.bl (wordV y)))) := fun D hD i x H hi ⟨sm, hl⟩ G2 s2 => by
          refine ⟨_, s2 _ _ hl, ?_, Qh.Same.fresh (sm.trans s2) hD, ?_⟩
          · rw [List.length_map, List.length_take]
            exact Nat.lt_of_le_of_lt (show _ ≤ 1000001 by omega) (by decide)
          · rw [upd_same, take_get hi, List.map_append]
            rfl
        have hd : ∀ (D : Addr) H, (Same G1 H ∧ H D = some (.lst ((xs.take xs.length).map fun y => V.bl (wordV y)))) → ∃ (l : Addr) (bs : List Bool), V.ref D = V.ref l ∧ SqL K H l (bs.map V.bl) ∧ Q (.bl (bs.all id)) H := fun D H ⟨sm, hl⟩ => by
          rw [List.take_length] at hl
          have eb : xs.map (fun y => V.bl (wordV y)) = (xs.map wordV).map V.bl := by
            rw [List.map_map]
            rfl
          rw [eb] at hl
          refine ⟨D, xs.map wordV, rfl, SqL.of hl, ?_⟩
          have e : (xs.map wordV).all id = keepOk (some xs) := by
            show _ = (decide (xs.length ≤ 20) && xs.all wordV)
            rw [decide_eq_true h1, List.all_map]
            rfl
          rw [e]
          exact k H (s1.trans sm)
        rcases hS with hL | hL
        · refine ⟨_, rfl, a, rfl, .inl ⟨⟨_, hL⟩, fun D hD => ?_⟩⟩
          refine lc_list (fun i H => Same G1 H ∧ H D = some (.lst ((xs.take i).map fun y => V.bl (wordV y)))) ⟨Qh.Same.new hD, by rw [upd_same]; rfl⟩ (fun i H _ ⟨sm, _⟩ => sm.seq hL) ?_ ?_
          · rintro i x H hi ⟨sm, hl⟩
            exact ⟨rfl, _, rfl, x, rfl, hv x (List.mem_of_getElem? hi) H sm, fun G2 s2 => hs D hD i x H hi ⟨sm, hl⟩ G2 s2⟩
          · intro H h
            obtain ⟨l, bs, e, h2, q⟩ := hd D H h
            exact ⟨l, bs, by rw [e], h2, q⟩
        · refine ⟨_, rfl, a, rfl, .inr ⟨⟨_, hL⟩, fun D hD => ?_⟩⟩
          refine lc_tup (fun i H => Same G1 H ∧ H D = some (.lst ((xs.take i).map fun y => V.bl (wordV y)))) ⟨Qh.Same.new hD, by rw [upd_same]; rfl⟩ (fun i H _ ⟨sm, _⟩ => seqT_same sm hL) ?_ ?_
          · rintro i x H hi ⟨sm, hl⟩
            exact ⟨rfl, _, rfl, x, rfl, hv x (List.mem_of_getElem? hi) H sm, fun G2 s2 => hs D hD i x H hi ⟨sm, hl⟩ G2 s2⟩
          · intro H h
            obtain ⟨l, bs, e, h2, q⟩ := hd D H h
            exact ⟨l, bs, by rw [e], h2, q⟩
end
end K05
set_option Elab.async false
set_option linter.all false
set_option maxRecDepth 100000
set_option maxHeartbeats 4000000
/-! def f(a, .., *v, k): called with values and k = value; instances made so; own errors with several fields, raised. -/
namespace Qi
open PySem PySem.Spec PyProof.Rows L2 Qh StX
/-- the promise of such a def: the values, then the keyword's value -/
def FnRK (P : Program) (w : World) (K : PySem.W.Frag) (mg : Str → Option Value) (base : Heap) (CX : CXT) (k : Nat) (f : Addr) (pk : Str) (sp : Sp) : Prop :=
  ∀ (A : Around) (outer : List Env) (s : Shared) (H : Hp) (us : List Value) (u : Value) (vs : List V) (z : V) (Q : VK) (E : XK), Room k A → Env0 P w K mg base A outer s H → Vals vs us → RelV z u → sp (vs ++ [z]) H Q E →
    codeAny (model P w) A (.call (.ref f) ⟨us, [(pk, u)]⟩) (CR CX outer P w H s Q E) s
section
variable {CX : CXT} {P : Program} {w : World} {K : PySem.W.Frag} {mg : Str → Option Value} {base : Heap} {k : Nat} {f : Addr} {name qual : Str} {params : Arguments} {body : List Stmt} {scope : Scope} {dV kV doc pm cdv ct oc : Value} {an od : Option Addr}
  {osl : Array (Option Value)} {N ps : List Str} {sp : Sp}
theorem fn_starK {pv pk : Str} (lk : K.lookup f = some ⟨oc, od, .func (PySem.W.fnOf name qual params body scope dV kV doc pm an cdv ct), osl⟩) (hcd : PySem.W.codeIn K cdv qual = true) (S : FnScope N (ps ++ [pk, pv]) scope) (hCX : CXUp CX)
    (hb : ∀ (us rest : List Value) (u : Value), us.length = ps.length → bindArgs (PySem.W.fnOf name qual params body scope dV kV doc pm an cdv ct) ⟨us ++ rest, [(pk, u)]⟩ = (newTuple rest >>= fun t => pure (ps.zip us ++ [(pk, u), (pv, t)])))
    (hbody : ∀ (A : Around) (outer : List Env) (s : Shared) (H : Hp) (vs : List V) (Q : VK) (E : XK), Room k (A.deeper (envOfC qual scope s.heap.objs.size f cdv)) → sp vs H Q E →
      ∃ t, PSs (cxOf CX P w K mg base N qual scope f cdv A outer s H E) body t ∧ t { nx := fun _ H' => Q .non H', rt := Q } (start N vs) H) :
    FnRK P w K mg base CX (k + 1) f pk (fun vs H Q E => ∃ ws rest z, vs = ws ++ rest ++ [z] ∧ ws.length = ps.length ∧ rest.length ≤ sizeLine ∧ ∀ p, H p = Option.none → sp (ws ++ [z, V.ref p]) (upd H p (.tup rest)) Q E) := by
  intro A outer s H us u vs z Q E hr e0 r rz hsp
  obtain ⟨ws, rest, z', ev, hl, few, want⟩ := hsp
  obtain ⟨e1, e2⟩ := List.append_inj' ev rfl
  obtain rfl : z = z' := by simpa using e2
  subst e1
  obtain ⟨u1, u2, rfl, r1, r2⟩ := vals_split r
  have free : H s.heap.objs.size = Option.none := e0.hok.fresh (Nat.le_refl _)
  have len1 : u1.length = ps.length := by rw [← r1.length]; exact hl
  have len2 : u2.length ≤ sizeLine := by rw [← r2.length]; exact few
  refine run_bnd (ps := ps ++ [pk, pv]) lk hcd S hr e0 (G := fun xs H2 => ∃ p, H p = Option.none ∧ xs = ws ++ [z, V.ref p] ∧ H2 = upd H p (.tup rest)) (fun A' Ex Q' h => ?_) ?_
  · rw [hb u1 u2 u len1]
    refine wpAny_bind (wpAny_newTuple (wpAny_pure ?_) len2)
    have new : ObjOk P w (upd H s.heap.objs.size (.tup rest)) (s.heap.push ({ cls := .type "tuple", data := .seq u2.toArray } : Obj)) s.heap.objs.size (.tup rest) := ⟨few, u2, r2, ⟨_, Heap.get?_push_size _ rfl, rfl, _, rfl⟩⟩
    have un := un_laid (fs := frs outer) (s := s) (o := ({ cls := .type "tuple", data := .seq u2.toArray } : Obj)) (u := .tup rest) free
    have got := h _ _ (ws ++ [z, V.ref s.heap.objs.size]) (u1 ++ [u, Value.ref s.heap.objs.size]) (env0_laid e0 new) un rfl (fun e s' => hCX outer s H _ _ E e s' un (fun b o q => Heap.get?_push_of_some _ q) rfl) (r1.append (.cons rz (.cons rfl .nil)))
      (by rw [List.length_append, List.length_append, hl] <;> rfl) ⟨_, free, rfl, rfl⟩
    rw [List.zip_append len1.symm] at got
    exact got
  · rintro s2 H2 xs ⟨p, hp, rfl, rfl⟩ hr'
    exact hbody A outer s2 _ _ Q E hr' (want p hp)
end
/-- C(e, .., pk = v) -/
def tMakeSK (C : Addr) (sp : Sp) (E : L2.St → XK) (t tk : TA) : TE := fun σ H Q => t σ H fun vs H1 => tk σ H1 fun zs H2 => ∃ z, zs = [z] ∧ ∀ x dx, H2 x = Option.none → H2 dx = Option.none → dx ≠ x →
  sp (V.ref x :: vs ++ [z]) (upd (upd H2 dx (.own x)) x (.ins C dx [])) (fun v H3 => v = .non ∧ Q (.ref x) H3) (E σ)
section
variable {X : Cx} {W : WX} {k : Nat} {f C : Addr} {sp : Sp} {x pk : Str} {e : Expr} {es : List Expr} {kws : List Keyword} {t tkw : TA} {p pos : Pos}
theorem run_makeSK {E : XK} {pins : List (Addr × Obj)} {σ : L2.St} {H : Hp} {s : Shared} {Q : VK} {us : List Value} {u : Value} {vs : List V} {z : V} (M : Mk X.K C f) (F : FnRK X.prog X.w X.K X.mg X.base (L2.CX X.prog X.w) k f pk sp) (hr : Room (k + 1) X.A)
    (hx : ∀ (H2 : Hp) (s2 : Shared) (er : Value) (s' : Shared), Inv X pins σ H2 s2 → L2.CX X.prog X.w X.stack H2 s2 E er s' → X.xe er s') (I : Inv X pins σ H s) (r : Vals vs us) (rz : RelV z u)
    (h : ∀ x dx, H x = Option.none → H dx = Option.none → dx ≠ x → sp (V.ref x :: vs ++ [z]) (upd (upd H dx (.own x)) x (.ins C dx [])) (fun v H2 => v = .non ∧ Q (.ref x) H2) E) :
    wpAny (model X.prog X.w) X.A (call (.ref C) us [(pk, u)]) (EP X pins σ Q) X.xe s := by
  have want := h (s.heap.objs.size + 1) s.heap.objs.size (I.hok.fresh (Nat.le_succ _)) (I.hok.fresh (Nat.le_refl _)) (Nat.ne_of_lt (Nat.lt_succ_self _))
  have J := Inv.made (C := C) I
  have rr : Vals (V.ref (s.heap.objs.size + 1) :: vs) (Value.ref (s.heap.objs.size + 1) :: us) := .cons rfl r
  refine wpAny_call (make_map (f := f) I.kIn M.makes M.init (beq_iff_eq.mp M.fn) (codeAny_mono (F _ X.stack _ _ (Value.ref (s.heap.objs.size + 1) :: us) u _ z _ E (hr.make C us [(pk, u)]) (J.env0.make C us [(pk, u)]) rr rz want) ?_))
  rintro (er | fl) s' hq
  · exact hx _ _ er s' J hq
  · cases fl with
    | next => exact hq.elim
    | brk => exact hq.elim
    | cont => exact hq.elim
    | ret v' =>
      obtain ⟨v, H2, J2, rv, ev, q⟩ := J.after hq
      subst ev
      exact ⟨rv, .ref (s.heap.objs.size + 1), H2, J2, rfl, q⟩
theorem pe_makeSK (M : Mk X.K C f) (F : FnRK X.prog X.w X.K X.mg X.base (L2.CX X.prog X.w) k f pk sp) (hr : Room (k + 1) X.A) (tk : Takes X W) (hm : X.mg x = some (.ref C)) (ha : PA X (e :: es) t) (hkw : PK X kws tkw) (hg : Gl X x := by rfl) (hdb : (x == ("__debug__" : Str)) = false := by decide)
    (hall : (backToKw pos (keywordEach kws X.env)).all (·.1.isSome) = true := by rfl) (hks : (backToKw pos (keywordEach kws X.env)).filterMap (·.1) = [pk] := by rfl)
    (he : starEach (e :: es) X.env = (false, eval e X.env) :: starEach es X.env := by rfl) (hpl : ((backTo pos (starEach (e :: es) X.env)).any (·.1) || (backToKw pos (keywordEach kws X.env)).any (·.1.isNone)) = false := by rfl) :
    PE X (.Call (.Name x p) (e :: es) kws pos) (tMakeSK C sp (WE W) t tkw) := by
  constructor
  intro pins s σ H Q I h
  refine wpAny_Call_Name_kw (ld_glob I hg hm ?_ hdb)
  refine PySem.W.callWith_KW (h₀ := X.base) I.ok.mod.kin M.kp hall (thn (ha.run pos pins s σ H _ I h) ?_) hpl he
  rintro us s1 ⟨vs, H1, I1, r, q⟩
  refine thn (hkw.run pos pins s1 σ H1 _ I1 q) ?_
  rintro ws s2 ⟨zs, H2, I2, rz, z, rfl, q2⟩
  refine ⟨I2.kIn, ?_⟩
  rw [hks]
  cases rz with
  | cons r1 r2 =>
    cases r2
    exact run_makeSK M F hr (fun H3 s3 er s' J c => passAt tk σ pins H3 s3 er s' J c) I2 r r1 q2
end
/-! ### own errors with several fields, raised -/
structure ErrN (P : Program) (w : World) (K : PySem.W.Frag) (mg : Str → Option Value) (base : Heap) (x : Str) (fields : List Str) (C : Addr) : Prop where
  c : ErrC K mg x C
  no : ∀ f ∈ fields, PySem.W.findIn K (.ref C) f = some none
  init : ∃ (fI : Addr) (fd : FuncData), PySem.W.findIn K (.ref C) "__init__" = some (some (.ref fI)) ∧ PySem.W.typeIn K (.ref fI) = some (.type "function") ∧ Binds K fd (("self" : Str) :: fields) [] ∧
    FnOk P w K mg base (L2.CX P w) 1 fI fd (("self" : Str) :: fields) (Qv.spErrG C fields)
section
variable {X : Cx} {x : Str} {C : Addr} {fields : List Str} {e : Expr} {es : List Expr} {t : TA} {p pos : Pos}
theorem pmk_errN (T : ErrN X.prog X.w X.K X.mg X.base x fields C) (hr : Room 2 X.A) (ha : PA X (e :: es) t) (hg : Gl X x := by rfl) (hdb : (x == ("__debug__" : Str)) = false := by decide)
    (hs : starEach (e :: es) X.env = (false, eval e X.env) :: starEach es X.env := by rfl) (hpl : (backTo pos (starEach es X.env)).any (·.1) = false := by rfl) :
    PMk X (.Call (.Name x p) (e :: es) [] pos) (tMkO C (Qv.spErrG C fields) [] t) := by
  obtain ⟨fI, fd, iC, tI, hb, F⟩ := T.init
  exact pmk_oex (p := p) (pos := pos) T.c.o iC tI F hr hb .nil passL hg T.c.g ha hdb hs hpl
end
/-- .. what its reading ends in -/
theorem errN_end {fields : List Str} {C : Addr} {ws : List V} {G1 : Hp} {Q : XK} (hl : ws.length = fields.length) (few : ws.length ≤ 1000) (q : ∀ d, G1 d = none → Q (.ref C) (some d) (upd G1 d (.xd (fields.zip ws).reverse))) :
    ws.length ≤ 1000 ∧ ∀ a, G1 a = none → Qv.spErrG C fields (.ref a :: (ws ++ [])) (upd G1 a (exo a C none))
      (fun v H2 => v = .non ∧ ∃ (d : Addr) (fs : List (Str × V)), H2 a = some (exo a C (some d)) ∧ H2 d = some (exd d fs) ∧ G1 d = none ∧ Q (.ref C) (some d) (upd (del H2 a) d (.xd fs))) (fun _ _ _ => False) := by
  refine ⟨few, fun a ha => ⟨a, ws, by rw [List.append_nil], hl, upd_same, fun d hd da => ⟨rfl, d, (fields.zip ws).reverse, upd_same, ?_, ?_, ?_⟩⟩⟩
  · rw [upd_ne da, upd_same]
  · rw [upd_ne da] at hd
    exact hd
  · rw [err_heap ha da]
    rw [upd_ne da] at hd
    exact q d hd
end Qi
set_option Elab.async false
set_option linter.all false
set_option maxRecDepth 100000
set_option maxHeartbeats 4000000
/-! {x for .. in .. if ..} of members of any sort whose set.add has a rule; for ints. -/
namespace Qsc
open PySem PySem.Spec PyProof.Rows L2
/-- the new, empty set -/
abbrev bare (w : World) : Obj := { cls := .type "set", dict := none, data := .set #[] 0 (.fresh 0 0 (!w.params.followText "set-order")) }
def tSet (O : Addr → HO) (r : V → List V → Hp → VK → Prop) (wi : TI) (g : TG) (tt : TT) (te : TE) (own : List Nat) : TE := fun z U R =>
  wi z U fun J U1 => ∀ D, U1 D = none → ∃ W : Nat → Nat → Hp → Prop, (∃ m, W 0 m (upd U1 D (O D))) ∧ ∀ i m U2, W i m U2 →
    (J.stop i U2 ∧ R (.ref D) U2) ∨
    (J.go i U2 ∧ ∃ Nx : Hp → Prop, (∀ U3, Nx U3 → ∃ m', m' < m ∧ W (i + 1) m' U3) ∧
      ∀ x U3, J.yld i U2 x U3 → g x (wipe z own) U3 fun z2 U4 => wipe z2 own = wipe z own ∧
        tt z2 U4 fun b U5 => if b = true then te z2 U5 fun y U6 => r (.ref D) [y] U6 fun _ U7 => Nx U7 else Nx U5)
section
variable {X : Cx} {elt tg iter : Expr} {ifs : List Expr} {sc : Scope} {own : List (PySem.Str × Nat)} {p0 p1 : Pos} {wi : TI} {g : TG} {tt : TT} {te : TE} {O : Addr → HO} {r : V → List V → Hp → VK → Prop}
theorem set_run {ps : List (Addr × Obj)} {sh : Shared} {z : L2.St} {U : Hp} {R : VK} {use : Option (Value → Sem Unit)} {Qf : Value → Shared → Prop}
    (calm : X.calm = true) (nd : X.N.Nodup) (I : Inv X ps z U sh) (hi : PI X tg iter wi) (ok : BlkOk X.N X.env.scope sc own)
    (hO : ∀ (P : Program) (H : Hp) (h : Heap), ObjOk P X.w H (h.push (bare X.w)) h.objs.size (O h.objs.size)) (hr : ∀ X' : Cx, X'.w = X.w → MtR X' "set.add" r)
    (hg : ∀ (a : Shared) (b : Hp) (c : Addr) (d : List (PySem.Str × Addr)) (e : List Addr), PG (X.blk a b sc (compEnvC sc d c X.env) e) tg g)
    (ht : ∀ (a : Shared) (b : Hp) (c : Addr) (d : List (PySem.Str × Addr)) (e : List Addr), PTs (X.blk a b sc (compEnvC sc d c X.env) e) ifs tt)
    (he : ∀ (a : Shared) (b : Hp) (c : Addr) (d : List (PySem.Str × Addr)) (e : List Addr), PE (X.blk a b sc (compEnvC sc d c X.env) e) elt te)
    (fold : ∀ x, foldedSetIterable iter X.env x = pure x)
    (h : tSet O r wi g tt te (own.map (·.2)) z U R)
    (out : ∀ D C s2 m U2, Inv X ps z U2 s2 → R (.ref D) U2 → s2.heap.Ns C m → FpOk X ps U2 C → compPost (model X.prog X.w) X.A X.xe use Qf (.ref D) C (.ok .next) s2) :
    wpAny (model X.prog X.w) X.A (comprehension (.SetComp elt [⟨tg, iter, ifs, 0⟩] sc p0) sc X.env p1 (newSet (.type "set")) false (eval iter X.env) use) Qf X.xe sh := by
  have free : ∀ y ∈ sc.names, y.2 = .free → ∃ c, X.env.cells.lookup y.1 = some c := fun y hy e =>
    (ok.free y hy e).elim (fun k => I.ok.has _ (.inl k)) fun k => I.ok.has _ (.inr k)
  refine wpAny_comprehension_free (use := use) rfl fold (closure_ok free) ok.kind (fun y hy e => by rw [ok.uniq y hy, e]) ?_
  refine thn (hi.run ps sh z U _ I h) fun xv s1 hx => thn hx ?_
  rintro itv s2 ⟨it, fp, tn, J, H2, rfl, I2, T, st2, f2, q⟩
  refine PpSet.newSet_ok (newEnv_comp ?_)
  generalize eD : s2.heap.objs.size = D
  obtain ⟨W, ⟨m0, w0⟩, turn⟩ := q D (I2.hok.fresh (Nat.le_of_eq eD))
  generalize e3 : ({ s2 with heap := s2.heap.push (bare X.w) } : Shared) = s3
  have hp3 : s3.heap = s2.heap.push (bare X.w) := by rw [← e3]
  have I3 : Inv X ps z (upd H2 D (O D)) s3 := by
    rw [← e3]
    refine I2.laid (t' := s2.toks) (fun b o e => Heap.get?_push_of_some _ e) (Nat.le_of_eq eD) ?_
    rw [← eD]
    exact hO _ _ _
  have f3 : ∀ b ∈ fp, FpOk X ps (upd H2 D (O D)) b ∧ b < s3.heap.objs.size := fun b hb => by
    obtain ⟨o, eo, _⟩ := T.obj _ _ st2 b hb
    have lt : b < s2.heap.objs.size := Heap.lt_size eo
    obtain ⟨k1, k2⟩ := f2 b hb
    refine ⟨⟨?_, k2⟩, ?_⟩
    · rw [upd_ne (by rw [← eD]; exact Nat.ne_of_lt lt)]
      exact k1
    · rw [hp3, Heap.size_push]
      exact Nat.lt_succ_of_lt lt
  have st3 : tn 0 s3.heap := T.keep _ _ _ st2 fun b _ o e => by
    rw [hp3]
    exact Heap.get?_push_of_some _ e
  generalize hH3 : upd H2 D (O D) = H3 at I3 f3 w0
  have I4 := block_start I3 ok nd f3
  generalize hcl : cellsFrom (s3.heap.objs.size + 1) sc.names (cloFrom X.env.cells sc.names []) = cl at I4
  have pg := hg s3 H3 s3.heap.objs.size cl fp
  have pt := ht s3 H3 s3.heap.objs.size cl fp
  have pe := he s3 H3 s3.heap.objs.size cl fp
  have start : ∀ ce, ce = compEnvC sc cl s3.heap.objs.size X.env → codeAny (model X.prog X.w) X.A (.compStart (.SetComp elt [⟨tg, iter, ifs, 0⟩] sc p0) 0 (.ref it) (.ref D) ce) (compPost (model X.prog X.w) X.A X.xe use Qf (.ref D) s3.heap.objs.size) { s3 with heap := pushCells (s3.heap.push { cls := .type "dict", data := .dict #[] }) sc.names } := fun ce hce => by
    rw [← hce] at I4 pg pt pe
    have cL : ce.locals = s3.heap.objs.size := by rw [hce]; rfl
    generalize e4 : ({ s3 with heap := pushCells (s3.heap.push { cls := .type "dict", data := .dict #[] }) sc.names } : Shared) = s4 at I4 ⊢
    have st4 : tn 0 s4.heap := T.keep _ _ _ st3 fun b _ o e => by
      rw [← e4]
      exact pushCells_keeps _ _ _ _ (Heap.get?_push_of_some _ e)
    have fpn : ∀ {z' : L2.St} {H' : Hp} {s' : Shared}, Inv (X.blk s3 H3 sc ce fp) [] z' H' s' → (∀ b ∈ fp, H' b = none) → ∀ b ∈ fp, FpOk (X.blk s3 H3 sc ce fp) [] H' b := fun {z' H' s'} J' n b hb =>
      ⟨n b hb, (J'.ok.exf b hb).1, J'.ok.exfs b hb, .inl hb, fun x c e => (J'.ok.exf b hb).2 x c e, fun p hp => absurd (show p ∈ ([] : List (Addr × Obj)) ++ [] from hp) (by simp)⟩
    have loop := PpSet.compLoopS_any (prog := X.prog) (w := X.w) (A := X.A) (R := compPost (model X.prog X.w) X.A X.xe use Qf (.ref D) s3.heap.objs.size) (env := ce) (elt := elt) (target := tg) (iter := iter) (ifs := ifs) (scope := sc) (pos := p0) (it := .ref it) (acc := .ref D)
      (fun n s' => ∃ i H', Inv (X.blk s3 H3 sc ce fp) [] (wipe z (own.map (·.2))) H' s' ∧ tn i s'.heap ∧ (∀ b ∈ fp, H' b = none) ∧ W i n H') ?_ m0 (s := s4) ⟨0, H3, I4, st4, fun b hb => (f3 b hb).1.1, w0⟩
    · exact PpSet.codeAny_compStart_set loop (T.self X.A 0 _ _ _ st4 loop)
    rintro n s5 ⟨i, H5, I5, st5, n5, w5⟩
    rcases turn i n H5 w5 with ⟨stop, qq⟩ | ⟨go, Nx, hNx, step⟩
    · refine thnF (T.done (X.blk s3 H3 sc ce fp) rfl rfl rfl calm i [] s5 _ H5 (fun _ _ => False) I5 (fpn I5 n5) st5 stop) ?_
      rintro _ s6 ⟨rfl, I6⟩
      have nC : H5 s3.heap.objs.size = none := by
        rw [← cL]
        exact I6.free
      obtain ⟨m, hn, _⟩ := I6.loc
      refine out D s3.heap.objs.size s6 m H5 ?_ qq (by rw [← cL]; exact hn) (I3.fpOk (Nat.le_refl _) nC)
      refine I3.call' (ch := fp) I6.os I6.base I6.hok I6.bare fun b hb => ?_
      obtain ⟨⟨_, k1, k2, k3, k4, k5⟩, _⟩ := f3 b hb
      exact ⟨k3, k1, k4, k5⟩
    · refine thnF (T.item (X.blk s3 H3 sc ce fp) rfl rfl rfl calm i [] s5 _ H5 (fun _ _ => False) I5 (fpn I5 n5) st5 go) ?_
      rintro _ s6 ⟨u, rfl, h6⟩
      refine thnF h6 ?_
      rintro _ s7 ⟨x, H7, I7, r7, y7, st7, n7⟩
      refine thnF (pg.run _ s7 _ H7 x u _ (I7.pinned (fpn I7 n7) (T.obj _ _ st7)) r7 (step x H7 y7)) ?_
      rintro _ s8 ⟨z8, H8, I8, hw8, q8⟩
      refine thnF (pt.run _ s8 z8 H8 _ I8 q8) ?_
      rintro b s9 ⟨H9, I9, q9⟩
      have fin : ∀ {s' : Shared} {H' : Hp}, Inv (X.blk s3 H3 sc ce fp) ([] ++ pinsAt fp s7.heap) z8 H' s' → Nx H' → ∃ m, m < n ∧ ∃ i H', Inv (X.blk s3 H3 sc ce fp) [] (wipe z (own.map (·.2))) H' s' ∧ tn i s'.heap ∧ (∀ b ∈ fp, H' b = none) ∧ W i m H' := fun {s' H'} I' nx => by
        obtain ⟨m', hm, w'⟩ := hNx H' nx
        have stay : ∀ b ∈ fp, ∀ o, s7.heap.get? b = some o → s'.heap.get? b = some o ∧ H' b = none := fun b hb o e => by
          have k := I'.pin (b, o) (List.mem_append_right _ (List.mem_append_right _ (mem_pinsAt hb e)))
          exact ⟨k.1, k.2.1⟩
        refine ⟨m', hm, i + 1, H', (I'.unpinned (pins := [])).weak (by rw [← hw8, wipe_length]) fun j v e => ?_, T.keep _ _ _ st7 fun b hb o e => (stay b hb o e).1, fun b hb => ?_, w'⟩
        · rw [← hw8] at e
          exact (wipe_some e).1
        · obtain ⟨o, e, _⟩ := T.obj _ _ st7 b hb
          exact (stay b hb o e).2
      cases b with
      | false =>
        rw [if_neg Bool.false_ne_true] at q9
        simp only [Bool.false_eq_true, if_false]
        exact fin I9 q9
      | true =>
        rw [if_pos rfl] at q9
        simp only [if_true]
        refine thnF (pe.run _ s9 z8 H9 _ I9 q9) ?_
        rintro v s10 ⟨y, H10, I10, r10, q10⟩
        refine thnF (hr (X.blk s3 H3 sc ce fp) rfl _ s10 z8 H10 (.ref D) [y] (.ref D) [v] _ I10 rfl (.cons r10 .nil) q10) ?_
        rintro _ s11 ⟨_, H11, I11, _, q11⟩
        exact fin I11 q11
  exact start _ rfl
theorem pe_set (calm : X.calm = true) (nd : X.N.Nodup) (hi : PI X tg iter wi) (ok : BlkOk X.N X.env.scope sc own)
    (hO : ∀ (P : Program) (H : Hp) (h : Heap), ObjOk P X.w H (h.push (bare X.w)) h.objs.size (O h.objs.size)) (hr : ∀ X' : Cx, X'.w = X.w → MtR X' "set.add" r)
    (hg : ∀ (a : Shared) (b : Hp) (c : Addr) (d : List (PySem.Str × Addr)) (e : List Addr), PG (X.blk a b sc (compEnvC sc d c X.env) e) tg g)
    (ht : ∀ (a : Shared) (b : Hp) (c : Addr) (d : List (PySem.Str × Addr)) (e : List Addr), PTs (X.blk a b sc (compEnvC sc d c X.env) e) ifs tt)
    (he : ∀ (a : Shared) (b : Hp) (c : Addr) (d : List (PySem.Str × Addr)) (e : List Addr), PE (X.blk a b sc (compEnvC sc d c X.env) e) elt te)
    (fold : ∀ x, foldedSetIterable iter X.env x = pure x := by intro _; rfl) :
    PE X (.SetComp elt [⟨tg, iter, ifs, 0⟩] sc p0) (tSet O r wi g tt te (own.map (·.2))) := by
  constructor
  intro ps sh z U R I h
  rw [PpSet.eval_SetComp]
  refine set_run calm nd I hi ok hO hr hg ht he fold h fun D C s2 m U2 I2 q hn f => ⟨m, hn, fun h2 sb => ?_⟩
  obtain ⟨k0, k1, k2, k3, k4, k5⟩ := f
  refine ⟨.ref D, U2, ?_, rfl, q⟩
  exact I2.turned (t' := s2.toks) (fun b o hb e => (sb.2 b hb).trans e) k0 k1 k3 k4 k5
/-- .. of ints -/
theorem pe_setI (calm : X.calm = true) (nd : X.N.Nodup) (hi : PI X tg iter wi) (ok : BlkOk X.N X.env.scope sc own)
    (hg : ∀ (a : Shared) (b : Hp) (c : Addr) (d : List (PySem.Str × Addr)) (e : List Addr), PG (X.blk a b sc (compEnvC sc d c X.env) e) tg g)
    (ht : ∀ (a : Shared) (b : Hp) (c : Addr) (d : List (PySem.Str × Addr)) (e : List Addr), PTs (X.blk a b sc (compEnvC sc d c X.env) e) ifs tt)
    (he : ∀ (a : Shared) (b : Hp) (c : Addr) (d : List (PySem.Str × Addr)) (e : List Addr), PE (X.blk a b sc (compEnvC sc d c X.env) e) elt te)
    (fold : ∀ x, foldedSetIterable iter X.env x = pure x := by intro _; rfl) :
    PE X (.SetComp elt [⟨tg, iter, ifs, 0⟩] sc p0) (tSet (fun D => SetO X.w D (fun _ => false) 0) (rSAdd X.w) wi g tt te (own.map (·.2))) :=
  pe_set calm nd hi ok (fun P H h => setO_new (setR_fresh X.w)) (fun X' e => by rw [← e]; exact mt_sadd) hg ht he fold
end
/-- a walk that fills a set: Pv by the turn and the heap -/
theorem set_it {J : It} {n : Nat} {Gd : Hp → Prop} {Y : Nat → Hp → V → Hp → Prop} (wk : Walk J n Gd Y) {O : Addr → HO} {r : V → List V → Hp → VK → Prop} {g : TG} {tt : TT} {te : TE} {own : List Nat} {z : L2.St} {U : Hp} {D : Addr} {Qd : Hp → Prop} (Pv : Nat → Hp → Prop)
    (h0 : Pv 0 (upd U D (O D))) (hG : ∀ i H, i ≤ n → Pv i H → Gd H)
    (hs : ∀ i x H H', i < n → Pv i H → Y i H x H' → g x (wipe z own) H' fun z2 H2 => wipe z2 own = wipe z own ∧ tt z2 H2 fun b H3 => if b = true then te z2 H3 fun y H4 => r (.ref D) [y] H4 fun _ H5 => Pv (i + 1) H5 else Pv (i + 1) H3)
    (hd : ∀ H, Pv n H → Qd H) :
    ∃ W : Nat → Nat → Hp → Prop, (∃ m, W 0 m (upd U D (O D))) ∧ ∀ i m U2, W i m U2 →
    (J.stop i U2 ∧ Qd U2) ∨
    (J.go i U2 ∧ ∃ Nx : Hp → Prop, (∀ U3, Nx U3 → ∃ m', m' < m ∧ W (i + 1) m' U3) ∧
      ∀ x U3, J.yld i U2 x U3 → g x (wipe z own) U3 fun z2 U4 => wipe z2 own = wipe z own ∧
        tt z2 U4 fun b U5 => if b = true then te z2 U5 fun y U6 => r (.ref D) [y] U6 fun _ U7 => Nx U7 else Nx U5) := by
  refine ⟨fun i m H => i + m = n ∧ Pv i H, ⟨n, by omega, h0⟩, ?_⟩
  rintro i m H ⟨him, hp⟩
  have gd := hG i H (by omega) hp
  rcases Nat.lt_or_ge i n with lt | ge
  · exact .inr ⟨wk.goes i H lt gd, Pv (i + 1), fun H' p' => ⟨n - (i + 1), by omega, by omega, p'⟩, fun x H' y => hs i x H H' lt hp (wk.yields i H x H' lt gd y)⟩
  · obtain rfl : i = n := by omega
    exact .inl ⟨wk.stops H gd, hd H hp⟩
end Qsc
set_option Elab.async false
set_option linter.all false
set_option maxRecDepth 100000
set_option maxHeartbeats 4000000
namespace K05
open PySem PySem.Spec PyProof.Rows L2 TL Qh Qi Ql ClX
abbrev sInit : Stmt := inClass (top 17) 2
abbrev sErrInit : Stmt := inClass (top 2) 0
def ixV : Option Nat → V
  | none => .non
  | some i => .int (i : Int)
/-- the reason and the index that are due; none if the step can be made -/
def dueX (xs : List V) (ko : Option (List V)) : Option (Str × Option Nat) := if (decide ((1 : Int) ≤ (xs.length : Int)) && decide ((xs.length : Int) ≤ 8)) = true then
  (match xs.findIdx? (fun v => !endingV v) with
    | some i => some (Str.ofString "ending", some i)
    | none => if keepOk ko then none else some (Str.ofString "keep", none)) else some (Str.ofString "words", none)
theorem txt_of {m : Int} {v : V} (h : lettersV v m = true) : ∃ x, v = .str x := by
  cases v with
  | str x => exact ⟨x, rfl⟩
  | _ => cases h
theorem all_txt : ∀ {xs : List V}, (∀ v ∈ xs, ∃ x, v = .str x) → ∃ ts : List Str, xs = ts.map V.str
  | [], _ => ⟨[], rfl⟩
  | v :: xs, h => by
    obtain ⟨x, rfl⟩ := h _ List.mem_cons_self
    obtain ⟨ts, e⟩ := all_txt fun v hv => h v (List.mem_cons_of_mem _ hv)
    exact ⟨x :: ts, by rw [e]; rfl⟩
theorem keep_txt {ko : Option (List V)} (h : keepOk ko = true) : ∃ ks : List Str, ko = some (ks.map V.str) ∧ ks.length ≤ 20 := by
  cases ko with
  | none => cases h
  | some xs =>
    have h : (decide (xs.length ≤ 20) && xs.all wordV) = true := h
    obtain ⟨h1, h2⟩ := Bool.and_eq_true_iff.mp h
    obtain ⟨ks, rfl⟩ := all_txt fun v hv => txt_of (List.all_eq_true.mp h2 v hv)
    have h1 := of_decide_eq_true h1
    rw [List.length_map] at h1
    exact ⟨ks, rfl, h1⟩
structure StemC (K : PySem.W.Frag) (mg : Str → Option Value) (C : Addr) : Prop where
  g : mg "Stem" = some (.ref C)
  cl : Cls K C
  n1 : NoAttr K C "endings"
  n2 : NoAttr K C "keep"
  n3 : NoAttr K C "sizes"
  most : ∃ mc u, CRead K C mc ∧ CVal K C mc "MOST" (.int 8) u
  least : ∃ mc u, CRead K C mc ∧ CVal K C mc "LEAST" (.int 2) u
def ErrStep (G G' : Hp) (d : Addr) (reason : Str) (i : V) : Prop := G d = none ∧ Same G G' ∧ G' d = some (.xd [("index", i), ("reason", .str reason)])
/-- the lengths of these texts, the greatest first, each once -/
def SizesOf (ss : List Str) (zs : List Int) : Prop := zs.Pairwise (fun a b => b < a) ∧ ∀ z, z ∈ zs ↔ ∃ e ∈ ss, (e.length : Int) = z
/-- an instance with these endings and these words kept -/
def StemAt (C : Addr) (G : Hp) (a : Addr) (ss kk : List Str) : Prop := ∃ dx D1 D2 D3 zs, G a = some (.ins C dx [("endings", .ref D1), ("keep", .ref D2), ("sizes", .ref D3)]) ∧ G D1 = some (.tup (ss.map V.str)) ∧ G D2 = some (.tup (kk.map V.str)) ∧ G D3 = some (.tup (zs.map V.int)) ∧ SizesOf ss zs
theorem StemAt.same {C : Addr} {G G' : Hp} {a : Addr} {ss kk : List Str} (h : StemAt C G a ss kk) (s : Same G G') : StemAt C G' a ss kk := by
  obtain ⟨dx, D1, D2, D3, zs, h1, h2, h3, h4, h5⟩ := h
  exact ⟨dx, D1, D2, D3, zs, s _ _ h1, s _ _ h2, s _ _ h3, s _ _ h4, h5⟩
theorem StemAt.updL {C : Addr} {G : Hp} {a g : Addr} {ss kk : List Str} {ys : List V} {o : HO} (h : StemAt C G a ss kk) (hg : G g = some (.lst ys)) : StemAt C (L2.upd G g o) a ss kk := by
  obtain ⟨dx, D1, D2, D3, zs, h1, h2, h3, h4, h5⟩ := h
  have ne : ∀ {b : Addr} {u : HO}, G b = some u → (∀ xs, u ≠ .lst xs) → b ≠ g := fun {b u} e hu z => by
    rw [z, hg] at e
    exact hu _ (Option.some.inj e).symm
  exact ⟨dx, D1, D2, D3, zs, by rw [upd_ne (ne h1 fun _ z => nomatch z)]; exact h1, by rw [upd_ne (ne h2 fun _ z => nomatch z)]; exact h2, by rw [upd_ne (ne h3 fun _ z => nomatch z)]; exact h3, by rw [upd_ne (ne h4 fun _ z => nomatch z)]; exact h4, h5⟩
def spInit (K : PySem.W.Frag) (C CE : Addr) : Sp := fun vs G Q E => ∃ (x dx p : Addr) (xs : List V) (kv : V) (ko : Option (List V)), vs = [.ref x, kv, .ref p] ∧ G x = some (.ins C dx []) ∧ G p = some (.tup xs) ∧ (∀ v ∈ xs, ∀ G', Same G G' → Known K G' v) ∧ xs.length ≤ 1000 ∧ (∀ G', Same G G' → KeepAt K G' kv ko) ∧
  (∀ reason i, dueX xs ko = some (reason, i) → ∀ d G', ErrStep G G' d reason (ixV i) → E (.ref CE) (some d) G') ∧
  (∀ ts ks : List Str, dueX xs ko = none → xs = ts.map V.str → ko = some (ks.map V.str) → ∀ (ss kk : List Str) G', Kp x G G' → StemAt C G' x ss kk → Qs.Asc ts ss → Qs.Asc ks kk → Q .non G')
theorem two_of {l : List V} (h : l.length = 2) : ∃ a b, l = [a, b] := match l, h with
  | [a, b], _ => ⟨a, b, rfl⟩
theorem heap2 {G : Hp} {a d : Addr} {x y z : HO} (n : d ≠ a) : L2.upd (L2.upd (L2.upd G d x) a y) d z = L2.upd (L2.upd G d z) a y := by
  funext b
  by_cases hb : b = d
  · subst hb
    rw [upd_same, upd_ne n, upd_same]
  · rw [upd_ne hb]
    by_cases ha : b = a
    · subst ha
      rw [upd_same, upd_same]
    · rw [upd_ne ha, upd_ne hb, upd_ne ha, upd_ne hb]
theorem tup_ne_ins {G : Hp} {D C dx : Addr} {fs : List (Str × V)} (h : G D = some (.ins C dx fs)) : ∀ a t, G a = some (.tup t) → a ≠ D := fun a t e z => by
  rw [z, h] at e
  cases e
theorem sq_put {K : PySem.W.Frag} {G : Hp} {D C dx a : Addr} {fs : List (Str × V)} {o : HO} {xs : List V} (h : G D = some (.ins C dx fs)) (hs : SqL K G a xs ∨ SqT K G a xs) : SqL K (L2.upd G D o) a xs ∨ SqT K (L2.upd G D o) a xs := by
  have ne : ∀ u, G a = some u → (∀ C dx fs, u ≠ .ins C dx fs) → a ≠ D := fun u e n z => by
    rw [z, h] at e
    exact n _ _ _ (Option.some.inj e).symm
  rcases hs with ((h | ⟨o, h⟩) | h) | ((h | ⟨o, h⟩) | h)
  · exact .inl (.inl (.inl (by rw [upd_ne (ne _ h (fun _ _ _ z => nomatch z))]; exact h)))
  · exact .inl (.inl (.inr ⟨o, by rw [upd_ne (ne _ h (fun _ _ _ z => nomatch z))]; exact h⟩))
  · exact .inl (.inr h)
  · exact .inr (.inl (.inl (by rw [upd_ne (ne _ h (fun _ _ _ z => nomatch z))]; exact h)))
  · exact .inr (.inl (.inr ⟨o, by rw [upd_ne (ne _ h (fun _ _ _ z => nomatch z))]; exact h⟩))
  · exact .inr (.inr h)
section
variable {P : Program} {w : World} {K : PySem.W.Frag} {mg : Str → Option Value} {base : Heap}
theorem scErrInit : FnScope ["self", "reason", "index"] ["self", "reason", "index"] (defScope sErrInit) := ⟨rfl, rfl, rfl, by decide +kernel, rfl, by decide +kernel, by decide +kernel⟩
theorem ok_errInit {C f : Addr} {fd : FuncData} (F : Fun K "__init__" "InvalidStep.__init__" sErrInit f fd) (T : OexC K C) (no : ∀ x ∈ (["reason", "index"] : List Str), PySem.W.findIn K (.ref C) x = some none) : FnOk P w K mg base (L2.CX P w) 1 f fd ["self", "reason", "index"] (Qv.spErrG C ["reason", "index"]) := by
  refine F.okX scErrInit (fun vs G Q E h => ?_) (fun cdv A out t G vs Q E hr h => ?_)
  · obtain ⟨a, ws, rfl, hl, _⟩ := h
    rw [List.length_cons, hl]
    rfl
  · obtain ⟨a, ws, rfl, hl, ha, k⟩ := h
    obtain ⟨y1, y2, rfl⟩ := two_of hl
    refine ⟨_, pss_cons (ps_ost (pv 0) (pv 1)) (pss_one (ps_ost (pv 0) (pv 2))), ?_⟩
    refine ⟨_, rfl, _, rfl, a, C, rfl, T, no _ List.mem_cons_self, .inl ⟨ha, fun dx hd da => ?_⟩⟩
    refine ⟨_, rfl, _, rfl, a, C, rfl, T, no _ (List.mem_cons_of_mem _ List.mem_cons_self), .inr ⟨dx, _, upd_same, by rw [upd_ne da, upd_same], by show 1 ≤ 900; decide, ?_⟩⟩
    rw [heap2 da]
    exact k dx hd da
theorem scInit : FnScope ["self", "keep", "endings", "index", "ending"] ["self", "keep", "endings"] (defScope sInit) := ⟨rfl, rfl, rfl, by decide +kernel, rfl, by decide +kernel, by decide +kernel⟩
theorem body_init {C CE : Addr} (B : Blt mg) (T : StemC K mg C) (TE : ErrN P w K mg base "InvalidStep" ["reason", "index"] CE) (F_is_ending : Ok P w K mg base "is_ending" (defArgs sIsEnding) ["value"] 2 (spIsEnding K)) (F_is_keep : Ok P w K mg base "is_keep" (defArgs sIsKeep) ["keep"] 3 (spIsKeep K)) (F_asc : Ok P w K mg base "ascending" (defArgs sAsc) ["values"] 1 (Qi.spAsc K))
    {f : Addr} (cdv : Value) (A : Around) (out : List Env) (t : Shared) (G : Hp) (vs : List V) (Q : VK) (E : XK) (hr : Room 4 (A.deeper (envOfC "Stem.__init__" (defScope sInit) t.heap.objs.size f cdv))) (h : spInit K C CE vs G Q E) :
    ∃ rd, PSs (cxOf (L2.CX P w) P w K mg base ["self", "keep", "endings", "index", "ending"] "Stem.__init__" (defScope sInit) f cdv A out t G E) (defBody sInit) rd ∧ rd { nx := fun _ G' => Q .non G', rt := Q } (start ["self", "keep", "endings", "index", "ending"] vs) G := by
  obtain ⟨x, dx, p, xs, kv, ko, rfl, hx, hp, hk, hn, hkv, kE, kD⟩ := h
  refine ⟨_, (pss_cons (ps_if (pt_not (pt_chain op_le op_le pe_int (pe_callB call_len (by rfl) B.n_len bt_len (pa_cons (pv 2) pa_nil)) (pe_cval (pe_glob (v := .ref C) rfl T.g rfl)))) (pss_one (ps_raise rfl (takes_of rfl rfl rfl rfl) (pmk_errN TE (hr.mono (by decide)) (pa_cons pe_str (pa_cons pe_non pa_nil))))) pss_nil)
    (pss_cons (ps_for (passes_of rfl) rfl (pi_enumT (by rfl) B.n_enumerate (pa_cons (pv 2) pa_nil)) (pg_tup rfl (pgs_cons (pg_name (i := 3) scInit.nd rfl (by first | exact Or.inl rfl | exact Or.inr rfl)) (pgs_cons (pg_name (i := 4) scInit.nd rfl (by first | exact Or.inl rfl | exact Or.inr rfl)) pgs_nil)))
      (pss_one (ps_if (pt_not (pt_val (pe_own F_is_ending (hr.mono (by decide)) takes0 (pa_cons (pv 4) pa_nil)))) (pss_one (ps_raise rfl (takes_of rfl rfl rfl rfl) (pmk_errN TE (hr.mono (by decide)) (pa_cons pe_str (pa_cons (pv 3) pa_nil))))) pss_nil)))
    (pss_cons (ps_if (pt_not (pt_val (pe_own F_is_keep (hr.mono (by decide)) takes0 (pa_cons (pv 1) pa_nil)))) (pss_one (ps_raise rfl (takes_of rfl rfl rfl rfl) (pmk_errN TE (hr.mono (by decide)) (pa_cons pe_str (pa_cons pe_non pa_nil))))) pss_nil)
    (pss_cons (ps_fld (pv 0) (pe_own F_asc (hr.mono (by decide)) takes0 (pa_cons (pv 2) pa_nil)) rfl)
    (pss_cons (ps_fld (pv 0) (pe_own F_asc (hr.mono (by decide)) takes0 (pa_cons (pv 1) pa_nil)) rfl)
    (pss_one (ps_fld (pv 0) (RT.pe_tupRev rfl (by rfl) B.n_tuple (by rfl) B.n_reversed (pe_callB (cr_sortedSet rfl) (by rfl) B.n_sorted bt_sorted (pa_cons (Qsc.pe_setI (own := [("ending", 4)]) (tt := tYes) rfl scInit.nd (pi_tup (pv 2)) (blkOk_by (N := ["self", "keep", "endings", "index", "ending"]) (sc := defScope sInit) (by decide +kernel)) (fun _ _ _ _ _ => pg_name (i := 4) scInit.nd rfl (by first | exact Or.inl rfl | exact Or.inr rfl)) (fun _ _ _ _ _ => pts_nil) (fun _ _ _ _ _ => (pe_callB (r := fun xs H Q => ∃ x n, xs = [x] ∧ LenV K x H n ∧ Q (V.int (n : Nat)) H) call_len (by rfl) B.n_len bt_len (pa_cons (pv 4) pa_nil)))) pa_nil))) rfl))))))), ?_⟩
  refine ⟨_, rfl, .ref p, _, rfl, .inr ⟨_, SqT.of hp, rfl⟩, _, _, rfl, rfl, _, rfl, ?_⟩
  have raise : ∀ (reason : Str) (i : V) (G' : Hp), (∀ d G2, ErrStep G' G2 d reason i → E (.ref CE) (some d) G2) → _ := fun reason i G' kx => errN_end (fields := ["reason", "index"]) (C := CE) (ws := [.str reason, i]) (G1 := G') (Q := fun cls d G' => E cls d G') rfl (by show 2 ≤ 1000; decide) fun d hd => kx d _ ⟨hd, Qh.Same.new hd, upd_same⟩
  have words : (decide ((1 : Int) ≤ (xs.length : Int)) && decide ((xs.length : Int) ≤ 8)) = false → dueX xs ko = some (Str.ofString "words", none) := fun h => by
    unfold dueX
    rw [h]
    rfl
  refine ite2 (fun h1 => ?_) (fun h1 => ?_)
  case refine_2 =>
    refine ⟨_, rfl, iteT ?_⟩
    exact raise "words" .non G (kE _ none (words (by rw [Bool.eq_false_iff.mpr h1, Bool.false_and])))
  obtain ⟨mc, u8, cr, cv⟩ := T.most
  refine ⟨C, mc, .int 8, u8, rfl, cr, cv, ?_⟩
  refine ⟨_, _, rfl, rfl, _, rfl, ?_⟩
  refine ite2 (fun h2 => ?_) (fun h2 => ?_)
  · have h2 : decide ((xs.length : Int) ≤ 8) = false := by simpa using h2
    exact raise "words" .non G (kE _ none (words (by rw [h2, Bool.and_false])))
  have h2 : decide ((xs.length : Int) ≤ 8) = true := by simpa using h2
  have h12 : (decide ((1 : Int) ≤ (xs.length : Int)) && decide ((xs.length : Int) ≤ 8)) = true := by rw [h1, h2]; rfl
  have hn8 : xs.length ≤ 8 := by
    have := of_decide_eq_true h2
    omega
  refine ⟨_, rfl, p, _, rfl, SqT.of hp, for_it walk_enumT (fun i σ' G' => ∃ o3 o4, σ' = [some (.ref x), some kv, some (.ref p), o3, o4] ∧ Same G G' ∧ ∀ j v, j < i → xs[j]? = some v → endingV v = true)
    ⟨none, none, rfl, Same.refl G, fun j v hj _ => absurd hj (Nat.not_lt_zero j)⟩ (fun i σ' G' _ ⟨_, _, _, sm, _⟩ => SqT.of (sm _ _ hp)) ?_ ?_⟩
  · rintro i y σ1 G1 G2 hi ⟨o3, o4, rfl, sm, hw⟩ ⟨Tp, a, b, rfl, hT, rfl, ea, eb⟩
    obtain rfl : a = V.int (i : Int) := (Option.some.inj ea).symm
    have eb : xs[i]? = some b := eb
    have smT : Same G (L2.upd G1 Tp (.tup [V.int (i : Int), b])) := Qh.Same.fresh sm (sm.free hT)
    refine ⟨Tp, _, rfl, SqT.of upd_same, rfl, _, _, rfl, _, _, rfl, rfl, ?_⟩
    refine ⟨_, rfl, b, rfl, hk b (List.mem_of_getElem? eb) _ smT, fun G3 sm3 => ⟨_, rfl, ?_⟩⟩
    have sm' : Same G G3 := smT.trans sm3
    cases e : endingV b with
    | true =>
      refine ⟨_, _, rfl, sm', fun j v hj hjb => ?_⟩
      by_cases hji : j = i
      · subst hji
        rw [eb] at hjb
        cases hjb
        exact e
      · exact hw j v (by omega) hjb
    | false =>
      refine iteT ⟨_, rfl, raise "ending" (.int (i : Int)) G3 fun d G4 es => kE _ (some i) ?_ d G4 ⟨sm'.free es.1, sm'.trans es.2.1, es.2.2⟩⟩
      have hf : xs.findIdx? (fun v => !endingV v) = some i := findIdx_some eb (by rw [e]; rfl) fun j v hj hv => by rw [hw j v hj hv]; rfl
      unfold dueX
      rw [if_pos h12, hf]
  · rintro σ1 G1 ⟨o3, o4, rfl, sm, hw⟩
    have hf : xs.findIdx? (fun v => !endingV v) = none := findIdx_none fun j v hv => by
      rw [hw j v (List.getElem?_eq_some_iff.mp hv).1 hv]
      rfl
    refine ⟨_, rfl, kv, ko, rfl, fun G' s => hkv G' (sm.trans s), fun G2 s2 => ⟨_, rfl, ?_⟩⟩
    have sm2 := sm.trans s2
    cases e : keepOk ko with
    | false =>
      refine iteT (raise "keep" .non G2 fun d G4 es => kE _ none ?_ d G4 ⟨sm2.free es.1, sm2.trans es.2.1, es.2.2⟩)
      unfold dueX
      rw [if_pos h12, hf, e]
      rfl
    | true =>
      have due : dueX xs ko = none := by
        unfold dueX
        rw [if_pos h12, hf, e]
        rfl
      obtain ⟨ts, hts⟩ := all_txt (xs := xs) fun v hv => by
        obtain ⟨j, hj⟩ := List.getElem?_of_mem hv
        exact txt_of (hw j v (List.getElem?_eq_some_iff.mp hj).1 hj)
      obtain ⟨ks, hks, hk20⟩ := keep_txt e
      have hx2 : G2 x = some (.ins C dx []) := sm2 _ _ hx
      have hp2 : G2 p = some (.tup (ts.map V.str)) := by rw [← hts]; exact sm2 _ _ hp
      have tl : ts.length < 64 := by
        rw [hts, List.length_map] at hn8
        omega
      refine ⟨_, rfl, p, ts, rfl, .inr (SqT.of hp2), tl, fun ss D1 G3 asc n3 s3 l3 => ?_⟩
      have sm3 := sm2.trans s3
      have hx3 : G3 x = some (.ins C dx []) := s3 _ _ hx2
      refine ⟨_, rfl, x, C, dx, [], rfl, hx3, T.cl, T.n1, by show 0 < 1000; decide, ?_⟩
      obtain ⟨a, rfl, hS, _, _⟩ := (show KeepAt K G3 kv (some (ks.map V.str)) by rw [← hks]; exact hkv G3 sm3)
      refine ⟨_, rfl, a, ks, rfl, sq_put hx3 hS, by omega, fun kk D2 G4 asc2 n4 s4 l4 => ?_⟩
      have hx4 : G4 x = some (.ins C dx [("endings", .ref D1)]) := s4 _ _ upd_same
      refine ⟨_, rfl, x, C, dx, _, rfl, hx4, T.cl, T.n2, by show 1 < 1000; decide, ?_⟩
      have d1x := tup_ne_ins hx3 D1 _ l3
      have l14 : G4 D1 = some (.tup (ss.map V.str)) := s4 _ _ (by rw [upd_ne d1x]; exact l3)
      have l24 : (L2.upd G4 x (.ins C dx [("endings", .ref D1), ("keep", .ref D2)])) D2 = some (.tup (kk.map V.str)) := by
        rw [upd_ne (tup_ne_ins hx4 D2 _ l4)]
        exact l4
      have l15 : (L2.upd G4 x (.ins C dx [("endings", .ref D1), ("keep", .ref D2)])) D1 = some (.tup (ss.map V.str)) := by
        rw [upd_ne (tup_ne_ins hx4 D1 _ l14)]
        exact l14
      have p4 : G4 p = some (.tup (ts.map V.str)) := s4 _ _ (by rw [upd_ne (tup_ne_ins hx3 p _ (s3 _ _ hp2))]; exact s3 _ _ hp2)
      have p5 : (L2.upd G4 x (.ins C dx [("endings", .ref D1), ("keep", .ref D2)])) p = some (.tup (ts.map V.str)) := by
        rw [upd_ne (tup_ne_ins hx4 p _ p4)]
        exact p4
      have x5 : (L2.upd G4 x (.ins C dx [("endings", .ref D1), ("keep", .ref D2)])) x = some (.ins C dx [("endings", .ref D1), ("keep", .ref D2)]) := upd_same
      have kp5 : Kp x G (L2.upd G4 x (.ins C dx [("endings", .ref D1), ("keep", .ref D2)])) := ((Kp.same sm3).trans Kp.self).trans ((Kp.same s4).trans Kp.self)
      refine ⟨_, rfl, p, rfl, ⟨_, SqT.of p5⟩, fun D hD => ?_⟩
      generalize hG5 : L2.upd G4 x (.ins C dx [("endings", .ref D1), ("keep", .ref D2)]) = G5 at l24 l15 p5 x5 kp5
      have hD : G5 D = none := by rw [← hG5]; exact hD
      refine Qsc.set_it (O := fun D => SetO w D (fun _ => false) 0) (r := rSAdd w) walk_tup (fun i H => ∃ S n, H D = some (SetO w D S n) ∧ Same G5 H ∧ n ≤ i ∧ ∀ k : Int, S k = true ↔ ∃ e ∈ ts.take i, (e.length : Int) = k)
        ⟨fun _ => false, 0, upd_same, by rw [← hG5]; exact Same.new (by rw [hG5]; exact hD), Nat.le_refl _, fun k => by simp⟩ (fun i H _ ⟨S, n, _, sm, _⟩ => SqT.of (sm _ _ p5)) ?_ ?_
      · rintro i v H H' hi ⟨S, n, hS, sm, hn, hm⟩ ⟨rfl, hv⟩
        obtain ⟨e, he, rfl⟩ := map_at hv
        refine ⟨rfl, ?_⟩
        have hel : e.length ≤ 4 := by
          obtain ⟨j, hj⟩ := List.getElem?_of_mem (List.mem_of_getElem? he)
          have h1 : endingV (.str e) = true := hw j (.str e) (by rw [hts, List.length_map]; exact (List.getElem?_eq_some_iff.mp hj).1) (by rw [hts, List.getElem?_map, hj]; rfl)
          have h1 : lettersS e 4 = true := h1
          unfold lettersS at h1
          simp only [Bool.and_eq_true, decide_eq_true_eq] at h1
          omega
        refine ⟨_, rfl, .str e, e.length, rfl, ⟨big_line (by omega), rfl⟩, D, _, S, n, rfl, rfl, hS, ?_, _, _, upd_same, Qh.Same.fresh sm hD, ?_, fun k => ?_⟩
        · rw [List.length_map] at hi
          unfold scanBound
          omega
        · split <;> omega
        · rw [take_get he, Bool.or_eq_true, hm k, decide_eq_true_eq]
          constructor
          · rintro (⟨e', h1, h2⟩ | h)
            · exact ⟨e', List.mem_append_left _ h1, h2⟩
            · exact ⟨e, List.mem_append_right _ List.mem_cons_self, h.symm⟩
          · rintro ⟨e', h1, h2⟩
            rcases List.mem_append.mp h1 with h1 | h1
            · exact .inl ⟨e', h1, h2⟩
            · rw [List.mem_singleton.mp h1] at h2
              exact .inr h2.symm
      · rintro H ⟨S, n, hS, sm, hn, hm⟩
        rw [List.length_map] at hn
        refine ⟨D, S, n, rfl, hS, by omega, fun ns q pw hns hnl hq => ?_⟩
        refine ⟨q, _, rfl, SqL.of upd_same, fun D3 hD3 => ?_⟩
        have sm6 : Same G5 (L2.upd H q (.lst (ns.map V.int))) := sm.trans (Same.new hq)
        have sm7 := sm6.trans (Same.new (o := HO.tup (ns.map V.int).reverse) hD3)
        have x7 := sm7 _ _ x5
        refine ⟨_, rfl, x, C, dx, _, rfl, x7, T.cl, T.n3, by show 2 < 1000; decide, ?_⟩
        have ne : ∀ {b : Addr} {u : HO}, G5 b = some u → (∀ C dx fs, u ≠ .ins C dx fs) → ∀ o, (L2.upd (L2.upd (L2.upd H q (.lst (ns.map V.int))) D3 (.tup (ns.map V.int).reverse)) x o) b = some u := fun {b u} e hu o => by
          rw [upd_ne fun z => hu _ _ _ (Option.some.inj (by rw [← e, z]; exact x5))]
          exact sm7 _ _ e
        refine kD ts ks due hts hks ss kk _ (kp5.trans ((Kp.same sm7).trans Kp.self)) ⟨dx, D1, D2, D3, ns.reverse, by rw [upd_same]; rfl, ne l15 (fun _ _ _ z => nomatch z) _, ne l24 (fun _ _ _ z => nomatch z) _, ?_, ?_, fun z => ?_⟩ asc asc2
        · have hx3 : D3 ≠ x := fun z => by
            rw [z] at hD3
            rw [sm6 _ _ x5] at hD3
            cases hD3
          rw [upd_ne hx3, upd_same, List.map_reverse]
        · rw [List.pairwise_reverse]
          exact pw
        · rw [List.mem_reverse, hns z, hm z]
          have : ts.take (ts.map V.str).length = ts := by rw [List.length_map, List.take_length]
          rw [this]
          constructor
          · rintro ⟨e, h1, h2⟩
            exact ⟨e, (Qs.asc_mem asc e).mpr h1, h2⟩
          · rintro ⟨e, h1, h2⟩
            exact ⟨e, (Qs.asc_mem asc e).mp h1, h2⟩
end
end K05
set_option Elab.async false
set_option linter.all false
set_option maxRecDepth 100000
set_option maxHeartbeats 4000000
/-! def f(a, .., *v, k = d): called with values alone. -/
namespace Qi
open PySem PySem.Spec PyProof.Rows L2 Qh StX
section
variable {CX : CXT} {P : Program} {w : World} {K : PySem.W.Frag} {mg : Str → Option Value} {base : Heap} {k : Nat} {f Dk : Addr} {name qual : Str} {params : Arguments} {body : List Stmt} {scope : Scope} {dV doc pm cdv ct oc : Value} {an od : Option Addr}
  {osl : Array (Option Value)} {N ps : List Str} {sp : Sp}
theorem fn_starD {pv pk : Str} {z : V} {u : Value} (lk : K.lookup f = some ⟨oc, od, .func (PySem.W.fnOf name qual params body scope dV (.ref Dk) doc pm an cdv ct), osl⟩) (hcd : PySem.W.codeIn K cdv qual = true) (S : FnScope N (ps ++ [pk, pv]) scope) (hCX : CXUp CX)
    (hd : PySem.W.nsIn K Dk pk = some (some u)) (rz : RelV z u)
    (hb : ∀ (us rest : List Value), us.length = ps.length → ∃ (β γ : Type) (k1 : Option Value → Sem β) (k2 : β → Sem γ) (k3 : γ → Sem (List (Str × Value))) (a : β), bindArgs (PySem.W.fnOf name qual params body scope dV (.ref Dk) doc pm an cdv ct) ⟨us ++ rest, []⟩ = ((nsGet Dk pk >>= k1) >>= k2) >>= k3 ∧
      k1 (some u) = pure a ∧ (k2 a >>= k3) = (newTuple rest >>= fun t => pure (ps.zip us ++ [(pk, u), (pv, t)])))
    (hbody : ∀ (A : Around) (outer : List Env) (s : Shared) (H : Hp) (vs : List V) (Q : VK) (E : XK), Room k (A.deeper (envOfC qual scope s.heap.objs.size f cdv)) → sp vs H Q E →
      ∃ t, PSs (cxOf CX P w K mg base N qual scope f cdv A outer s H E) body t ∧ t { nx := fun _ H' => Q .non H', rt := Q } (start N vs) H) :
    FnR P w K mg base CX (k + 1) f (fun vs H Q E => ∃ ws rest, vs = ws ++ rest ∧ ws.length = ps.length ∧ rest.length ≤ sizeLine ∧ ∀ p, H p = Option.none → sp (ws ++ [z, V.ref p]) (upd H p (.tup rest)) Q E) := by
  intro A outer s H us vs Q E hr e0 r hsp
  obtain ⟨ws, rest, ev, hl, few, want⟩ := hsp
  subst ev
  obtain ⟨u1, u2, rfl, r1, r2⟩ := vals_split r
  have KX : K.In s.heap := e0.mod.kin.keeps fun b o e => (e0.bs b o e).1
  have free : H s.heap.objs.size = Option.none := e0.hok.fresh (Nat.le_refl _)
  have len1 : u1.length = ps.length := by rw [← r1.length]; exact hl
  have len2 : u2.length ≤ sizeLine := by rw [← r2.length]; exact few
  refine run_bnd (ps := ps ++ [pk, pv]) lk hcd S hr e0 (G := fun xs H2 => ∃ p, H p = Option.none ∧ xs = ws ++ [z, V.ref p] ∧ H2 = upd H p (.tup rest)) (fun A' Ex Q' h => ?_) ?_
  · obtain ⟨β, γ, k1, k2, k3, a, e1, e2, e3⟩ := hb u1 u2 len1
    have l1 : PySem.W.Looks (model P w) s.heap (nsGet Dk pk >>= k1) a := (PySem.W.looks_nsIn KX hd).andThen (PySem.W.Looks.of_pure e2)
    rw [e1, bind_assoc]
    refine wpAny_bind (l1.here ?_)
    rw [e3]
    refine wpAny_bind (wpAny_newTuple (wpAny_pure ?_) len2)
    have new : ObjOk P w (upd H s.heap.objs.size (.tup rest)) (s.heap.push ({ cls := .type "tuple", data := .seq u2.toArray } : Obj)) s.heap.objs.size (.tup rest) := ⟨few, u2, r2, ⟨_, Heap.get?_push_size _ rfl, rfl, _, rfl⟩⟩
    have un := un_laid (fs := frs outer) (s := s) (o := ({ cls := .type "tuple", data := .seq u2.toArray } : Obj)) (u := .tup rest) free
    have got := h _ _ (ws ++ [z, V.ref s.heap.objs.size]) (u1 ++ [u, Value.ref s.heap.objs.size]) (env0_laid e0 new) un rfl (fun e s' => hCX outer s H _ _ E e s' un (fun b o q => Heap.get?_push_of_some _ q) rfl) (r1.append (.cons rz (.cons rfl .nil)))
      (by rw [List.length_append, List.length_append, hl] <;> rfl) ⟨_, free, rfl, rfl⟩
    rw [List.zip_append len1.symm] at got
    exact got
  · rintro s2 H2 xs ⟨p, hp, rfl, rfl⟩ hr'
    exact hbody A outer s2 _ _ Q E hr' (want p hp)
end
end Qi
set_option Elab.async false
set_option linter.all false
set_option maxRecDepth 100000
set_option maxHeartbeats 8000000
namespace K05
open PySem PySem.Spec PyProof.Rows L2 TL Qh Qi Ql ClX
abbrev sStem : Stmt := top 23
/-- what a call of __init__ with keep = .. asks -/
def spInitK (K : PySem.W.Frag) (C CE : Addr) : Sp := fun vs H Q E => ∃ ws rest z, vs = ws ++ rest ++ [z] ∧ ws.length = 1 ∧ rest.length ≤ sizeLine ∧ ∀ p, H p = Option.none → spInit K C CE (ws ++ [z, V.ref p]) (L2.upd H p (.tup rest)) Q E
/-- .. and without -/
def spInitD (K : PySem.W.Frag) (C CE T : Addr) : Sp := fun vs H Q E => ∃ ws rest, vs = ws ++ rest ∧ ws.length = 1 ∧ rest.length ≤ sizeLine ∧ ∀ p, H p = Option.none → spInit K C CE (ws ++ [V.ref T, V.ref p]) (L2.upd H p (.tup rest)) Q E
section
variable {X : Cx} {W : WX} {k : Nat} {f C : Addr} {sp : Sp} {x pk : Str} {kws : List Keyword} {tkw : TA} {p pos : Pos}
/-- C(pk = v) -/
theorem pe_makeSK0 (M : Mk X.K C f) (F : FnRK X.prog X.w X.K X.mg X.base (L2.CX X.prog X.w) k f pk sp) (hr : Room (k + 1) X.A) (tk : Takes X W) (hm : X.mg x = some (.ref C)) (hkw : PK X kws tkw) (hg : Gl X x := by rfl) (hdb : (x == ("__debug__" : Str)) = false := by decide)
    (hall : (backToKw pos (keywordEach kws X.env)).all (·.1.isSome) = true := by rfl) (hks : (backToKw pos (keywordEach kws X.env)).filterMap (·.1) = [pk] := by rfl)
    (hpl : ((backTo pos (starEach [] X.env)).any (·.1) || (backToKw pos (keywordEach kws X.env)).any (·.1.isNone)) = false := by rfl) :
    PE X (.Call (.Name x p) [] kws pos) (tMakeSK C sp (WE W) tNil tkw) := by
  constructor
  intro pins s σ H Q I h
  refine wpAny_Call_Name_kw (ld_glob I hg hm ?_ hdb)
  refine PySem.W.callWith_KW0 (h₀ := X.base) I.ok.mod.kin M.kp hall ?_ hpl
  refine thn (hkw.run pos pins s σ H _ I h) ?_
  rintro ws s2 ⟨zs, H2, I2, rz, z, rfl, q2⟩
  refine ⟨I2.kIn, ?_⟩
  rw [hks]
  cases rz with
  | cons r1 r2 =>
    cases r2
    exact run_makeSK (us := []) (vs := []) M F hr (fun H3 s3 er s' J c => passAt tk σ pins H3 s3 er s' J c) I2 .nil r1 q2
end
/-- what is wished of Stem(*xs, keep=kv) -/
structure Made (K : PySem.W.Frag) (C CE : Addr) (xs : List V) (kv : V) (ko : Option (List V)) (H : Hp) (Q : VK) (E : XK) : Prop where
  hk : ∀ v ∈ xs, ∀ G', Same H G' → Known K G' v
  hn : xs.length ≤ 1000
  hkv : ∀ G', Same H G' → KeepAt K G' kv ko
  kE : ∀ reason i, dueX xs ko = some (reason, i) → ∀ d G', ErrStep H G' d reason (ixV i) → E (.ref CE) (some d) G'
  kD : ∀ ts ks : List Str, dueX xs ko = none → xs = ts.map V.str → ko = some (ks.map V.str) → ∀ (x : Addr) (ss kk : List Str) G', H x = none → Same H G' → StemAt C G' x ss kk → Qs.Asc ts ss → Qs.Asc ks kk → Q (.ref x) G'
theorem Made.same {K : PySem.W.Frag} {C CE : Addr} {xs : List V} {kv : V} {ko : Option (List V)} {G H : Hp} {Q : VK} {E : XK} (m : Made K C CE xs kv ko G Q E) (s : Same G H) : Made K C CE xs kv ko H Q E := by
  exact ⟨fun v hv G' k => m.hk v hv G' (s.trans k), m.hn, fun G' k => m.hkv G' (s.trans k), fun r i h d G' e => m.kE r i h d G' ⟨s.free e.1, s.trans e.2.1, e.2.2⟩,
    fun ts ks h h1 h2 x ss kk G' n k => m.kD ts ks h h1 h2 x ss kk G' (s.free n) (s.trans k)⟩
theorem Made.want {K : PySem.W.Frag} {C CE : Addr} {xs : List V} {kv : V} {ko : Option (List V)} {H : Hp} {Q : VK} {E : XK} (m : Made K C CE xs kv ko H Q E) (x dx : Addr) (hx : H x = none) (hdx : H dx = none) (ne : dx ≠ x) :
    spInitK K C CE (V.ref x :: xs ++ [kv]) (L2.upd (L2.upd H dx (.own x)) x (.ins C dx [])) (fun v H2 => v = .non ∧ Q (.ref x) H2) E := by
  refine ⟨[.ref x], xs, kv, rfl, rfl, big_line (by have := m.hn; omega), fun p hp => ?_⟩
  have px : p ≠ x := fun e => by
    rw [e, upd_same] at hp
    cases hp
  have s1 : Same H (L2.upd (L2.upd H dx (.own x)) x (.ins C dx [])) := fun b o e => by
    rw [upd_ne (ne_of_none e hx), upd_ne (ne_of_none e hdx)]
    exact e
  have s2 : Same H (L2.upd (L2.upd (L2.upd H dx (.own x)) x (.ins C dx [])) p (.tup xs)) := s1.trans (Same.new hp)
  refine ⟨x, dx, p, xs, kv, ko, rfl, by rw [upd_ne px.symm, upd_same], upd_same, fun v hv G' s => m.hk v hv G' (s2.trans s), m.hn, fun G' s => m.hkv G' (s2.trans s), fun r i h d G' e => m.kE r i h d G' ⟨s2.free e.1, s2.trans e.2.1, e.2.2⟩, ?_⟩
  intro ts ks h h1 h2 ss kk G' kp ix a1 a2
  refine ⟨rfl, m.kD ts ks h h1 h2 x ss kk G' hx (fun c o e => ?_) ix a1 a2⟩
  exact kp c o (ne_of_none e hx) (s2 _ _ e)
theorem Made.wantD {K : PySem.W.Frag} {C CE T : Addr} {xs : List V} {ko : Option (List V)} {H : Hp} {Q : VK} {E : XK} (m : Made K C CE xs (.ref T) ko H Q E) (x dx : Addr) (hx : H x = none) (hdx : H dx = none) (ne : dx ≠ x) :
    spInitD K C CE T (V.ref x :: xs) (L2.upd (L2.upd H dx (.own x)) x (.ins C dx [])) (fun v H2 => v = .non ∧ Q (.ref x) H2) E := by
  obtain ⟨ws, rest, z, e, hl, few, h⟩ := m.want x dx hx hdx ne
  obtain ⟨e1, e2⟩ := List.append_inj' e rfl
  obtain rfl : V.ref T = z := by simpa using e2
  exact ⟨ws, rest, e1, hl, few, h⟩
def spStem (K : PySem.W.Frag) (C CE : Addr) : Sp := fun vs G Q E => ∃ (a : Addr) (xs : List V) (kv : V) (ko : Option (List V)), vs = [.ref a, kv] ∧ SqL K G a xs ∧ xs.length ∈ [0, 1, 2, 3, 8, 9] ∧ Made K C CE xs kv ko G Q E
section
variable {P : Program} {w : World} {K : PySem.W.Frag} {mg : Str → Option Value} {base : Heap}
theorem ok_init {C CE f : Addr} {fd : FuncData} (F : Fun K "__init__" "Stem.__init__" sInit f fd) (B : Blt mg) (T : StemC K mg C) (TE : ErrN P w K mg base "InvalidStep" ["reason", "index"] CE) (F_is_ending : Ok P w K mg base "is_ending" (defArgs sIsEnding) ["value"] 2 (spIsEnding K)) (F_is_keep : Ok P w K mg base "is_keep" (defArgs sIsKeep) ["keep"] 3 (spIsKeep K)) (F_asc : Ok P w K mg base "ascending" (defArgs sAsc) ["values"] 1 (Qi.spAsc K)) :
    FnRK P w K mg base (L2.CX P w) 5 f "keep" (spInitK K C CE) := by
  obtain ⟨oc, od, kV, doc, pm, an, cdv, ct, osl, rfl, lk, hcd⟩ := F.ex
  exact fn_starK (ps := ["self"]) (pv := "endings") (pk := "keep") lk hcd scInit StX.cxUp (fun us rest u hl => match us, rest, hl with
    | [_], [], _ => rfl
    | [_], _ :: _, _ => rfl) fun A out t G vs Q E hr h => body_init B T TE F_is_ending F_is_keep F_asc cdv A out t G vs Q E hr h
theorem ok_initD {C CE f Dk Tk : Addr} {oc doc pm cdv ct : Value} {od an : Option Addr} {osl : Array (Option Value)}
    (lk : K.lookup f = some ⟨oc, od, .func (PySem.W.fnOf "__init__" "Stem.__init__" (defArgs sInit) (defBody sInit) (defScope sInit) .none (.ref Dk) doc pm an cdv ct), osl⟩) (hcd : PySem.W.codeIn K cdv "Stem.__init__" = true)
    (hd : PySem.W.nsIn K Dk "keep" = some (some (.ref Tk))) (B : Blt mg) (T : StemC K mg C) (TE : ErrN P w K mg base "InvalidStep" ["reason", "index"] CE) (F_is_ending : Ok P w K mg base "is_ending" (defArgs sIsEnding) ["value"] 2 (spIsEnding K)) (F_is_keep : Ok P w K mg base "is_keep" (defArgs sIsKeep) ["keep"] 3 (spIsKeep K)) (F_asc : Ok P w K mg base "ascending" (defArgs sAsc) ["values"] 1 (Qi.spAsc K)) :
    FnR P w K mg base (L2.CX P w) 5 f (spInitD K C CE Tk) :=
  fn_starD (ps := ["self"]) (pv := "endings") (pk := "keep") (z := .ref Tk) (u := .ref Tk) lk hcd scInit StX.cxUp hd rfl (fun us rest hl => match us, rest, hl with
    | [_], [], _ => ⟨_, _, _, _, _, _, rfl, rfl, rfl⟩
    | [_], _ :: _, _ => ⟨_, _, _, _, _, _, rfl, rfl, rfl⟩) fun A out t G vs Q E hr h => body_init B T TE F_is_ending F_is_keep F_asc cdv A out t G vs Q E hr h
theorem scStem : FnScope ["_law_row", "_law_left"] ["_law_row", "_law_left"] (defScope sStem) := ⟨rfl, rfl, rfl, by decide +kernel, rfl, by decide +kernel, by decide +kernel⟩
theorem ok_stem {C CE fI : Addr} (D : DefIn K mg "_law_stem" sStem) (B : Blt mg) (g : mg "Stem" = some (.ref C)) (M : Mk K C fI) (F : FnRK P w K mg base (L2.CX P w) 5 fI "keep" (spInitK K C CE)) :
    Ok P w K mg base "_law_stem" (defArgs sStem) ["_law_row", "_law_left"] 7 (spStem K C CE) := by
  refine D.ok scStem (fun vs G Q E h => ?_) (fun _ _ _ _ _ _ us hl => match us, hl with | [_, _], _ => rfl) (fun f cdv A out t G vs Q E hr h => ?_)
  · obtain ⟨a, xs, kv, ko, rfl, _⟩ := h
    rfl
  · obtain ⟨a, xs, kv, ko, rfl, hS, hn, m⟩ := h
    refine ⟨_, (pss_cons (ps_if (pt_cmpR op_eq (pe_callB call_len (by rfl) B.n_len bt_len (pa_cons (pv 0) pa_nil)) pe_int (nomark _)) (pss_one (ps_ret (pe_makeSK0 M F hr (takes_of rfl rfl rfl rfl) g (pk_cons (pv 1) pk_nil)))) pss_nil)
      (pss_cons (ps_if (pt_cmpR op_eq (pe_callB call_len (by rfl) B.n_len bt_len (pa_cons (pv 0) pa_nil)) pe_int (nomark _)) (pss_one (ps_ret (pe_makeSK M F hr (takes_of rfl rfl rfl rfl) g (pa_cons (pe_ix ix_list (pv 0) pe_int (fun _ _ => rfl)) pa_nil) (pk_cons (pv 1) pk_nil)))) pss_nil)
      (pss_cons (ps_if (pt_cmpR op_eq (pe_callB call_len (by rfl) B.n_len bt_len (pa_cons (pv 0) pa_nil)) pe_int (nomark _)) (pss_one (ps_ret (pe_makeSK M F hr (takes_of rfl rfl rfl rfl) g (pa_cons (pe_ix ix_list (pv 0) pe_int (fun _ _ => rfl)) (pa_cons (pe_ix ix_list (pv 0) pe_int (fun _ _ => rfl)) pa_nil)) (pk_cons (pv 1) pk_nil)))) pss_nil)
      (pss_cons (ps_if (pt_cmpR op_eq (pe_callB call_len (by rfl) B.n_len bt_len (pa_cons (pv 0) pa_nil)) pe_int (nomark _)) (pss_one (ps_ret (pe_makeSK M F hr (takes_of rfl rfl rfl rfl) g (pa_cons (pe_ix ix_list (pv 0) pe_int (fun _ _ => rfl)) (pa_cons (pe_ix ix_list (pv 0) pe_int (fun _ _ => rfl)) (pa_cons (pe_ix ix_list (pv 0) pe_int (fun _ _ => rfl)) pa_nil))) (pk_cons (pv 1) pk_nil)))) pss_nil)
      (pss_cons (ps_if (pt_cmpR op_eq (pe_callB call_len (by rfl) B.n_len bt_len (pa_cons (pv 0) pa_nil)) pe_int (nomark _)) (pss_one (ps_ret (pe_makeSK M F hr (takes_of rfl rfl rfl rfl) g (pa_cons (pe_ix ix_list (pv 0) pe_int (fun _ _ => rfl)) (pa_cons (pe_ix ix_list (pv 0) pe_int (fun _ _ => rfl)) (pa_cons (pe_ix ix_list (pv 0) pe_int (fun _ _ => rfl)) (pa_cons (pe_ix ix_list (pv 0) pe_int (fun _ _ => rfl)) (pa_cons (pe_ix ix_list (pv 0) pe_int (fun _ _ => rfl)) (pa_cons (pe_ix ix_list (pv 0) pe_int (fun _ _ => rfl)) (pa_cons (pe_ix ix_list (pv 0) pe_int (fun _ _ => rfl)) (pa_cons (pe_ix ix_list (pv 0) pe_int (fun _ _ => rfl)) pa_nil)))))))) (pk_cons (pv 1) pk_nil)))) pss_nil)
      (pss_one (ps_ret (pe_makeSK M F hr (takes_of rfl rfl rfl rfl) g (pa_cons (pe_ix ix_list (pv 0) pe_int (fun _ _ => rfl)) (pa_cons (pe_ix ix_list (pv 0) pe_int (fun _ _ => rfl)) (pa_cons (pe_ix ix_list (pv 0) pe_int (fun _ _ => rfl)) (pa_cons (pe_ix ix_list (pv 0) pe_int (fun _ _ => rfl)) (pa_cons (pe_ix ix_list (pv 0) pe_int (fun _ _ => rfl)) (pa_cons (pe_ix ix_list (pv 0) pe_int (fun _ _ => rfl)) (pa_cons (pe_ix ix_list (pv 0) pe_int (fun _ _ => rfl)) (pa_cons (pe_ix ix_list (pv 0) pe_int (fun _ _ => rfl)) (pa_cons (pe_ix ix_list (pv 0) pe_int (fun _ _ => rfl)) pa_nil))))))))) (pk_cons (pv 1) pk_nil))))))))), ?_⟩
    have hl : ∃ n, xs.length = n ∧ n ∈ [0, 1, 2, 3, 8, 9] := ⟨_, rfl, hn⟩
    obtain ⟨n, hl, hn⟩ := hl
    simp only [List.mem_cons, List.not_mem_nil, or_false] at hn
    rcases hn with rfl | rfl | rfl | rfl | rfl | rfl
    · match xs, hl, hS, m with
      | [], _, hS, m =>
        refine ⟨_, rfl, .ref a, _, rfl, .inl ⟨_, hS, rfl⟩, rfl, _, rfl, iteT ?_⟩
        exact ⟨_, rfl, kv, rfl, fun x dx hx hdx ne => m.want x dx hx hdx ne⟩
    · match xs, hl, hS, m with
      | [v0], _, hS, m =>
        refine ⟨_, rfl, .ref a, _, rfl, .inl ⟨_, hS, rfl⟩, rfl, _, rfl, iteF ?_⟩
        refine ⟨_, rfl, .ref a, _, rfl, .inl ⟨_, hS, rfl⟩, rfl, _, rfl, iteT ?_⟩
        refine ⟨_, rfl, a, _, 0, v0, rfl, rfl, hS, atI_nat (j := 0) rfl, ?_⟩
        exact ⟨_, rfl, kv, rfl, fun x dx hx hdx ne => m.want x dx hx hdx ne⟩
    · match xs, hl, hS, m with
      | [v0, v1], _, hS, m =>
        refine ⟨_, rfl, .ref a, _, rfl, .inl ⟨_, hS, rfl⟩, rfl, _, rfl, iteF ?_⟩
        refine ⟨_, rfl, .ref a, _, rfl, .inl ⟨_, hS, rfl⟩, rfl, _, rfl, iteF ?_⟩
        refine ⟨_, rfl, .ref a, _, rfl, .inl ⟨_, hS, rfl⟩, rfl, _, rfl, iteT ?_⟩
        refine ⟨_, rfl, a, _, 0, v0, rfl, rfl, hS, atI_nat (j := 0) rfl, ?_⟩
        refine ⟨_, rfl, a, _, 1, v1, rfl, rfl, hS, atI_nat (j := 1) rfl, ?_⟩
        exact ⟨_, rfl, kv, rfl, fun x dx hx hdx ne => m.want x dx hx hdx ne⟩
    · match xs, hl, hS, m with
      | [v0, v1, v2], _, hS, m =>
        refine ⟨_, rfl, .ref a, _, rfl, .inl ⟨_, hS, rfl⟩, rfl, _, rfl, iteF ?_⟩
        refine ⟨_, rfl, .ref a, _, rfl, .inl ⟨_, hS, rfl⟩, rfl, _, rfl, iteF ?_⟩
        refine ⟨_, rfl, .ref a, _, rfl, .inl ⟨_, hS, rfl⟩, rfl, _, rfl, iteF ?_⟩
        refine ⟨_, rfl, .ref a, _, rfl, .inl ⟨_, hS, rfl⟩, rfl, _, rfl, iteT ?_⟩
        refine ⟨_, rfl, a, _, 0, v0, rfl, rfl, hS, atI_nat (j := 0) rfl, ?_⟩
        refine ⟨_, rfl, a, _, 1, v1, rfl, rfl, hS, atI_nat (j := 1) rfl, ?_⟩
        refine ⟨_, rfl, a, _, 2, v2, rfl, rfl, hS, atI_nat (j := 2) rfl, ?_⟩
        exact ⟨_, rfl, kv, rfl, fun x dx hx hdx ne => m.want x dx hx hdx ne⟩
    · match xs, hl, hS, m with
      | [v0, v1, v2, v3, v4, v5, v6, v7], _, hS, m =>
        refine ⟨_, rfl, .ref a, _, rfl, .inl ⟨_, hS, rfl⟩, rfl, _, rfl, iteF ?_⟩
        refine ⟨_, rfl, .ref a, _, rfl, .inl ⟨_, hS, rfl⟩, rfl, _, rfl, iteF ?_⟩
        refine ⟨_, rfl, .ref a, _, rfl, .inl ⟨_, hS, rfl⟩, rfl, _, rfl, iteF ?_⟩
        refine ⟨_, rfl, .ref a, _, rfl, .inl ⟨_, hS, rfl⟩, rfl, _, rfl, iteF ?_⟩
        refine ⟨_, rfl, .ref a, _, rfl, .inl ⟨_, hS, rfl⟩, rfl, _, rfl, iteT ?_⟩
        refine ⟨_, rfl, a, _, 0, v0, rfl, rfl, hS, atI_nat (j := 0) rfl, ?_⟩
        refine ⟨_, rfl, a, _, 1, v1, rfl, rfl, hS, atI_nat (j := 1) rfl, ?_⟩
        refine ⟨_, rfl, a, _, 2, v2, rfl, rfl, hS, atI_nat (j := 2) rfl, ?_⟩
        refine ⟨_, rfl, a, _, 3, v3, rfl, rfl, hS, atI_nat (j := 3) rfl, ?_⟩
        refine ⟨_, rfl, a, _, 4, v4, rfl, rfl, hS, atI_nat (j := 4) rfl, ?_⟩
        refine ⟨_, rfl, a, _, 5, v5, rfl, rfl, hS, atI_nat (j := 5) rfl, ?_⟩
        refine ⟨_, rfl, a, _, 6, v6, rfl, rfl, hS, atI_nat (j := 6) rfl, ?_⟩
        refine ⟨_, rfl, a, _, 7, v7, rfl, rfl, hS, atI_nat (j := 7) rfl, ?_⟩
        exact ⟨_, rfl, kv, rfl, fun x dx hx hdx ne => m.want x dx hx hdx ne⟩
    · match xs, hl, hS, m with
      | [v0, v1, v2, v3, v4, v5, v6, v7, v8], _, hS, m =>
        refine ⟨_, rfl, .ref a, _, rfl, .inl ⟨_, hS, rfl⟩, rfl, _, rfl, iteF ?_⟩
        refine ⟨_, rfl, .ref a, _, rfl, .inl ⟨_, hS, rfl⟩, rfl, _, rfl, iteF ?_⟩
        refine ⟨_, rfl, .ref a, _, rfl, .inl ⟨_, hS, rfl⟩, rfl, _, rfl, iteF ?_⟩
        refine ⟨_, rfl, .ref a, _, rfl, .inl ⟨_, hS, rfl⟩, rfl, _, rfl, iteF ?_⟩
        refine ⟨_, rfl, .ref a, _, rfl, .inl ⟨_, hS, rfl⟩, rfl, _, rfl, iteF ?_⟩
        refine ⟨_, rfl, a, _, 0, v0, rfl, rfl, hS, atI_nat (j := 0) rfl, ?_⟩
        refine ⟨_, rfl, a, _, 1, v1, rfl, rfl, hS, atI_nat (j := 1) rfl, ?_⟩
        refine ⟨_, rfl, a, _, 2, v2, rfl, rfl, hS, atI_nat (j := 2) rfl, ?_⟩
        refine ⟨_, rfl, a, _, 3, v3, rfl, rfl, hS, atI_nat (j := 3) rfl, ?_⟩
        refine ⟨_, rfl, a, _, 4, v4, rfl, rfl, hS, atI_nat (j := 4) rfl, ?_⟩
        refine ⟨_, rfl, a, _, 5, v5, rfl, rfl, hS, atI_nat (j := 5) rfl, ?_⟩
        refine ⟨_, rfl, a, _, 6, v6, rfl, rfl, hS, atI_nat (j := 6) rfl, ?_⟩
        refine ⟨_, rfl, a, _, 7, v7, rfl, rfl, hS, atI_nat (j := 7) rfl, ?_⟩
        refine ⟨_, rfl, a, _, 8, v8, rfl, rfl, hS, atI_nat (j := 8) rfl, ?_⟩
        exact ⟨_, rfl, kv, rfl, fun x dx hx hdx ne => m.want x dx hx hdx ne⟩
end
end K05
set_option Elab.async false
set_option linter.all false
set_option maxRecDepth 100000
set_option maxHeartbeats 4000000
/-! what an ending does to a word: the program's way and the law's. -/
namespace K05
open PySem PySem.Spec PyProof.Rows L2 TL Qh Qi Ql
/-- x from c on -/
def offS (x : Str) (c : Nat) : Str := cutS x (some (c : Int)) none
def uptoS (x : Str) (c : Nat) : Str := cutS x none (some (c : Int))
def dueS (row left : List Str) (x : Str) : Str := if x ∈ left then x else match (List.range (x.length - 2)).find? (fun j => decide (offS x (j + 2) ∈ row)) with
  | some j => uptoS x (j + 2)
  | none => x
theorem cps_len (x : Str) : x.cps.toList.length = x.length := by simp [Str.length]
theorem off_cps {x : Str} {c : Nat} (h : c ≤ x.length) : (offS x c).cps.toList = x.cps.toList.drop c := by
  unfold offS cutS
  rw [HT.sIx_none, HT.sIx_nat, Nat.min_eq_left h]
  show (x.cps.toList.drop c).take (x.length - c) = _
  rw [List.take_of_length_le]
  rw [List.length_drop, cps_len]
  omega
theorem off_len {x : Str} {c : Nat} (h : c ≤ x.length) : (offS x c).length = x.length - c := by
  rw [← cps_len, off_cps h, List.length_drop, cps_len]
/-- what is taken off by a size -/
def fitsS (ss : List Str) (x : Str) (z : Int) : Bool := decide ((x.length : Int) - z ≥ 2) && decide (cutS x (some (-z)) none ∈ ss)
theorem six_back {L n d : Nat} (h0 : 1 ≤ n) (h : n ≤ L) : HT.sIx L d (some (-(n : Int))) = HT.sIx L d (some ((L - n : Nat) : Int)) := by
  rw [HT.sIx_nat, Nat.min_eq_left (Nat.sub_le _ _)]
  show (if -(n : Int) < 0 then (-(n : Int) + (L : Int)).toNat else _) = _
  rw [if_pos (by omega)]
  omega
theorem cut_off {x : Str} {n : Nat} (h0 : 1 ≤ n) (h : n ≤ x.length) : cutS x (some (-(n : Int))) none = offS x (x.length - n) := by
  unfold offS cutS
  rw [six_back h0 h]
theorem cut_upto {x : Str} {n : Nat} (h0 : 1 ≤ n) (h : n ≤ x.length) : cutS x none (some (-(n : Int))) = uptoS x (x.length - n) := by
  unfold uptoS cutS
  rw [six_back h0 h]
/-- the program's way: the first size that fits -/
def resZ (ss kk : List Str) (zs : List Int) (x : Str) : Str := if x ∈ kk then x else match zs.find? (fitsS ss x) with
  | some z => cutS x none (some (-z))
  | none => x
theorem resZ_due {ss kk : List Str} {zs : List Int} {x : Str} (pos : ∀ e ∈ ss, 1 ≤ e.length) (hz : SizesOf ss zs) : resZ ss kk zs x = dueS ss kk x := by
  unfold resZ dueS
  by_cases hx : x ∈ kk
  · rw [if_pos hx, if_pos hx]
  · rw [if_neg hx, if_neg hx]
    -- a size that fits is a cut
    have back : ∀ z ∈ zs, fitsS ss x z = true → ∃ j, j < x.length - 2 ∧ offS x (j + 2) ∈ ss ∧ z = ((x.length - (j + 2) : Nat) : Int) := fun z hm hf => by
      obtain ⟨e, he, rfl⟩ := (hz.2 z).mp hm
      obtain ⟨h1, h2⟩ := Bool.and_eq_true_iff.mp hf
      have h1 := of_decide_eq_true h1
      have h2 := of_decide_eq_true h2
      have hp := pos e he
      rw [cut_off hp (by omega)] at h2
      refine ⟨x.length - e.length - 2, by omega, ?_, by omega⟩
      rw [show x.length - e.length - 2 + 2 = x.length - e.length by omega]
      exact h2
    have key : ∀ j, j < x.length - 2 → offS x (j + 2) ∈ ss → ((x.length - (j + 2) : Nat) : Int) ∈ zs ∧ fitsS ss x ((x.length - (j + 2) : Nat) : Int) = true := fun j hj hm => by
      have hl := off_len (x := x) (c := j + 2) (by omega)
      refine ⟨(hz.2 _).mpr ⟨_, hm, by rw [hl]⟩, Bool.and_eq_true_iff.mpr ⟨decide_eq_true (by omega), decide_eq_true ?_⟩⟩
      rw [cut_off (by omega) (by omega), show x.length - (x.length - (j + 2)) = j + 2 by omega]
      exact hm
    cases hf : (List.range (x.length - 2)).find? (fun j => decide (offS x (j + 2) ∈ ss)) with
    | none =>
      have hn := List.find?_range_eq_none.mp hf
      have e : zs.find? (fitsS ss x) = none := List.find?_eq_none.mpr fun z hm hfit => by
        obtain ⟨j, hj, hm', _⟩ := back z hm hfit
        have := hn j hj
        rw [decide_eq_true hm'] at this
        cases this
      rw [e]
    | some j =>
      obtain ⟨hp, hr, hmin⟩ := List.find?_range_eq_some.mp hf
      have hj := List.mem_range.mp hr
      have hm := of_decide_eq_true hp
      obtain ⟨k1, k2⟩ := key j hj hm
      have e : zs.find? (fitsS ss x) = some ((x.length - (j + 2) : Nat) : Int) := by
        cases ef : zs.find? (fitsS ss x) with
        | none =>
          have := List.find?_eq_none.mp ef _ k1
          exact absurd k2 this
        | some z =>
          have hzm := List.mem_of_find?_eq_some ef
          have hzf := List.find?_some ef
          obtain ⟨j', hj', hm', ez⟩ := back z hzm hzf
          have a2 : j ≤ j' := by
            refine Nat.le_of_not_lt fun hlt => ?_
            have := hmin j' hlt
            rw [decide_eq_true hm'] at this
            cases this
          -- the first that fits is the greatest
          have ge : ((x.length - (j + 2) : Nat) : Int) ≤ z := by
            obtain ⟨_, as, bs, hab, hall⟩ := List.find?_eq_some_iff_append.mp ef
            rw [hab] at k1
            rcases List.mem_append.mp k1 with h1 | h1
            · have := hall _ h1
              rw [k2] at this
              cases this
            · rcases List.mem_cons.mp h1 with h1 | h1
              · rw [h1]
                exact Int.le_refl _
              · have pw := hz.1
                rw [hab] at pw
                have := (List.pairwise_append.mp pw).2.1
                exact Int.le_of_lt ((List.pairwise_cons.mp this).1 _ h1)
          congr 1
          omega
      rw [e]
      show cutS x none (some (-((x.length - (j + 2) : Nat) : Int))) = _
      rw [cut_upto (by omega) (by omega), show x.length - (x.length - (j + 2)) = j + 2 by omega]
/-- what a stem makes of a word -/
def resS (ss kk : List Str) (x : Str) : Str := dueS ss kk x
theorem res_due {row left ss kk : List Str} {x : Str} (h1 : ∀ y, y ∈ ss ↔ y ∈ row) (h2 : ∀ y, y ∈ kk ↔ y ∈ left) (_pos : ∀ e ∈ row, 1 ≤ e.length) : resS ss kk x = dueS row left x := by
  unfold resS dueS
  have e : (fun j => decide (offS x (j + 2) ∈ ss)) = fun j => decide (offS x (j + 2) ∈ row) := by
    funext j
    exact decide_eq_decide.mpr (h1 _)
  rw [e]
  by_cases hx : x ∈ left
  · rw [if_pos hx, if_pos ((h2 x).mpr hx)]
  · rw [if_neg hx, if_neg fun h => hx ((h2 x).mp h)]
theorem inV_strs (y : Str) : ∀ l : List Str, inV (.str y) (l.map V.str) = decide (y ∈ l)
  | [] => rfl
  | a :: l => by
    show ((a == y) || inV (.str y) (l.map V.str)) = _
    rw [inV_strs y l]
    by_cases h : a = y
    · subst h
      simp
    · have : (a == y) = false := by simpa using h
      rw [this, Bool.false_or]
      by_cases h2 : y ∈ l
      · rw [decide_eq_true h2, decide_eq_true (List.mem_cons_of_mem _ h2)]
      · rw [decide_eq_false h2, decide_eq_false fun z => (List.mem_cons.mp z).elim (fun e => h e.symm) h2]
theorem flat_strs (l : List Str) : (l.map V.str).all flatV = true := by
  rw [List.all_map]
  exact List.all_eq_true.mpr fun _ _ => rfl
end K05
set_option Elab.async false
set_option linter.all false
set_option maxRecDepth 100000
set_option maxHeartbeats 4000000
namespace K05
open PySem PySem.Spec PyProof.Rows L2 TL Qh Qi Ql ClX
abbrev sResult : Stmt := inClass (top 17) 3
def spResult (C : Addr) : Sp := fun vs G Q _ => ∃ (a : Addr) (ss kk : List Str) (v : V), vs = [.ref a, v] ∧ StemAt C G a ss kk ∧ ss.length ≤ 1000 ∧ (∀ e ∈ ss, 1 ≤ e.length ∧ e.length ≤ 1000) ∧ ((v = .non ∧ Q .non G) ∨ ∃ x, v = .str x ∧ x.length ≤ 1000 ∧ ∀ G', Same G G' → Q (.str (resS ss kk x)) G')
section
variable {P : Program} {w : World} {K : PySem.W.Frag} {mg : Str → Option Value} {base : Heap}
abbrev resN : List Str := ["self", "value", "size"]
theorem scResult : FnScope resN ["self", "value"] (defScope sResult) := ⟨rfl, rfl, rfl, by decide +kernel, rfl, by decide +kernel, by decide +kernel⟩
theorem ok_result {C f : Addr} {fd : FuncData} (F : Fun K "result" "Stem.result" sResult f fd) (B : Blt mg) (T : StemC K mg C) : FnOk P w K mg base (L2.CX P w) 1 f fd ["self", "value"] (spResult C) := by
  refine F.okX scResult (fun vs G Q E h => ?_) (fun cdv A out t G vs Q E hr h => ?_)
  · obtain ⟨a, ss, kk, v, rfl, _⟩ := h
    rfl
  · obtain ⟨a, ss, kk, v, rfl, ⟨dx, D1, D2, D3, zs, h1, h2, h3, h4, h5⟩, hn, hl, k⟩ := h
    refine ⟨_, (pss_cons (ps_if (PW.pt (pw_or (pt_cmpR op_isN (pv 1) pe_non (nomark _)) (pw_or1 (pt_cmpR op_in_seq (pv 1) (pe_fld (pv 0) rfl) (by rfl))))) (pss_one (ps_ret (pv 1))) pss_nil)
    (pss_cons (ps_for (passes_of rfl) rfl (pi_tup (pe_fld (pv 0) rfl)) (pg_name (i := 2) scResult.nd rfl (by first | exact Or.inl rfl | exact Or.inr rfl))
      (pss_one (ps_if (PW.pt (pw_and (pt_cmpR op_ge (pe_op op_sub (pe_callB (r := rLen K) call_len (by rfl) B.n_len bt_len (pa_cons (pv 1) pa_nil)) (pv 2)) (pe_cval (pe_glob (v := .ref C) rfl T.g rfl)) (nomark _)) (pw_and1 (pt_cmpR op_in_seq (pe_slice sl_str (pv 1) (po_some (pe_un un_neg (pv 2))) po_none) (pe_fld (pv 0) rfl) (by rfl))))) (pss_one (ps_ret (pe_slice sl_str (pv 1) po_none (po_some (pe_un un_neg (pv 2)))))) pss_nil)))
    (pss_one (ps_ret (pv 1))))), ?_⟩
    rcases k with ⟨rfl, k⟩ | ⟨x, rfl, hx, k⟩
    · refine ⟨_, rfl, rfl, _, rfl, ?_⟩
      exact iteT ⟨_, rfl, k⟩
    · refine ⟨_, rfl, rfl, _, rfl, ?_⟩
      refine iteF ?_
      have hin : inV (.str x) (kk.map V.str) = decide (x ∈ kk) := inV_strs x kk
      refine ⟨_, rfl, _, rfl, a, C, dx, _, _, rfl, h1, T.cl, T.n2, rfl, D2, _, rfl, .inr (SqT.of h3), rfl, flat_strs kk, _, rfl, ?_⟩
      have k0 := k G (Same.refl G)
      have due : resS ss kk x = resZ ss kk zs x := (resZ_due (fun e he => (hl e he).1) h5).symm
      rw [due] at k0
      unfold resZ at k0
      rw [show (if false = true then !inV (.str x) (kk.map V.str) else inV (.str x) (kk.map V.str)) = decide (x ∈ kk) from hin]
      refine ite2 (fun hk => ?_) (fun hk => ?_)
      · rw [if_pos (of_decide_eq_true hk)] at k0
        exact ⟨_, rfl, k0⟩
      · rw [if_neg fun h => hk (decide_eq_true h)] at k0
        obtain ⟨mc, u2, cr, cv⟩ := T.least
        have big : x.length ≤ sizeLine := big_line (by omega)
        refine ⟨_, rfl, a, C, dx, _, _, rfl, h1, T.cl, T.n3, rfl, D3, rfl, ⟨_, SqT.of h4⟩, for_it walk_tup (fun i σ' G' => ∃ o2, σ' = [some (.ref a), some (.str x), o2] ∧ G' = G ∧ ∀ j z, j < i → zs[j]? = some z → fitsS ss x z = false)
          ⟨none, rfl, rfl, fun j z hj _ => absurd hj (Nat.not_lt_zero j)⟩ (fun i σ' G' _ ⟨_, _, e, _⟩ => by rw [e]; exact SqT.of h4) ?_ ?_⟩
        · rintro i v σ1 G1 G1' hi ⟨o2, rfl, rfl, hno⟩ ⟨rfl, hv⟩
          obtain ⟨z, hz, rfl⟩ := map_at hv
          have go_on : fitsS ss x z = false → ∀ j z', j < i + 1 → zs[j]? = some z' → fitsS ss x z' = false := fun hf j z' hj hjz => by
            by_cases hji : j = i
            · subst hji
              rw [hz] at hjz
              rw [← Option.some.inj hjz]
              exact hf
            · exact hno j z' (by omega) hjz
          refine ⟨_, rfl, .str x, x.length, rfl, ⟨big, rfl⟩, _, rfl, _, _, rfl, rfl, C, mc, .int 2, u2, rfl, cr, cv, _, _, rfl, rfl, _, rfl, ?_⟩
          refine ite2 (fun b1 => ?_) (fun b1 => ?_)
          · refine ⟨_, rfl, _, rfl, _, rfl, _, rfl, x, rfl, big, _, rfl, a, C, dx, _, _, rfl, h1, T.cl, T.n1, rfl, D1, _, rfl, .inr (SqT.of h2), rfl, flat_strs ss, _, rfl, ?_⟩
            rw [show (if false = true then !inV (.str (cutS x (some (-z)) none)) (ss.map V.str) else inV (.str (cutS x (some (-z)) none)) (ss.map V.str)) = decide (cutS x (some (-z)) none ∈ ss) from inV_strs _ ss]
            refine ite2 (fun b2 => ?_) (fun b2 => ?_)
            · have hfit : fitsS ss x z = true := by
                unfold fitsS
                rw [b2, Bool.and_true]
                exact b1
              have hf : zs.find? (fitsS ss x) = some z := by
                refine List.find?_eq_some_iff_getElem.mpr ⟨hfit, i, (List.getElem?_eq_some_iff.mp hz).1, (List.getElem?_eq_some_iff.mp hz).2, fun j hj => ?_⟩
                have hjl : j < zs.length := Nat.lt_trans hj (List.getElem?_eq_some_iff.mp hz).1
                rw [hno j _ hj (List.getElem?_eq_getElem hjl)]
                rfl
              rw [hf] at k0
              exact ⟨_, rfl, _, rfl, _, rfl, _, rfl, x, rfl, big, k0⟩
            · refine ⟨_, rfl, rfl, go_on ?_⟩
              unfold fitsS
              rw [Bool.eq_false_iff.mpr b2, Bool.and_false]
          · refine ⟨_, rfl, rfl, go_on ?_⟩
            unfold fitsS
            have b1 : decide ((x.length : Int) - z ≥ 2) = false := by simpa using b1
            rw [b1, Bool.false_and]
        · rintro σ1 G1 ⟨o2, rfl, rfl, hno⟩
          have hf : zs.find? (fitsS ss x) = none := List.find?_eq_none.mpr fun z hm => by
            obtain ⟨j, hj⟩ := List.getElem?_of_mem hm
            rw [hno j z (by rw [List.length_map]; exact (List.getElem?_eq_some_iff.mp hj).1) hj]
            exact Bool.false_ne_true
          rw [hf] at k0
          exact ⟨_, rfl, k0⟩
end
end K05
set_option Elab.async false
set_option linter.all false
set_option maxRecDepth 100000
set_option maxHeartbeats 4000000
namespace K05
open PySem PySem.Spec PyProof.Rows L2 TL Qh Qi Ql ClX
abbrev sString : Stmt := top 22
abbrev sHeard : Stmt := top 24
abbrev sDue : Stmt := top 25
def letter (v : V) : Bool := match v with
  | .str x => (tl x).all ltr && decide (x.length = 1)
  | _ => false
theorem letters_of {xs : List V} (h : xs.all letter = true) : ∀ v ∈ xs, ∃ x, v = .str x ∧ (tl x).all ltr = true ∧ x.length = 1 := fun v hv => by
  have h := List.all_eq_true.mp h v hv
  cases v with
  | str x =>
    have h := Bool.and_eq_true_iff.mp h
    exact ⟨x, rfl, h.1, of_decide_eq_true h.2⟩
  | _ => cases h
/-- a word of 1 to m letters -/
def spString : Sp := fun vs G Q _ => ∃ (p l : Addr) (c m : Int), vs = [.ref p, .int m] ∧ Pen G p l c ∧ c ≤ 900000 ∧ 1 ≤ m ∧ m ≤ 10 ∧ ∀ (x : Str) (G' : Hp), lettersS x m = true → Kp p G G' → Pen G' p l (c + 12) → Q (.str x) G'
abbrev rowLens : List Nat := [0, 1, 2, 3, 8, 9]
def spHeard (K : PySem.W.Frag) : Sp := fun vs G Q _ => ∃ (a : Addr) (xs : List V) (kv : V) (ko : Option (List V)), vs = [.ref a, kv] ∧ SqL K G a xs ∧ xs.length ∈ rowLens ∧ (∀ v ∈ xs, ∀ G', Same G G' → Known K G' v) ∧ (∀ G', Same G G' → KeepAt K G' kv ko) ∧
  (dueX xs ko = none → ∀ G', Same G G' → Q .non G') ∧ (∀ reason i, dueX xs ko = some (reason, i) → ∀ q G', Same G G' → G' q = some (.tup [.str reason, ixV i]) → Q (.ref q) G')
def spDue (K : PySem.W.Frag) : Sp := fun vs G Q _ => ∃ (ar al : Addr) (row left : List Str) (x : Str), vs = [.ref ar, .ref al, .str x] ∧ SqL K G ar (row.map V.str) ∧ SqL K G al (left.map V.str) ∧ x.length ≤ 1000 ∧ ∀ G', Same G G' → Q (.str (dueS row left x)) G'
section
variable {P : Program} {w : World} {K : PySem.W.Frag} {mg : Str → Option Value} {base : Heap}
theorem scString : FnScope ["_law_pen_here", "_law_most", "_law_k"] ["_law_pen_here", "_law_most"] (defScope sString) := ⟨rfl, rfl, rfl, by decide +kernel, rfl, by decide +kernel, by decide +kernel⟩
theorem ok_string (D : DefIn K mg "_law_string" sString) (B : Blt mg) (F__law_draw : Ok P w K mg base "_law_draw" (defArgs sDraw) ["_law_pen_here", "_law_many"] 1 spDraw)
    (F__law_pick : Ok P w K mg base "_law_pick" (defArgs sPick) ["_law_pen_here", "_law_some"] 2 (spPick K)) : Ok P w K mg base "_law_string" (defArgs sString) ["_law_pen_here", "_law_most"] 3 spString := by
  refine D.ok scString (fun vs G Q E h => ?_) (fun _ _ _ _ _ _ us hl => match us, hl with | [_, _], _ => rfl) (fun f cdv A out t G vs Q E hr h => ?_)
  · obtain ⟨p, l, c, m, rfl, _⟩ := h
    rfl
  · obtain ⟨p, l, c, m, rfl, hP, hc, m1, m2, k⟩ := h
    refine ⟨_, (pss_one (ps_ret (pe_bm PySem.F.plainAttrs_str PySem.F.slot_str_join PySem.F.type_str_join mt_join pe_str (pa_cons (pe_lc (own := [("_law_k", 2)]) (tt := tYes) rfl scString.nd (pi_range1 (by rfl) B.n_range (pa_cons (pe_op op_add pe_int (pe_own F__law_draw (hr.mono (by decide)) takes0 (pa_cons (pv 0) (pa_cons (pv 1) pa_nil)))) pa_nil)) (blkOk_by (N := ["_law_pen_here", "_law_most", "_law_k"]) (sc := defScope sString) (by decide +kernel)) (fun _ _ _ _ _ => pg_name (i := 2) scString.nd rfl (by first | exact Or.inl rfl | exact Or.inr rfl)) (fun _ _ _ _ _ => pts_nil) (fun _ _ _ _ _ => (pe_own F__law_pick (hr.mono (by decide)) takes0 (pa_cons (pv 0) (pa_cons (pe_lst (pa_cons pe_str (pa_cons pe_str (pa_cons pe_str (pa_cons pe_str (pa_cons pe_str pa_nil)))))) pa_nil))))) pa_nil)))), ?_⟩
    refine ⟨rfl, _, rfl, _, rfl, p, l, c, m, rfl, hP, by omega, by omega, by omega, fun n G4 n0 n1 kp4 P4 => ?_⟩
    refine ⟨_, _, rfl, rfl, 1 + n, rfl, by omega, by omega, fun D hD => ?_⟩
    have Dp : D ≠ p := P4.ne hD
    refine lc_range (fun i G' => ∃ ys : List Str, G' D = some (.lst (ys.map V.str)) ∧ ys.length = i ∧ (∀ y ∈ ys, (tl y).all ltr = true ∧ y.length = 1) ∧ Kp p G4 G' ∧ Pen G' p l (c + 1 + i)) ⟨[], upd_same, rfl, fun y hy => (nomatch hy), Kp.new hD, (P4.new hD).mono (by omega)⟩ ?_ ?_
    · rintro i G5 hi ⟨ys, hl, hn, hy, kp5, P5⟩
      refine ⟨rfl, ?_⟩
      refine ⟨_, rfl, by show 5 ≤ sizeLine; decide, fun sg hsg => ?_⟩
      refine ⟨p, l, sg, c + 1 + i, _, rfl, P5.new hsg, by omega, P5.ne hsg, SqL.of upd_same, by show 0 < 5; decide, by show 5 ≤ 1000000; decide, fun v G6 hv kp6 P6 => ?_⟩
      obtain ⟨y, rfl, cy, ly⟩ := letters_of (by decide +kernel) v hv
      have hl6 := kp6 D _ Dp (by rw [upd_ne (ne_of_none hl hsg)]; exact hl)
      refine ⟨_, hl6, by rw [List.length_map]; exact big_line' (by omega), ys ++ [y], ?_, by simp [hn], fun z hz => ?_, (kp5.trans ((Kp.new hsg).trans kp6)).fresh hD, (P6.upd Dp (P4.nel hD)).mono (by omega)⟩
      · rw [upd_same, List.map_append]
        rfl
      · rcases List.mem_append.mp hz with hz | hz
        · exact hy z hz
        · rw [List.mem_singleton.mp hz]
          exact ⟨cy, ly⟩
    · rintro G5 ⟨ys, hl, hn, hy, kp5, P5⟩
      have hsum : (ys.map (·.length)).sum = ys.length := by
        have : ∀ zs : List Str, (∀ y ∈ zs, y.length = 1) → (zs.map (·.length)).sum = zs.length := by
          intro zs
          induction zs with
          | nil => intro _; rfl
          | cons a r ih =>
            intro h
            simp only [List.map_cons, List.sum_cons, List.length_cons]
            rw [ih fun y hy => h y (List.mem_cons_of_mem _ hy), h a List.mem_cons_self]
            omega
        exact this ys fun y hy' => (hy y hy').2
      have hlen : (Txt.join nothing ys).length = (1 + n).toNat := by
        rw [glue_len, hsum, hn]
      refine ⟨nothing, D, ys, rfl, rfl, .inl (SqL.of hl), ?_, ?_⟩
      · have e0 : nothing.length = 0 := by decide +kernel
        rw [e0, hsum]
        omega
      · refine k _ G5 ?_ (kp4.trans kp5) (P5.mono (by omega))
        unfold lettersS
        have hall : (Txt.join nothing ys).cps.toList.all ltr = true := by
          show (tl (Txt.join nothing ys)).all ltr = true
          rw [tl_glue, List.all_eq_true]
          intro c hc
          obtain ⟨l, hl, hc⟩ := List.mem_flatten.mp hc
          obtain ⟨y, hy', rfl⟩ := List.mem_map.mp hl
          exact List.all_eq_true.mp (hy y hy').1 c hc
        rw [hall, decide_eq_true (show (1 : Int) ≤ ((Txt.join nothing ys).length : Int) by omega), decide_eq_true (show ((Txt.join nothing ys).length : Int) ≤ m by omega)]
        rfl
theorem scHeard : FnScope ["_law_row", "_law_left", "_law_caught", "error"] ["_law_row", "_law_left"] (defScope sHeard) := ⟨rfl, rfl, rfl, by decide +kernel, rfl, by decide +kernel, by decide +kernel⟩
theorem ok_heard {C CE CQ : Addr} (D : DefIn K mg "_law_heard" sHeard) (B : Blt mg) (TE : ErrN P w K mg base "InvalidStep" ["reason", "index"] CE) (gQ : mg "QuoteError" = some (.ref CQ)) (ex : PySem.W.exmOne K (.ref CE) (.ref CQ) = some true) (ki : PySem.W.kitOne K (.ref CE) (.ref CE) = some true)
    (F__law_stem : Ok P w K mg base "_law_stem" (defArgs sStem) ["_law_row", "_law_left"] 7 (spStem K C CE)) :
    Ok P w K mg base "_law_heard" (defArgs sHeard) ["_law_row", "_law_left"] 8 (spHeard K) := by
  refine D.ok scHeard (fun vs G Q E h => ?_) (fun _ _ _ _ _ _ us hl => match us, hl with | [_, _], _ => rfl) (fun f cdv A out t G vs Q E hr h => ?_)
  · obtain ⟨a, xs, kv, ko, rfl, _⟩ := h
    rfl
  · obtain ⟨a, xs, kv, ko, rfl, hS, hn, hk, hkv, kN, kS⟩ := h
    refine ⟨_, (pss_cons (ps_set (i := 2) scHeard.nd rfl (by first | exact Or.inl rfl | exact Or.inr rfl) pe_non)
      (pss_cons (ps_try_held (i := 3) (j := 2) rfl rfl rfl scHeard.nd rfl rfl rfl rfl (by decide) (by decide) rfl ⟨rfl, by decide, .inl gQ⟩ takes0
        (fun W pn xe tk _ => pss_one (ps_expr (pe_own F__law_stem hr tk (pa_cons (pv 0) (pa_cons (pv 1) pa_nil))))))
      (pss_cons (ps_if (pt_cmpR op_isN (pv 2) pe_non (nomark _)) (pss_one (ps_ret pe_non)) pss_nil)
      (pss_one (ps_ret (pe_ifExp (pt_val (pe_callB call_errIs (by rfl) B.n_isinstance bt_isinstance (pa_cons (pv 2) (pa_cons (pe_glob (v := .ref CE) rfl TE.c.g rfl) pa_nil)))) (pn_tup (pa_cons (pe_errF (pv 2)) (pa_cons (pe_errF (pv 2)) pa_nil))) (pn_tup (pa_cons pe_str (pa_cons pe_non pa_nil))))))))), ?_⟩
    have len8 : xs.length ≤ 9 := by
      simp only [List.mem_cons, List.not_mem_nil, or_false] at hn
      omega
    refine ⟨_, rfl, _, rfl, a, xs, kv, ko, rfl, hS, hn, hk, by omega, hkv, fun reason i due d G' es => ?_, fun ts ks due e1 e2 x ss kk G' nx sm ix a1 a2 => ?_⟩
    · refine ⟨true, ex, fun _ b hb => ?_, fun z => nomatch z⟩
      have db : d ≠ b := ne_of_none es.2.2 hb
      have hd' : (L2.upd G' b (exk (.ref CE) (some d) b)) d = some (.xd [("index", ixV i), ("reason", .str reason)]) := by
        rw [upd_ne db]
        exact es.2.2
      refine ⟨_, rfl, rfl, _, rfl, iteF ?_⟩
      refine ⟨_, rfl, b, CE, d, _, .ref CE, .ref CE, true, rfl, upd_same, hd', TE.c.ec, fun u r => r, ki, _, rfl, ?_⟩
      refine iteT ⟨_, rfl, b, CE, d, _, _, rfl, upd_same, hd', TE.c.xf, TE.no _ List.mem_cons_self, rfl, _, rfl, b, CE, d, _, _, rfl, upd_same, hd', TE.c.xf, TE.no _ (List.mem_cons_of_mem _ List.mem_cons_self), rfl, by show 2 ≤ sizeLine; decide, fun p G2 np s2 hp => ?_⟩
      exact kS reason i due p G2 ((es.2.1.trans (Qh.Same.new hb)).trans s2) hp
    · refine ⟨_, rfl, rfl, _, rfl, iteT ?_⟩
      exact kN due G' sm
theorem scDue : FnScope ["_law_row", "_law_left", "_law_thing", "_law_cut"] ["_law_row", "_law_left", "_law_thing"] (defScope sDue) := ⟨rfl, rfl, rfl, by decide +kernel, rfl, by decide +kernel, by decide +kernel⟩
theorem ok_due (D : DefIn K mg "_law_due" sDue) (B : Blt mg) : Ok P w K mg base "_law_due" (defArgs sDue) ["_law_row", "_law_left", "_law_thing"] 1 (spDue K) := by
  refine D.ok scDue (fun vs G Q E h => ?_) (fun _ _ _ _ _ _ us hl => match us, hl with | [_, _, _], _ => rfl) (fun f cdv A out t G vs Q E hr h => ?_)
  · obtain ⟨ar, al, row, left, x, rfl, _⟩ := h
    rfl
  · obtain ⟨ar, al, row, left, x, rfl, hr1, hl1, hx, k⟩ := h
    refine ⟨_, (pss_cons (ps_if (pt_cmpR op_in_seq (pv 2) (pv 1) (by rfl)) (pss_one (ps_ret (pv 2))) pss_nil)
    (pss_cons (ps_for (passes_of rfl) rfl (pi_range2 (by rfl) B.n_range (pa_cons pe_int (pa_cons (pe_callB (r := rLen K) call_len (by rfl) B.n_len bt_len (pa_cons (pv 2) pa_nil)) pa_nil))) (pg_name (i := 3) scDue.nd rfl (by first | exact Or.inl rfl | exact Or.inr rfl))
      (pss_one (ps_if (pt_cmpR op_in_seq (pe_slice sl_str (pv 2) (po_some (pv 3)) po_none) (pv 0) (by rfl)) (pss_one (ps_ret (pe_slice sl_str (pv 2) po_none (po_some (pv 3))))) pss_nil)))
    (pss_one (ps_ret (pv 2))))), ?_⟩
    have big := big_line (show x.length ≤ 1000000 by omega)
    refine ⟨_, rfl, _, rfl, al, _, rfl, .inl hl1, rfl, flat_strs left, _, rfl, ?_⟩
    rw [show (if false = true then !inV (.str x) (left.map V.str) else inV (.str x) (left.map V.str)) = decide (x ∈ left) from inV_strs x left]
    refine ite2 (fun hk => ?_) (fun hk => ?_)
    · have h := k G (Same.refl G)
      unfold dueS at h
      rw [if_pos (of_decide_eq_true hk)] at h
      exact ⟨_, rfl, h⟩
    · have hk : x ∉ left := fun h => hk (decide_eq_true h)
      have due : dueS row left x = match (List.range (x.length - 2)).find? (fun j => decide (offS x (j + 2) ∈ row)) with
          | some j => uptoS x (j + 2)
          | none => x := by
        unfold dueS
        exact if_neg hk
      refine ⟨_, rfl, .str x, x.length, rfl, ⟨big, rfl⟩, 2, (x.length : Int), rfl, ⟨by decide, by decide, by omega, by omega⟩, ?_⟩
      have en : ((x.length : Int) - 2).toNat = x.length - 2 := by omega
      rw [en]
      refine for_range (fun i σ' G' => ∃ o3, σ' = [some (.ref ar), some (.ref al), some (.str x), o3] ∧ G' = G ∧ ∀ j, j < i → offS x (j + 2) ∉ row) ⟨none, rfl, rfl, fun j hj => absurd hj (Nat.not_lt_zero j)⟩ ?_ ?_
      · rintro i σ1 G1 hi ⟨o3, rfl, rfl, hno⟩
        have e2 : (2 : Int) + (i : Int) = ((i + 2 : Nat) : Int) := by omega
        rw [e2]
        refine ⟨_, rfl, _, rfl, _, rfl, x, rfl, big, _, rfl, ar, _, rfl, .inl hr1, rfl, flat_strs row, _, rfl, ?_⟩
        rw [show (if false = true then !inV (.str (cutS x (some ((i + 2 : Nat) : Int)) none)) (row.map V.str) else inV (.str (cutS x (some ((i + 2 : Nat) : Int)) none)) (row.map V.str)) = decide (offS x (i + 2) ∈ row) from inV_strs _ row]
        refine ite2 (fun hm => ?_) (fun hm => ?_)
        · refine ⟨_, rfl, _, rfl, _, rfl, x, rfl, big, ?_⟩
          have h := k G1 (Same.refl G1)
          rw [due, List.find?_range_eq_some.mpr ⟨hm, List.mem_range.mpr hi, fun j hj => by rw [decide_eq_false (hno j hj)]; rfl⟩] at h
          exact h
        · refine ⟨_, rfl, rfl, fun j hj => ?_⟩
          by_cases hji : j = i
          · subst hji
            exact fun z => hm (decide_eq_true z)
          · exact hno j (by omega)
      · rintro σ1 G1 ⟨o3, rfl, rfl, hno⟩
        have h := k G1 (Same.refl G1)
        rw [due, List.find?_range_eq_none.mpr fun j hj => by rw [decide_eq_false (hno j hj)]; rfl] at h
        exact ⟨_, rfl, h⟩
end
end K05
set_option Elab.async false
set_option linter.all false
set_option maxRecDepth 100000
set_option maxHeartbeats 4000000
namespace K05
open PySem PySem.Spec PyProof.Rows L2 TL Qh Qi Ql ClX
/-- o.m(k = v) -/
def tMethK (C : Addr) (m : Str) (sp : Sp) (E : L2.St → XK) (ta : TE) (tk : TA) : TE := fun σ H Q => ta σ H fun x H1 => ∃ a dx fs, x = .ref a ∧ H1 a = some (.ins C dx fs) ∧ fs.lookup m = none ∧ tk σ H1 fun zs H2 => sp (x :: zs) H2 Q (E σ)
section
variable {X : Cx} {W : WX} {k : Nat} {f C : Addr} {fd : FuncData} {ps ks : List Str} {sp : Sp} {m : Str} {o : Expr} {kws : List Keyword} {ta : TE} {tk : TA} {apos pos : Pos}
theorem pe_methK {pl : Sem Bool} (he : PE X o ta) (c : Cls X.K C) (hm : Meth X.K C m f) (F : FnOk X.prog X.w X.K X.mg X.base (L2.CX X.prog X.w) k f fd ps sp) (hr : Room k X.A) (hb : ∀ (u : Value) (ws : List Value), ws.length + 1 = ps.length → bindArgs fd ⟨[u], ks.zip ws⟩ = pure (ps.zip (u :: ws))) (tks : Takes X W) (hkw : PK X kws tk)
    (hall : (backToKw pos (keywordEach kws X.env)).all (·.1.isSome) = true := by rfl) (hks : (backToKw pos (keywordEach kws X.env)).filterMap (·.1) = ks := by rfl)
    (hpl : ((backTo pos (starEach [] X.env)).any (·.1) || (backToKw pos (keywordEach kws X.env)).any (·.1.isNone)) = false := by rfl)
    (ht : eval (.Call (.Attribute o m apos) [] kws pos) X.env = (do
      let ov ← eval o X.env
      standAt apos.atName
      let (f, first) ← holding [ov] (getMethod ov m pl)
      callWith pos f first (backTo pos (starEach [] X.env)) (backToKw pos (keywordEach kws X.env))) := by rfl) :
    PE X (.Call (.Attribute o m apos) [] kws pos) (tMethK C m sp (WE W) ta tk) := by
  refine ⟨fun pins s σ H Q I h => ?_⟩
  refine PySem.W.methodCall_KW (pl := pl) (thn (he.run pins s σ H _ I h) fun u s1 ⟨x, H1, I1, rx, a, dx, fs, ex, ea, l, q⟩ => ?_) ht
  subst ex
  obtain rfl : u = Value.ref a := rx
  refine getmeth_ok I1 ea c hm l ?_
  refine PySem.W.callWith_KW0 (first := [.ref a]) (h₀ := X.base) I.ok.mod.kin hm.kp hall ?_ hpl
  refine thn (hkw.run pos pins s1 σ H1 _ I1 q) ?_
  rintro ws s2 ⟨zs, H2, I2, rz, q2⟩
  refine ⟨I2.kIn, ?_⟩
  rw [hks]
  have r2 : Vals (V.ref a :: zs) (Value.ref a :: ws) := .cons rfl rz
  have hl : ws.length + 1 = ps.length := by
    have h1 := F.len _ _ _ _ q2
    rw [List.length_cons] at h1
    rw [← rz.length]
    exact h1
  refine wpAny_call (codeAny_mono (F.run X.A X.stack s2 H2 ⟨[.ref a], ks.zip ws⟩ (.ref a :: ws) (.ref a :: zs) Q (WE W σ) hr I2.env0 (BindsTo.of_eq (hb _ ws hl)) r2 q2) ?_)
  rintro (e | fl) s' hq
  · exact passAt tks σ pins H2 s2 e s' I2 hq
  · cases fl with
    | ret u => exact I2.after hq
    | next => exact hq.elim
    | brk => exact hq.elim
    | cont => exact hq.elim
end
/-- what == and isinstance ask of a class -/
structure InsT (K : PySem.W.Frag) (C : Addr) : Prop where
  cl : Cls K C
  ha : PySem.W.findIn K (.ref C) "__class__" = some (some (.builtin "object.__class__"))
  hn : PySem.W.specialIn K (.builtin "object.__class__") "__get__" = some (some (.builtin "getset_descriptor.__get__"))
  htk : PySem.W.takesIn K (.builtin "object.__class__") = some true
  hm : PySem.W.mroIn K C (.type "object") = some true
theorem InsT.ty {K : PySem.W.Frag} {C a dx : Addr} {G : Hp} {fs : List (Str × V)} (T : InsT K C) (h : G a = some (.ins C dx fs)) : TyX K G (.ref a) (.ref C) := .base (.ins h T.cl T.ha T.hn T.htk T.hm)
structure StemM (P : Program) (w : World) (K : PySem.W.Frag) (mg : Str → Option Value) (base : Heap) (C CS : Addr) : Prop where
  T : StemC K mg C
  I : InsT K C
  rs : ∃ f fd, Meth K C "result" f ∧ Binds K fd ["self", "value"] [] ∧ (∀ (u : Value) (ws : List Value), ws.length + 1 = 2 → bindArgs fd ⟨[u], ([Str.ofString "value"] : List Str).zip ws⟩ = pure ((["self", "value"] : List Str).zip (u :: ws))) ∧ FnOk P w K mg base (L2.CX P w) 1 f fd ["self", "value"] (spResult C)
  kC : PySem.W.kitOne K (.ref C) (.ref C) = some true
  kS : PySem.W.kitOne K (.ref C) (.ref CS) = some true
  gS : mg "Step" = some (.ref CS)
/-! ### how long the reprs are -/
theorem repr_len {x : Str} (h : txt x = true) : (reprText x).length ≤ 10 * x.length + 2 := by
  have h2 := fmt_piled [x] fun y hy c hcm => by
    rw [List.mem_singleton.mp hy] at hcm
    unfold txt at h
    rw [← Array.all_toList, List.all_eq_true] at h
    have := h c hcm
    simp at this
    omega
  unfold fmtCost at h2
  simp [piled] at h2
  omega
theorem reprs_len {xs : List Str} {m : Nat} (h : ∀ x ∈ xs, txt x = true ∧ x.length ≤ m) : ((xs.map reprText).map (·.length)).sum ≤ xs.length * (10 * m + 2) := by
  have := sum_le (l := (xs.map reprText).map (·.length)) (m := 10 * m + 2) fun z hz => by
    obtain ⟨y, hy, rfl⟩ := List.mem_map.mp hz
    obtain ⟨x, hx, rfl⟩ := List.mem_map.mp hy
    obtain ⟨h1, h2⟩ := h x hx
    have := repr_len h1
    omega
  rw [List.length_map, List.length_map] at this
  exact this
def okWs (xs : List Str) : Prop := xs.length ≤ 100 ∧ ∀ x ∈ xs, txt x = true ∧ x.length ≤ 100
theorem shown_l {xs : List Str} (h : okWs xs) : (PyData.shown (.list (xs.map PyData.str))).length ≤ 101000 := by
  have e : PyData.shown (.list (xs.map PyData.str)) = listText (xs.map reprText) := by
    show listText (PyData.shownAll (xs.map PyData.str)) = _
    rw [shown_strs]
  rw [e]
  have h1 := listText_len_le (xs.map reprText)
  have h2 := reprs_len h.2
  have h3 : xs.length * (10 * 100 + 2) ≤ 100 * 1002 := Nat.mul_le_mul h.1 (by decide)
  rw [List.length_map] at h1
  have := h.1
  omega
theorem shown_t {xs : List Str} (h : okWs xs) : (PyData.shown (.tuple (xs.map PyData.str))).length ≤ 101000 := by
  have e : PyData.shown (.tuple (xs.map PyData.str)) = tupleText (xs.map reprText) := by
    show tupleText (PyData.shownAll (xs.map PyData.str)) = _
    rw [shown_strs]
  rw [e]
  have h1 := tupleText_len_le (xs.map reprText)
  have h2 := reprs_len h.2
  have h3 : xs.length * (10 * 100 + 2) ≤ 100 * 1002 := Nat.mul_le_mul h.1 (by decide)
  rw [List.length_map] at h1
  have := h.1
  omega
theorem shown_pair {a b : PyData} (ha : a.shown.length ≤ 101000) (hb : b.shown.length ≤ 101000) : (PyData.shown (.list [a, b])).length ≤ sizeLine := by
  have e : PyData.shown (.list [a, b]) = listText [a.shown, b.shown] := rfl
  rw [e]
  have h1 := listText_len_le [a.shown, b.shown]
  have h2 : (([a.shown, b.shown] : List Str).map (·.length)).sum = a.shown.length + b.shown.length := by simp
  have h3 : ([a.shown, b.shown] : List Str).length = 2 := rfl
  have : (400000 : Nat) ≤ sizeLine := by decide
  omega
def twoT (xs ys : List Str) : PyData := .list [.tuple (xs.map PyData.str), .tuple (ys.map PyData.str)]
def twoL (xs ys : List Str) : PyData := .list [.list (xs.map PyData.str), .list (ys.map PyData.str)]
theorem depth_strs : ∀ xs : List Str, PyData.depthAll (xs.map PyData.str) = 0
  | [] => rfl
  | a :: r => by
    show max 0 (PyData.depthAll (r.map PyData.str)) = 0
    rw [depth_strs r]
    rfl
theorem twoT_ok {xs ys : List Str} (h : okWs xs) (k : okWs ys) : (twoT xs ys).showable = true ∧ (twoT xs ys).hasDict = false ∧ (twoT xs ys).depth ≤ 40 ∧ (twoT xs ys).shown.length ≤ sizeLine := by
  refine ⟨?_, ?_, ?_, shown_pair (shown_t h) (shown_t k)⟩
  · show (PyData.showableAll (xs.map PyData.str) && (PyData.showableAll (ys.map PyData.str) && true)) = true
    rw [showable_strs, showable_strs]
    rfl
  · show (PyData.hasDictAll (xs.map PyData.str) || (PyData.hasDictAll (ys.map PyData.str) || false)) = false
    rw [nodict_strs, nodict_strs]
    rfl
  · show max (PyData.depthAll (xs.map PyData.str) + 1) (max (PyData.depthAll (ys.map PyData.str) + 1) 0) + 1 ≤ 40
    rw [depth_strs, depth_strs]
    decide
theorem twoL_ok {xs ys : List Str} (h : okWs xs) (k : okWs ys) : (twoL xs ys).showable = true ∧ (twoL xs ys).hasDict = false ∧ (twoL xs ys).depth ≤ 40 ∧ (twoL xs ys).shown.length ≤ sizeLine := by
  refine ⟨?_, ?_, ?_, shown_pair (shown_l h) (shown_l k)⟩
  · show (PyData.showableAll (xs.map PyData.str) && (PyData.showableAll (ys.map PyData.str) && true)) = true
    rw [showable_strs, showable_strs]
    rfl
  · show (PyData.hasDictAll (xs.map PyData.str) || (PyData.hasDictAll (ys.map PyData.str) || false)) = false
    rw [nodict_strs, nodict_strs]
    rfl
  · show max (PyData.depthAll (xs.map PyData.str) + 1) (max (PyData.depthAll (ys.map PyData.str) + 1) 0) + 1 ≤ 40
    rw [depth_strs, depth_strs]
    decide
theorem letters_ok {x : Str} {m : Int} (h : lettersS x m = true) : txt x = true ∧ 1 ≤ x.length ∧ (x.length : Int) ≤ m := by
  unfold lettersS at h
  obtain ⟨h1, h2⟩ := Bool.and_eq_true_iff.mp h
  obtain ⟨h3, h4⟩ := Bool.and_eq_true_iff.mp h1
  refine ⟨?_, by have := of_decide_eq_true h3; omega, of_decide_eq_true h4⟩
  unfold txt
  rw [← Array.all_toList, List.all_eq_true]
  intro c hc
  have := List.all_eq_true.mp h2 c hc
  unfold ltr at this
  obtain ⟨h5, h6⟩ := Bool.and_eq_true_iff.mp this
  have := of_decide_eq_true h6
  simp
  omega
end K05
set_option Elab.async false
set_option linter.all false
set_option maxRecDepth 100000
set_option maxHeartbeats 8000000
namespace K05
open PySem PySem.Spec PyProof.Rows L2 TL Qh Qi Ql ClX
abbrev sRight : Stmt := top 26
theorem iteE' {c : Bool} {A B : Prop} (hc : c = false) (h : B) : if c = true then A else B := by
  subst hc
  exact h
theorem kp_tup {p : Addr} {G G' : Hp} {os : List V} (k : Kp p G G') (hp : G p = some (.lst os)) : ∀ a l, G a = some (.tup l) → G' a = some (.tup l) := fun a l h => k a _ (fun e => by rw [e, hp] at h; cases h) h
theorem StemAt.kp {C p l a : Addr} {c : Int} {G G' : Hp} {ss kk : List Str} (h : StemAt C G a ss kk) (k : Kp p G G') (P : Pen G p l c) : StemAt C G' a ss kk := by
  obtain ⟨n, g, ns, hp, _⟩ := P
  obtain ⟨dx, D1, D2, D3, zs, h1, h2, h3, h4, h5⟩ := h
  refine ⟨dx, D1, D2, D3, zs, k _ _ (fun e => ?_) h1, kp_tup k hp _ _ h2, kp_tup k hp _ _ h3, kp_tup k hp _ _ h4, h5⟩
  rw [e, hp] at h1
  cases h1
abbrev rightN : List Str := ["_law_pen_here", "_law_made", "_law_row", "_law_left", "_law_some", "_law_k", "_law_one", "_law_thing"]
def okRow (row : List Str) : Prop := row.length ≤ 8 ∧ ∀ e ∈ row, lettersS e 4 = true
def okLeft (left : List Str) : Prop := left.length ≤ 20 ∧ ∀ e ∈ left, lettersS e 6 = true
def spRight (C : Addr) : Sp := fun vs G Q _ => ∃ (p l m ar al : Addr) (c : Int) (row left ss kk : List Str), vs = [.ref p, .ref m, .ref ar, .ref al] ∧ Pen G p l c ∧ c ≤ 800000 ∧ ar ≠ p ∧ al ≠ p ∧ G ar = some (.lst (row.map V.str)) ∧ G al = some (.lst (left.map V.str)) ∧ okRow row ∧ okLeft left ∧
  StemAt C G m ss kk ∧ Qs.Asc row ss ∧ Qs.Asc left kk ∧ ∀ G', Kp p G G' → Pen G' p l (c + 144) → Q (.bl true) G'
def asS : Str := Str.ofString "as"
def aS : Str := Str.ofString "a"
section
variable {P : Program} {w : World} {K : PySem.W.Frag} {mg : Str → Option Value} {base : Heap}
theorem scRight : FnScope rightN ["_law_pen_here", "_law_made", "_law_row", "_law_left"] (defScope sRight) := ⟨rfl, rfl, rfl, by decide +kernel, rfl, by decide +kernel, by decide +kernel⟩
theorem ok_right {C CS : Addr} (D : DefIn K mg "_law_right" sRight) (B : Blt mg) (M : StemM P w K mg base C CS)
    (F__law_string : Ok P w K mg base "_law_string" (defArgs sString) ["_law_pen_here", "_law_most"] 3 spString) (F__law_due : Ok P w K mg base "_law_due" (defArgs sDue) ["_law_row", "_law_left", "_law_thing"] 1 (spDue K)) :
    OkG P w K mg base "_law_right" (defArgs sRight) ["_law_pen_here", "_law_made", "_law_row", "_law_left"] 5 (spRight C) := by
  refine D.okG scRight (fun vs G Q E h => ?_) (fun _ _ _ _ _ _ us hl => match us, hl with | [_, _, _, _], _ => rfl) (fun f cdv A out t G vs Q E gu hr h => ?_)
  · obtain ⟨p, l, m, ar, al, c, row, left, ss, kk, rfl, _⟩ := h
    rfl
  · obtain ⟨p, l, m, ar, al, c, row, left, ss, kk, rfl, P0, hc, arp, alp, hrow, hleft, okr, okl, at0, asc1, asc2, k⟩ := h
    have hu64 := hr.units
    have hgu : (A.deeper (envOfC (Str.ofString "_law_right") (defScope sRight) t.heap.objs.size f cdv)).guards = some [] := gu
    obtain ⟨fD, fdD, MD, bD, bK, FD⟩ := M.rs
    have T := M.T
    refine ⟨_, (pss_cons (ps_set (i := 4) scRight.nd rfl (by first | exact Or.inl rfl | exact Or.inr rfl) (pe_op on_cat (pe_op on_cat (pe_callTy cn_list (by rfl) B.n_list bt_list (pa_cons (pv 3) pa_nil)) (pv 2)) (pe_lc (own := [("_law_k", 5)]) (tt := tYes) rfl scRight.nd (pi_range1 (by rfl) B.n_range (pa_cons pe_int pa_nil)) (blkOk_by (N := rightN) (sc := defScope sRight) (by decide +kernel)) (fun _ _ _ _ _ => pg_name (i := 5) scRight.nd rfl (by first | exact Or.inl rfl | exact Or.inr rfl)) (fun _ _ _ _ _ => pts_nil) (fun _ _ _ _ _ => (pe_own F__law_string (hr.mono (by decide)) takes0 (pa_cons (pv 0) (pa_cons pe_int pa_nil)))))))
    (pss_cons (ps_set (i := 4) scRight.nd rfl (by first | exact Or.inl rfl | exact Or.inr rfl) (pe_op on_cat (pe_op on_cat (pv 4) (pe_lc (own := [("_law_one", 6)]) (tt := tYes) rfl scRight.nd (pi_list (pv 2)) (blkOk_by (N := rightN) (sc := defScope sRight) (by decide +kernel)) (fun _ _ _ _ _ => pg_name (i := 6) scRight.nd rfl (by first | exact Or.inl rfl | exact Or.inr rfl)) (fun _ _ _ _ _ => pts_nil) (fun _ _ _ _ _ => (pe_op op_add_str pe_str (pv 6))))) (pe_lc (own := [("_law_one", 6)]) (tt := tYes) rfl scRight.nd (pi_list (pv 2)) (blkOk_by (N := rightN) (sc := defScope sRight) (by decide +kernel)) (fun _ _ _ _ _ => pg_name (i := 6) scRight.nd rfl (by first | exact Or.inl rfl | exact Or.inr rfl)) (fun _ _ _ _ _ => pts_nil) (fun _ _ _ _ _ => (pe_op op_add_str pe_str (pv 6))))))
    (pss_cons (ps_for (passes_of rfl) rfl (pi_list (pv 4)) (pg_name (i := 7) scRight.nd rfl (by first | exact Or.inl rfl | exact Or.inr rfl))
      (pss_one (ps_if (PW.pt (pw_or (pt_cmpR op_ne (pe_meth (pv 1) M.I.cl MD FD (hr.mono (by decide)) bD .nil passL (pa_cons (pv 7) pa_nil)) (pe_own F__law_due (hr.mono (by decide)) takes0 (pa_cons (pv 2) (pa_cons (pv 3) (pa_cons (pv 7) pa_nil)))) (nomark _)) (pw_or1 (pt_cmpR op_ne (pe_methK (pv 1) M.I.cl MD FD (hr.mono (by decide)) bK takes0 (pk_cons (pv 7) pk_nil)) (pe_meth (pv 1) M.I.cl MD FD (hr.mono (by decide)) bD .nil passL (pa_cons (pv 7) pa_nil)) (nomark _))))) (pss_one (ps_ret pe_bl)) pss_nil)))
    (pss_cons (ps_if (PW.pt (pw_or (pt_cmpR op_ne (pe_meth (pv 1) M.I.cl MD FD (hr.mono (by decide)) bD .nil passL (pa_cons pe_str pa_nil)) pe_str (nomark _)) (pw_or1 (pt_cmpR op_notN (pe_meth (pv 1) M.I.cl MD FD (hr.mono (by decide)) bD .nil passL (pa_cons pe_non pa_nil)) pe_non (nomark _))))) (pss_one (ps_ret pe_bl)) pss_nil)
    (pss_cons (ps_if (pt_cmpR (op_neD hu64) (pn_lst (pa_cons (pe_callB call_isi (by rfl) B.n_isinstance bt_isinstance (pa_cons (pv 1) (pa_cons (pe_glob (v := .ref CS) rfl M.gS rfl) pa_nil))) (pa_cons (pe_callB call_isi (by rfl) B.n_isinstance bt_isinstance (pa_cons (pv 1) (pa_cons (pe_glob (v := .ref C) rfl T.g rfl) pa_nil))) pa_nil))) (pn_lst (pa_cons pe_bl (pa_cons pe_bl pa_nil))) (nomark _)) (pss_one (ps_ret pe_bl)) pss_nil)
    (pss_one (ps_ret (pe_cmpR op_eq (pe_callB (call_repr hgu hu64) (by rfl) B.n_repr bt_repr (pa_cons (pn_lst (pa_cons (pe_fld (pv 1) rfl) (pa_cons (pe_fld (pv 1) rfl) pa_nil))) pa_nil)) (pe_callB (call_repr hgu hu64) (by rfl) B.n_repr bt_repr (pa_cons (pn_lst (pa_cons (pe_callTy cn_tuple (by rfl) B.n_tuple bt_tuple (pa_cons (pe_callB (Qs.call_sortX rfl) (by rfl) B.n_sorted bt_sorted (pa_cons (pe_callTy (Qs.call_setX rfl) (by rfl) B.n_set bt_set (pa_cons (pv 2) pa_nil)) pa_nil)) pa_nil)) (pa_cons (pe_callTy cn_tuple (by rfl) B.n_tuple bt_tuple (pa_cons (pe_callB (Qs.call_sortX rfl) (by rfl) B.n_sorted bt_sorted (pa_cons (pe_callTy (Qs.call_setX rfl) (by rfl) B.n_set bt_set (pa_cons (pv 3) pa_nil)) pa_nil)) pa_nil)) pa_nil))) pa_nil)) (nomark _))))))))), ?_⟩
    have sz : ∀ {n : Nat}, n ≤ 1000 → n ≤ sizeLine := fun h => big_line (by omega)
    obtain ⟨okr1, okr2⟩ := okr
    obtain ⟨okl1, okl2⟩ := okl
    -- list(left) + row
    refine ⟨_, rfl, al, _, rfl, .inl (SqL.of hleft), fun l1 G1 n1 s1 e1 => ?_⟩
    have l1p := P0.ne n1
    refine ⟨_, rfl, l1, ar, _, _, rfl, rfl, e1, s1 _ _ hrow, sz (by rw [List.length_map, List.length_map]; omega), fun l2 G2 n2 s2 e2 => ?_⟩
    have P2 := (P0.same s1).same s2
    have l2p := (P0.same s1).ne n2
    refine ⟨12, rfl, by decide, by decide, fun D hD => ?_⟩
    have Dp := P2.ne hD
    have Dl := P2.nel hD
    refine lc_range (fun i G' => ∃ ys : List Str, G' D = some (.lst (ys.map V.str)) ∧ ys.length = i ∧ (∀ y ∈ ys, lettersS y 10 = true) ∧ Kp p G2 G' ∧ Pen G' p l (c + 12 * i)) ⟨[], upd_same, rfl, (fun y h => nomatch h), Kp.new hD, (P2.new hD).mono (by omega)⟩ ?_ ?_
    · rintro i G3 hi ⟨ys, hl, hn, hw, kp3, P3⟩
      have hi12 : i < 12 := hi
      refine ⟨rfl, _, rfl, p, l, _, 10, rfl, P3, by omega, by decide, by decide, fun y G4 hy kp4 P4 => ?_⟩
      have hl4 := kp4 D _ Dp hl
      refine ⟨_, hl4, by rw [List.length_map]; exact big_line' (by omega), ys ++ [y], ?_, by simp [hn], fun z hz => ?_, (kp3.trans kp4).fresh hD, (P4.upd Dp Dl).mono (by omega)⟩
      · rw [upd_same, List.map_append]
        rfl
      · rcases List.mem_append.mp hz with hz | hz
        · exact hw z hz
        · rw [List.mem_singleton.mp hz]
          exact hy
    · rintro G3 ⟨ys, hl, hn, hw, kp3, P3⟩
      have hn12 : ys.length = 12 := hn
      have K3 : Kp p G G3 := ((Kp.same s1).trans (Kp.same s2)).trans kp3
      refine ⟨l2, D, _, _, rfl, rfl, kp3 _ _ l2p e2, hl, sz (by rw [List.length_append, List.length_map, List.length_map, List.length_map]; omega), fun l3 G4 n4 s4 e4 => ?_⟩
      have e4' : G4 l3 = some (.lst ((left ++ row ++ ys).map V.str)) := by
        rw [e4, List.map_append, List.map_append]
      have K4 : Kp p G G4 := K3.trans (Kp.same s4)
      have P4 : Pen G4 p l (c + 144) := (P3.same s4).mono (by omega)
      have row4 := K4 ar _ arp hrow
      have left4 := K4 al _ alp hleft
      have at4 := at0.kp K4 P0
      clear e4
      have eall : ∃ all : List Str, left ++ row ++ ys = all ∧ all.length ≤ 40 ∧ ∀ y ∈ all, y.length ≤ 10 := by
        refine ⟨_, rfl, by rw [List.length_append, List.length_append]; omega, fun y hy => ?_⟩
        rcases List.mem_append.mp hy with hy | hy
        · rcases List.mem_append.mp hy with hy | hy
          · have := (letters_ok (okl2 y hy)).2.2
            omega
          · have := (letters_ok (okr2 y hy)).2.2
            omega
        · have := (letters_ok (hw y hy)).2.2
          omega
      obtain ⟨all, eall, alln, alll⟩ := eall
      rw [eall] at e4'
      clear hl e2 kp3
      -- the words with as and a before them
      have two : ∀ (b : Str) (H : Hp) (D : Addr), b.length ≤ 2 → H D = none → H ar = some (.lst (row.map V.str)) → ∀ i x H', (row.map V.str)[i]? = some x → (Same H H' ∧ H' D = some (.lst ((row.take i).map fun y => V.str (b ++ y)))) → ∃ y : Str, x = .str y ∧ b.length + y.length ≤ sizeLine ∧ ∃ acc, H' D = some (.lst acc) ∧ acc.length < sizeLine ∧ (Same H (L2.upd H' D (.lst (acc ++ [V.str (b ++ y)]))) ∧ (L2.upd H' D (.lst (acc ++ [V.str (b ++ y)]))) D = some (.lst ((row.take (i + 1)).map fun y => V.str (b ++ y)))) := fun b H D hb hD hr i x H' hi ⟨sm, hl⟩ => by
        obtain ⟨y, hy, rfl⟩ := map_at hi
        have := (letters_ok (okr2 y (List.mem_of_getElem? hy))).2.2
        refine ⟨y, rfl, sz (by omega), _, hl, ?_, Qh.Same.fresh sm hD, ?_⟩
        · rw [List.length_map, List.length_take]
          exact big_line' (by omega)
        · rw [upd_same, take_get hy, List.map_append]
          rfl
      refine ⟨_, rfl, _, rfl, ar, rfl, ⟨_, SqL.of row4⟩, fun D1 hD1 => ?_⟩
      refine lc_list (fun i H' => Same G4 H' ∧ H' D1 = some (.lst ((row.take i).map fun y => V.str (asS ++ y)))) ⟨Qh.Same.new hD1, by rw [upd_same]; rfl⟩ (fun i H _ ⟨sm, _⟩ => SqL.of (sm _ _ row4)) ?_ ?_
      · rintro i x H' hi h
        obtain ⟨y, rfl, hz, acc, h1, h2, h3⟩ := two asS G4 D1 (by decide +kernel) hD1 row4 i x H' hi h
        exact ⟨rfl, _, rfl, asS, y, rfl, rfl, hz, acc, h1, h2, h3⟩
      · rintro G5 ⟨sm5, hl5⟩
        rw [List.length_map, List.take_length] at hl5
        have hl5 : G5 D1 = some (.lst ((row.map fun y => asS ++ y).map V.str)) := by
          rw [hl5, List.map_map]
          rfl
        refine ⟨l3, D1, _, _, rfl, rfl, sm5 _ _ e4', hl5, sz (by rw [List.length_map, List.length_map, List.length_map]; omega), fun l4 G6 n6 s6 e6 => ?_⟩
        have S6 : Same G4 G6 := sm5.trans s6
        have row6 := S6 _ _ row4
        refine ⟨_, rfl, ar, rfl, ⟨_, SqL.of row6⟩, fun D2 hD2 => ?_⟩
        refine lc_list (fun i H' => Same G6 H' ∧ H' D2 = some (.lst ((row.take i).map fun y => V.str (aS ++ y)))) ⟨Qh.Same.new hD2, by rw [upd_same]; rfl⟩ (fun i H _ ⟨sm, _⟩ => SqL.of (sm _ _ row6)) ?_ ?_
        · rintro i x H' hi h
          obtain ⟨y, rfl, hz, acc, h1, h2, h3⟩ := two aS G6 D2 (by decide +kernel) hD2 row6 i x H' hi h
          exact ⟨rfl, _, rfl, aS, y, rfl, rfl, hz, acc, h1, h2, h3⟩
        · rintro G7 ⟨sm7, hl7⟩
          rw [List.length_map, List.take_length] at hl7
          have hl7 : G7 D2 = some (.lst ((row.map fun y => aS ++ y).map V.str)) := by
            rw [hl7, List.map_map]
            rfl
          refine ⟨l4, D2, _, _, rfl, rfl, sm7 _ _ e6, hl7, sz (by simp only [List.length_append, List.length_map]; omega), fun l5 G8 n8 s8 e8 => ?_⟩
          have S8 : Same G4 G8 := (S6.trans sm7).trans s8
          have e8' : G8 l5 = some (.lst ((all ++ (row.map fun y => asS ++ y) ++ row.map fun y => aS ++ y).map V.str)) := by
            rw [e8, List.map_append, List.map_append]
          have eA : ∃ A : List Str, all ++ (row.map fun y => asS ++ y) ++ (row.map fun y => aS ++ y) = A ∧ ∀ y ∈ A, y.length ≤ 1000 := by
            have pre : ∀ b : Str, b.length ≤ 2 → ∀ y ∈ row.map (fun y => b ++ y), y.length ≤ 1000 := fun b hb y hy => by
              obtain ⟨z, hz, rfl⟩ := List.mem_map.mp hy
              have := (letters_ok (okr2 z hz)).2.2
              have e : (b ++ z).length = b.length + z.length := by rw [len_tl, tl_append, List.length_append, ← len_tl, ← len_tl]
              omega
            refine ⟨_, rfl, fun y hy => ?_⟩
            rcases List.mem_append.mp hy with hy | hy
            · rcases List.mem_append.mp hy with hy | hy
              · have := alll y hy
                omega
              · exact pre asS (by decide +kernel) y hy
            · exact pre aS (by decide +kernel) y hy
          obtain ⟨A, eA, hA⟩ := eA
          rw [eA] at e8'
          clear e8 hl7 e6 hl5 two
          have K8 : Kp p G G8 := K4.trans (Kp.same S8)
          have P8 := P4.same S8
          have row8 := S8 _ _ row4
          have left8 := S8 _ _ left4
          have at8 := at4.same S8
          clear S8 s8 sm7 S6 s6 sm5
          have hres : ∀ x : Str, resS ss kk x = dueS row left x := fun x => res_due (Qs.asc_mem asc1) (Qs.asc_mem asc2) fun e he => (letters_ok (okr2 e he)).2.1
          have ssn : ss.length ≤ 1000 := by
            have := Qs.asc_len asc1
            omega
          have ssl : ∀ e ∈ ss, 1 ≤ e.length ∧ e.length ≤ 1000 := fun e he => by
            have := (letters_ok (okr2 e ((Qs.asc_mem asc1 e).mp he))).2
            omega
          refine ⟨_, rfl, l5, rfl, ⟨_, SqL.of e8'⟩, for_it walk_list (fun i σ' G' => ∃ o7, σ' = [some (.ref p), some (.ref m), some (.ref ar), some (.ref al), some (.ref l5), none, none, o7] ∧ Same G8 G') ⟨none, rfl, Same.refl G8⟩ (fun i σ' G' _ ⟨_, _, sm⟩ => SqL.of (sm _ _ e8')) ?_ ?_⟩
          · rintro i v σ1 G9 G9' hi ⟨o7, rfl, sm9⟩ ⟨rfl, hv⟩
            obtain ⟨x, hx, rfl⟩ := map_at hv
            have hxl := hA x (List.mem_of_getElem? hx)
            obtain ⟨dx, D1', D2', _, _, i1, i2, i3, _⟩ := at8.same sm9
            have no : (!decide (V.str (resS ss kk x) = V.str (dueS row left x))) = false := by
              rw [hres x, decide_eq_true rfl]
              rfl
            have no2 : (!decide (V.str (resS ss kk x) = V.str (resS ss kk x))) = false := by
              rw [decide_eq_true rfl]
              rfl
            refine ⟨_, rfl, m, dx, _, rfl, i1, rfl, _, rfl, m, ss, kk, .str x, rfl, at8.same sm9, ssn, ssl, .inr ⟨x, rfl, hxl, fun G10 s10 => ?_⟩⟩
            refine ⟨_, rfl, _, rfl, _, rfl, ar, al, row, left, x, rfl, s10.seq (sm9.seq (SqL.of row8)), s10.seq (sm9.seq (SqL.of left8)), hxl, fun G11 s11 => ⟨rfl, _, rfl, ?_⟩⟩
            refine iteE' no ?_
            have s89 := (sm9.trans s10).trans s11
            obtain ⟨dx2, D3, D4, _, _, j1, j2, j3, _⟩ := at8.same s89
            refine ⟨_, rfl, m, dx2, _, rfl, j1, rfl, _, rfl, m, ss, kk, .str x, rfl, at8.same s89, ssn, ssl, .inr ⟨x, rfl, hxl, fun G12 s12 => ?_⟩⟩
            have s82 := s89.trans s12
            obtain ⟨dx3, D5, D6, _, _, k1, k2, k3, _⟩ := at8.same s82
            refine ⟨_, rfl, m, dx3, _, rfl, k1, rfl, _, rfl, m, ss, kk, .str x, rfl, at8.same s82, ssn, ssl, .inr ⟨x, rfl, hxl, fun G13 s13 => ⟨rfl, _, rfl, ?_⟩⟩⟩
            refine iteE' no2 ?_
            exact ⟨_, rfl, s82.trans s13⟩
          · rintro σ1 G9 ⟨o7, rfl, sm9⟩
            have star_ok : resS ss kk (Str.ofString "*") = Str.ofString "*" := by
              rw [hres]
              have h1 : Str.ofString "*" ∉ left := fun h => by
                have := okl2 _ h
                revert this
                decide +kernel
              have h2 : (Str.ofString "*").length - 2 = 0 := by decide +kernel
              unfold dueS
              rw [if_neg h1, h2]
              rfl
            have no : (!decide (V.str (resS ss kk (Str.ofString "*")) = V.str (Str.ofString "*"))) = false := by
              rw [star_ok, decide_eq_true rfl]
              rfl
            obtain ⟨dx, D3, D4, _, _, j1, j2, j3, _⟩ := at8.same sm9
            refine ⟨_, rfl, m, dx, _, rfl, j1, rfl, m, ss, kk, .str (Str.ofString "*"), rfl, at8.same sm9, ssn, ssl, .inr ⟨_, rfl, by decide +kernel, fun G10 s10 => ⟨rfl, _, rfl, ?_⟩⟩⟩
            refine iteE' no ?_
            have s80 := sm9.trans s10
            obtain ⟨dx2, D5, D6, _, _, k1, k2, k3, _⟩ := at8.same s80
            refine ⟨_, rfl, m, dx2, _, rfl, k1, rfl, m, ss, kk, .non, rfl, at8.same s80, ssn, ssl, .inl ⟨rfl, rfl, _, rfl, ?_⟩⟩
            refine iteE' (by decide) ?_
            refine ⟨_, rfl, _, _, _, _, _, rfl, .own CS, M.I.ty k1, M.kS, _, rfl, _, _, _, _, _, rfl, .own C, M.I.ty k1, M.kC, by show 2 ≤ sizeLine; decide, fun q1 G11 n11 s11 l11 => ?_⟩
            refine ⟨by show 2 ≤ sizeLine; decide, fun q2 G12 n12 s12 l12 => ?_⟩
            refine ⟨.list [.bool true, .bool true], .list [.bool true, .bool true], .lst (SqL.of (s12 _ _ l11)) (.cons (.bl _) (.cons (.bl _) .nil)), .lst (SqL.of l12) (.cons (.bl _) (.cons (.bl _) .nil)), by decide +kernel, by decide +kernel, _, rfl, ?_⟩
            refine iteE' (by decide +kernel) ?_
            have s83 := (s80.trans s11).trans s12
            obtain ⟨dx3, D7, D8, _, _, i1, i2, i3, _⟩ := at8.same s83
            have w1 : okWs ss := ⟨by have := Qs.asc_len asc1; omega, fun e he => by
              have := letters_ok (okr2 e ((Qs.asc_mem asc1 e).mp he))
              exact ⟨this.1, by omega⟩⟩
            have w2 : okWs kk := ⟨by have := Qs.asc_len asc2; omega, fun e he => by
              have := letters_ok (okl2 e ((Qs.asc_mem asc2 e).mp he))
              exact ⟨this.1, by omega⟩⟩
            obtain ⟨sh, nd, de, le⟩ := twoT_ok w1 w2
            refine ⟨_, rfl, m, C, dx3, _, _, rfl, i1, T.cl, T.n1, rfl, _, rfl, m, C, dx3, _, _, rfl, i1, T.cl, T.n2, rfl, by show 2 ≤ sizeLine; decide, fun q3 G13 n13 s13 l13 => ?_⟩
            refine ⟨q3, twoT ss kk, rfl, .lst (SqL.of l13) (.cons (.tup (SqT.of (s13 _ _ i2)) (dp_strs ss)) (.cons (.tup (SqT.of (s13 _ _ i3)) (dp_strs kk)) .nil)), sh, nd, de, le, ?_⟩
            have s84 := s83.trans s13
            have m1 := Qs.met_len row row.length
            have m2 := Qs.met_len left left.length
            refine ⟨_, rfl, ar, row, rfl, .inl (s84.seq (SqL.of row8)), by unfold scanBound; omega, fun b1 H1 nb1 sb1 lb1 => ?_⟩
            refine ⟨b1, _, rfl, lb1, by omega, fun ss' b2 H2 pm1 so1 nb2 sb2 lb2 => ?_⟩
            refine ⟨b2, _, rfl, SqL.of lb2, fun a1 G14 n14 sb3 l14 => ?_⟩
            have s85 := ((s84.trans sb1).trans sb2).trans sb3
            have asc1' : Qs.Asc row ss' := ⟨pm1, so1⟩
            refine ⟨_, rfl, al, left, rfl, .inl (s85.seq (SqL.of left8)), by unfold scanBound; omega, fun b4 H4 nb4 sb4 lb4 => ?_⟩
            refine ⟨b4, _, rfl, lb4, by omega, fun kk' b5 H5 pm2 so2 nb5 sb5 lb5 => ?_⟩
            refine ⟨b5, _, rfl, SqL.of lb5, fun a2 G15 n15 sb6 l15 => ?_⟩
            have s15 := (sb4.trans sb5).trans sb6
            have asc2' : Qs.Asc left kk' := ⟨pm2, so2⟩
            have e1 : ss' = ss := Qs.asc_one asc1' asc1 fun _ => Iff.rfl
            have e2 : kk' = kk := Qs.asc_one asc2' asc2 fun _ => Iff.rfl
            rw [e1] at l14
            rw [e2] at l15
            refine ⟨by show 2 ≤ sizeLine; decide, fun q4 G16 n16 s16 l16 => ?_⟩
            refine ⟨q4, twoT ss kk, rfl, .lst (SqL.of l16) (.cons (.tup (SqT.of (s16 _ _ (s15 _ _ l14))) (dp_strs ss)) (.cons (.tup (SqT.of (s16 _ _ l15)) (dp_strs kk)) .nil)), sh, nd, de, le, rfl, ?_⟩
            have fin := k G16 (K8.trans (Kp.same ((s85.trans s15).trans s16))) (P8.same ((s85.trans s15).trans s16))
            rw [← show decide (V.str (twoT ss kk).shown = V.str (twoT ss kk).shown) = true from decide_eq_true rfl] at fin
            exact fin
end
end K05
set_option Elab.async false
set_option linter.all false
set_option maxRecDepth 100000
set_option maxHeartbeats 8000000
namespace K05
open PySem PySem.Spec PyProof.Rows L2 TL Qh Qi Ql ClX
abbrev sRefused : Stmt := top 27
theorem cut_take (xs : List V) (n : Nat) : cutV xs none (some (n : Int)) = xs.take n := by
  unfold cutV
  rw [HT.sIx_none, HT.sIx_nat, List.drop_zero, Nat.sub_zero]
  by_cases h : n ≤ xs.length
  · rw [Nat.min_eq_left h]
  · rw [Nat.min_eq_right (by omega), List.take_of_length_le (Nat.le_refl _), List.take_of_length_le (by omega)]
theorem cut_drop (xs : List V) (n : Nat) : cutV xs (some (n : Int)) none = xs.drop n := by
  unfold cutV
  rw [HT.sIx_nat]
  by_cases h : n ≤ xs.length
  · rw [Nat.min_eq_left h]
    exact List.take_of_length_le (by rw [List.length_drop]; exact Nat.le_refl _)
  · rw [Nat.min_eq_right (by omega), List.drop_eq_nil_of_le (Nat.le_refl _), List.drop_eq_nil_of_le (by omega), List.take_nil]
/-- {'k': a number} -/
def nDictI (k : Str) (v : Int) : TE := fun _ G Q => ∀ p G', G p = none → Same G G' → G' p = some (.dK [(.inr k, .int v)]) → Q (.ref p) G'
theorem pn_dictI {X : Cx} {pos : Pos} {k : Str} {v : Int} {j1 j2 : Nat} {p1 p2 : Pos} : PE X (.Dict [some (.Constant (.str k) j1 p1)] [.Constant (.int v) j2 p2] pos) (nDictI k v) := by
  refine pe_imp (pe_disp (pps_cons pe_str pe_int pps_nil) rfl rfl (by simp) (by show 1 ≤ 15; decide)) fun σ G Q q p hp => ?_
  refine ⟨upd_same, [(.inr k, .int v)], rfl, by show 1 ≤ 15; decide, ?_⟩
  rw [upd_upd]
  exact q p _ hp (Qh.Same.new hp) upd_same
/-- no ending -/
def OddE (G : Hp) (p : Addr) (v : V) : Prop := (∃ x, v = .str x ∧ x.length ≤ 1000 ∧ lettersS x 4 = false) ∨ v = .non ∨ (∃ b, v = .bl b) ∨ (∃ i, v = .int i) ∨ ∃ a o, v = .ref a ∧ a ≠ p ∧ G a = some o ∧ ((∃ xs, o = .lst xs) ∨ (∃ xs, o = .tup xs))
theorem OddE.kp {G G' : Hp} {p : Addr} {v : V} (h : OddE G p v) (k : Kp p G G') : OddE G' p v := by
  rcases h with h | h | h | h | ⟨a, o, e, n, ha, h⟩
  · exact .inl h
  · exact .inr (.inl h)
  · exact .inr (.inr (.inl h))
  · exact .inr (.inr (.inr (.inl h)))
  · exact .inr (.inr (.inr (.inr ⟨a, o, e, n, k a o n ha, h⟩)))
theorem OddE.no {G : Hp} {p : Addr} {v : V} (h : OddE G p v) : endingV v = false := by
  rcases h with ⟨x, rfl, _, h⟩ | rfl | ⟨b, rfl⟩ | ⟨i, rfl⟩ | ⟨a, o, rfl, _⟩
  · exact h
  · rfl
  · rfl
  · rfl
  · rfl
theorem OddE.known {K : PySem.W.Frag} {G : Hp} {p : Addr} {v : V} (h : OddE G p v) : Known K G v := by
  rcases h with ⟨x, e, h1, _⟩ | rfl | ⟨b, rfl⟩ | ⟨i, rfl⟩ | ⟨a, o, rfl, n, ha, ⟨xs, rfl⟩ | ⟨xs, rfl⟩⟩
  · exact .inl ⟨x, e, by omega⟩
  · exact .inr ⟨(fun x e => nomatch e), _, .base .non, kit_ty (by decide +kernel)⟩
  · exact .inr ⟨(fun x e => nomatch e), _, .base (.bl b), kit_ty (by decide +kernel)⟩
  · exact .inr ⟨(fun x e => nomatch e), _, .base (.int i), kit_ty (by decide +kernel)⟩
  · exact .inr ⟨(fun x e => nomatch e), _, .base (.lst ha), kit_ty (by decide +kernel)⟩
  · exact .inr ⟨(fun x e => nomatch e), _, .base (.tup ha), kit_ty (by decide +kernel)⟩
/-- not to be kept -/
def FarV (K : PySem.W.Frag) (G : Hp) (p : Addr) (v : V) : Prop := ∃ ko, keepOk ko = false ∧ ∀ G', Kp p G G' → KeepAt K G' v ko
theorem FarV.kp {K : PySem.W.Frag} {G G' : Hp} {p : Addr} {v : V} (h : FarV K G p v) (k : Kp p G G') : FarV K G' p v := by
  obtain ⟨ko, h1, h2⟩ := h
  exact ⟨ko, h1, fun G2 k2 => h2 G2 (k.trans k2)⟩
theorem kit_no {K : PySem.W.Frag} {t : String} (h1 : kitB t "list" = some false) (h2 : kitB t "tuple" = some false) : PySem.W.kitAny K (.type t) seqTys = some false :=
  kitAny_cons (kit_ty h1) (fun _ => kitAny_cons (kit_ty h2) (fun _ => kitAny_nil) fun z => nomatch z) fun z => nomatch z
theorem far_plain {K : PySem.W.Frag} {G : Hp} {p : Addr} {v : V} {t : String} (h : ∀ G', TyX K G' v (.type t)) (h1 : kitB t "list" = some false) (h2 : kitB t "tuple" = some false) : FarV K G p v := ⟨none, rfl, fun G' _ => ⟨_, h G', kit_no h1 h2⟩⟩
theorem known_str {K : PySem.W.Frag} {G : Hp} {x : Str} (h : x.length ≤ 1000) : Known K G (.str x) := .inl ⟨x, rfl, by omega⟩
theorem known_non {K : PySem.W.Frag} {G : Hp} : Known K G .non := .inr ⟨(fun x e => nomatch e), _, .base .non, kit_ty (by decide +kernel)⟩
theorem far_seq {K : PySem.W.Frag} {G : Hp} {p a : Addr} {xs : List V} (ha : G a = some (.lst xs) ∨ G a = some (.tup xs)) (n : a ≠ p) (few : xs.length ≤ 1000) (kn : ∀ v ∈ xs, ∀ G', Known K G' v) (no : keepOk (some xs) = false) : FarV K G p (.ref a) :=
  ⟨some xs, no, fun G' k => ⟨a, rfl, ha.elim (fun h => .inl (SqL.of (k _ _ n h))) fun h => .inr (SqT.of (k _ _ n h)), few, fun v hv G2 _ => kn v hv G2⟩⟩
theorem far_dict {K : PySem.W.Frag} {G : Hp} {p a : Addr} {kvs : List (Key × V)} (ha : G a = some (.dK kvs)) (n : a ≠ p) : FarV K G p (.ref a) :=
  ⟨none, rfl, fun G' k => ⟨_, .base (.dK (k _ _ n ha)), kit_no (by decide +kernel) (by decide +kernel)⟩⟩
theorem row_len {xs : List V} (h1 : 1 ≤ xs.length) (h2 : xs.length ≤ 8) : (decide ((1 : Int) ≤ (xs.length : Int)) && decide ((xs.length : Int) ≤ 8)) = true := by
  rw [decide_eq_true (by omega), decide_eq_true (by omega)]
  rfl
theorem due_odd {row : List Str} {v : V} {n : Nat} {ko : Option (List V)} (h : okRow row) (hn : n < row.length) (hv : endingV v = false) : dueX ((row.map V.str).take n ++ [v] ++ (row.map V.str).drop (n + 1)) ko = some (Str.ofString "ending", some n) := by
  have hl : ((row.map V.str).take n ++ [v] ++ (row.map V.str).drop (n + 1)).length = row.length := by
    simp only [List.length_append, List.length_take, List.length_drop, List.length_map, List.length_singleton]
    omega
  have tl : ((row.map V.str).take n).length = n := by
    rw [List.length_take, List.length_map]
    omega
  have h8 := h.1
  have e1 : ((row.map V.str).take n ++ [v] ++ (row.map V.str).drop (n + 1))[n]? = some v := by
    rw [List.append_assoc, List.getElem?_append_right (by omega), tl, Nat.sub_self]
    rfl
  unfold dueX
  rw [if_pos (row_len (by omega) (by omega)), findIdx_some e1 (by rw [hv]; rfl) fun j w hj hw => ?_]
  rw [List.append_assoc, List.getElem?_append_left (by omega), List.getElem?_take_of_lt hj] at hw
  obtain ⟨y, hy, rfl⟩ := map_at hw
  rw [show endingV (.str y) = true from h.2 y (List.mem_of_getElem? hy)]
  rfl
theorem due_keep {row : List Str} {ko : Option (List V)} (h : okRow row) (h1 : 1 ≤ row.length) (hk : keepOk ko = false) : dueX (row.map V.str) ko = some (Str.ofString "keep", none) := by
  have h8 := h.1
  unfold dueX
  rw [if_pos (row_len (by rw [List.length_map]; omega) (by rw [List.length_map]; omega)), findIdx_none fun j w hw => ?_, hk]
  · rfl
  · obtain ⟨y, hy, rfl⟩ := map_at hw
    rw [show endingV (.str y) = true from h.2 y (List.mem_of_getElem? hy)]
    rfl
theorem due_none {row left : List Str} (h : okRow row) (h1 : 1 ≤ row.length) (hl : okLeft left) : dueX (row.map V.str) (some (left.map V.str)) = none := by
  have h8 := h.1
  have hk : keepOk (some (left.map V.str)) = true := by
    show (decide ((left.map V.str).length ≤ 20) && (left.map V.str).all wordV) = true
    rw [List.length_map, decide_eq_true hl.1, List.all_map, Bool.true_and]
    refine List.all_eq_true.mpr fun e he => ?_
    show lettersS e 10 = true
    have h6 := hl.2 e he
    have hb := (letters_ok h6).2
    unfold lettersS at h6 ⊢
    rw [(Bool.and_eq_true_iff.mp h6).2, decide_eq_true (show (1 : Int) ≤ (e.length : Int) by omega), decide_eq_true (show (e.length : Int) ≤ 10 by omega)]
    rfl
  unfold dueX
  rw [if_pos (row_len (by rw [List.length_map]; omega) (by rw [List.length_map]; omega)), findIdx_none fun j w hw => ?_, hk]
  · rfl
  · obtain ⟨y, hy, rfl⟩ := map_at hw
    rw [show endingV (.str y) = true from h.2 y (List.mem_of_getElem? hy)]
    rfl
theorem due_words {xs : List V} {ko : Option (List V)} (h : xs.length = 0 ∨ xs.length = 9) : dueX xs ko = some (Str.ofString "words", none) := by
  have e : (decide ((1 : Int) ≤ (xs.length : Int)) && decide ((xs.length : Int) ≤ 8)) = false := by
    rcases h with h | h
    · rw [decide_eq_false (show ¬ (1 : Int) ≤ (xs.length : Int) by omega)]
      rfl
    · rw [decide_eq_false (show ¬ (xs.length : Int) ≤ 8 by omega), Bool.and_false]
  unfold dueX
  rw [e]
  rfl
def endD (n : Nat) : PyData := .tuple [.str (Str.ofString "ending"), .int (n : Int)]
def keepD : PyData := .tuple [.str (Str.ofString "keep"), .none]
def wordsD : PyData := .tuple [.str (Str.ofString "words"), .none]
def allD (n : Nat) : PyData := .list [endD n, endD n, keepD, wordsD, wordsD, wordsD]
theorem all_shaped (n : Nat) : SeqAt.shaped (allD n) = true := by
  have h : (PyData.canLay0 (.str (Str.ofString "ending")) && (true && true)) = true := by decide +kernel
  have hk : PyData.canLay0 keepD = true := by decide +kernel
  have hw : PyData.canLay0 wordsD = true := by decide +kernel
  show (((PyData.canLay0 (.str (Str.ofString "ending")) && (true && true)) && ((PyData.canLay0 (.str (Str.ofString "ending")) && (true && true)) && (PyData.canLay0 keepD && (PyData.canLay0 wordsD && (PyData.canLay0 wordsD && (PyData.canLay0 wordsD && true)))))) && decide (max (max 0 (max 0 0) + 1) (max (max 0 (max 0 0) + 1) (max (PyData.depth keepD) (max (PyData.depth wordsD) (max (PyData.depth wordsD) (max (PyData.depth wordsD) 0))))) + 1 ≤ 64)) = true
  rw [h, hk, hw]
  decide +kernel
abbrev refN : List Str := ["_law_pen_here", "_law_row", "_law_left", "_law_at", "_law_odd", "_law_some", "_law_far", "_law_told"]
def spRefused : Sp := fun vs G Q _ => ∃ (p l ar al : Addr) (c : Int) (row left : List Str), vs = [.ref p, .ref ar, .ref al] ∧ Pen G p l c ∧ c ≤ 800000 ∧ ar ≠ p ∧ al ≠ p ∧ G ar = some (.lst (row.map V.str)) ∧ G al = some (.lst (left.map V.str)) ∧ okRow row ∧ row.length ∈ [1, 2, 3, 8] ∧ okLeft left ∧
  ∀ G', Kp p G G' → Pen G' p l (c + 3) → Q (.bl true) G'
section
variable {P : Program} {w : World} {K : PySem.W.Frag} {mg : Str → Option Value} {base : Heap}
theorem scRefused : FnScope refN ["_law_pen_here", "_law_row", "_law_left"] (defScope sRefused) := ⟨rfl, rfl, rfl, by decide +kernel, rfl, by decide +kernel, by decide +kernel⟩
set_option maxHeartbeats 16000000 in
theorem ok_refused (D : DefIn K mg "_law_refused_right" sRefused) (B : Blt mg) (F__law_draw : Ok P w K mg base "_law_draw" (defArgs sDraw) ["_law_pen_here", "_law_many"] 1 spDraw)
    (F__law_pick : Ok P w K mg base "_law_pick" (defArgs sPick) ["_law_pen_here", "_law_some"] 2 (spPick K)) (F__law_heard : Ok P w K mg base "_law_heard" (defArgs sHeard) ["_law_row", "_law_left"] 8 (spHeard K)) :
    Ok P w K mg base "_law_refused_right" (defArgs sRefused) ["_law_pen_here", "_law_row", "_law_left"] 9 spRefused := by
  refine D.ok scRefused (fun vs G Q E h => ?_) (fun _ _ _ _ _ _ us hl => match us, hl with | [_, _, _], _ => rfl) (fun f cdv A out t G vs Q E hr h => ?_)
  · obtain ⟨p, l, ar, al, c, row, left, rfl, _⟩ := h
    rfl
  · obtain ⟨p, l, ar, al, c, row, left, rfl, P0, hc, arp, alp, hrow, hleft, okr, hlen, okl, k⟩ := h
    have hu64 := hr.units
    refine ⟨_, (pss_cons (ps_set (i := 3) scRefused.nd rfl (by first | exact Or.inl rfl | exact Or.inr rfl) (pe_own F__law_draw (hr.mono (by decide)) takes0 (pa_cons (pv 0) (pa_cons (pe_callB call_len (by rfl) B.n_len bt_len (pa_cons (pv 1) pa_nil)) pa_nil))))
    (pss_cons (ps_set (i := 4) scRefused.nd rfl (by first | exact Or.inl rfl | exact Or.inr rfl) (pe_own F__law_pick (hr.mono (by decide)) takes0 (pa_cons (pv 0) (pa_cons (pn_lst (pa_cons pe_str (pa_cons pe_str (pa_cons pe_str (pa_cons pe_non (pa_cons pe_int (pa_cons pe_bl (pa_cons (pn_tup (pa_cons pe_str pa_nil)) (pa_cons pe_str (pa_cons pe_str (pa_cons pe_str (pa_cons (pn_lst (pa_cons pe_str pa_nil)) pa_nil)))))))))))) pa_nil))))
    (pss_cons (ps_set (i := 5) scRefused.nd rfl (by first | exact Or.inl rfl | exact Or.inr rfl) (pe_op on_cat (pe_op on_cat (pe_slice sl_list (pv 1) po_none (po_some (pv 3))) (pn_lst (pa_cons (pv 4) pa_nil))) (pe_slice sl_list (pv 1) (po_some (pe_op op_add (pv 3) pe_int)) po_none)))
    (pss_cons (ps_set (i := 6) scRefused.nd rfl (by first | exact Or.inl rfl | exact Or.inr rfl) (pe_own F__law_pick (hr.mono (by decide)) takes0 (pa_cons (pv 0) (pa_cons (pn_lst (pa_cons pe_non (pa_cons pe_str (pa_cons pe_int (pa_cons pn_dict (pa_cons (pe_op on_rep (pn_lst (pa_cons pe_str pa_nil)) pe_int) (pa_cons (pn_lst (pa_cons pe_str (pa_cons pe_str pa_nil))) (pa_cons (pn_tup (pa_cons pe_str (pa_cons pe_non pa_nil))) (pa_cons (pn_lst (pa_cons pe_str pa_nil)) (pa_cons pn_dictI (pa_cons pe_bl pa_nil))))))))))) pa_nil))))
    (pss_cons (ps_set (i := 7) scRefused.nd rfl (by first | exact Or.inl rfl | exact Or.inr rfl) (pn_lst (pa_cons (pe_own F__law_heard (hr.mono (by decide)) takes0 (pa_cons (pv 5) (pa_cons (pv 2) pa_nil))) (pa_cons (pe_own F__law_heard (hr.mono (by decide)) takes0 (pa_cons (pv 5) (pa_cons (pv 6) pa_nil))) (pa_cons (pe_own F__law_heard (hr.mono (by decide)) takes0 (pa_cons (pv 1) (pa_cons (pv 6) pa_nil))) pa_nil)))))
    (pss_cons (ps_set (i := 7) scRefused.nd rfl (by first | exact Or.inl rfl | exact Or.inr rfl) (pe_op on_cat (pv 7) (pn_lst (pa_cons (pe_own F__law_heard (hr.mono (by decide)) takes0 (pa_cons (pn_lst pa_nil) (pa_cons (pv 6) pa_nil))) (pa_cons (pe_own F__law_heard (hr.mono (by decide)) takes0 (pa_cons (pe_slice sl_list (pe_op on_rep (pv 1) pe_int) po_none (po_some pe_int)) (pa_cons (pv 2) pa_nil))) (pa_cons (pe_own F__law_heard (hr.mono (by decide)) takes0 (pa_cons (pe_op on_rep (pn_lst (pa_cons (pv 4) pa_nil)) pe_int) (pa_cons (pv 6) pa_nil))) pa_nil))))))
    (pss_one (ps_ret (pe_cmpR (op_eqD hu64) (pv 7) (pe_op on_cat (pn_lst (pa_cons (pn_tup (pa_cons pe_str (pa_cons (pv 3) pa_nil))) (pa_cons (pn_tup (pa_cons pe_str (pa_cons (pv 3) pa_nil))) (pa_cons (pn_tup (pa_cons pe_str (pa_cons pe_non pa_nil))) pa_nil)))) (pe_op on_rep (pn_lst (pa_cons (pn_tup (pa_cons pe_str (pa_cons pe_non pa_nil))) pa_nil)) pe_int)) (nomark _)))))))))), ?_⟩
    have sz : ∀ {n : Nat}, n ≤ 1000 → n ≤ sizeLine := fun h => big_line (by omega)
    have h8 := okr.1
    have h1 : 1 ≤ row.length := by
      simp only [List.mem_cons, List.not_mem_nil, or_false] at hlen
      omega
    refine ⟨_, rfl, _, rfl, .ref ar, _, rfl, .inl ⟨_, SqL.of hrow, rfl⟩, p, l, c, (row.length : Int), by rw [List.length_map], P0, by omega, by omega, by omega, fun d G1 d0 d1 kp1 P1 => ?_⟩
    obtain ⟨n, rfl⟩ : ∃ n : Nat, d = (n : Int) := ⟨d.toNat, by omega⟩
    have hn : n < row.length := by omega
    -- the odd one
    refine ⟨_, rfl, by show 1 ≤ sizeLine; decide, fun t1 G2 n2 s2 l2 => ?_⟩
    refine ⟨by show 1 ≤ sizeLine; decide, fun t2 G3 n3 s3 l3 => ?_⟩
    refine ⟨by show 11 ≤ sizeLine; decide, fun m1 G4 n4 s4 l4 => ?_⟩
    have S4 := (s2.trans s3).trans s4
    have P4 := P1.same S4
    have t1p := P1.ne n2
    have t2p := (P1.same s2).ne n3
    have m1p := ((P1.same s2).same s3).ne n4
    refine ⟨p, l, m1, c + 1, _, rfl, P4, by omega, m1p, SqL.of l4, by show 0 < 11; decide, by show 11 ≤ 1000000; decide, fun v G5 hv kp5 P5 => ?_⟩
    have hodd : OddE G5 p v := by
      have oS : ∀ x : Str, (decide (x.length ≤ 1000) && !lettersS x 4) = true → OddE G5 p (.str x) := fun x h => by
        obtain ⟨a, b⟩ := Bool.and_eq_true_iff.mp h
        exact .inl ⟨x, rfl, of_decide_eq_true a, by simpa using b⟩
      have g1 := kp5 _ _ t1p (s4 _ _ (s3 _ _ l2))
      have g2 := kp5 _ _ t2p (s4 _ _ l3)
      simp only [List.mem_cons, List.not_mem_nil, or_false] at hv
      rcases hv with rfl | rfl | rfl | rfl | rfl | rfl | rfl | rfl | rfl | rfl | rfl
      · exact oS _ (by decide +kernel)
      · exact oS _ (by decide +kernel)
      · exact oS _ (by decide +kernel)
      · exact .inr (.inl rfl)
      · exact .inr (.inr (.inr (.inl ⟨_, rfl⟩)))
      · exact .inr (.inr (.inl ⟨_, rfl⟩))
      · exact .inr (.inr (.inr (.inr ⟨t1, _, rfl, t1p, g1, .inr ⟨_, rfl⟩⟩)))
      · exact oS _ (by decide +kernel)
      · exact oS _ (by decide +kernel)
      · exact oS _ (by decide +kernel)
      · exact .inr (.inr (.inr (.inr ⟨t2, _, rfl, t2p, g2, .inl ⟨_, rfl⟩⟩)))
    have hno := hodd.no
    clear hv l4
    have K5 : Kp p G G5 := (kp1.trans (Kp.same S4)).trans kp5
    have row5 := K5 _ _ arp hrow
    have left5 := K5 _ _ alp hleft
    clear S4 s4 s3 s2 l2 l3
    -- the row with the odd one
    refine ⟨_, rfl, _, rfl, _, rfl, ar, _, rfl, SqL.of row5, fun a1 n6 => ?_⟩
    rw [cut_take]
    have s6 : Same G5 (L2.upd G5 a1 (.lst ((row.map V.str).take n))) := Qh.Same.new n6
    have l6 : (L2.upd G5 a1 (.lst ((row.map V.str).take n))) a1 = some (.lst ((row.map V.str).take n)) := upd_same
    generalize L2.upd G5 a1 (.lst ((row.map V.str).take n)) = G6 at s6 l6 ⊢
    refine ⟨_, rfl, by show 1 ≤ sizeLine; decide, fun a2 G7 n7 s7 l7 => ?_⟩
    refine ⟨a1, a2, _, _, rfl, rfl, s7 _ _ l6, l7, sz (by rw [List.length_take, List.length_map, List.length_singleton]; omega), fun a3 G8 n8 s8 l8 => ?_⟩
    have S8 := (s6.trans s7).trans s8
    refine ⟨_, rfl, _, rfl, _, _, rfl, rfl, _, rfl, ar, _, rfl, SqL.of (S8 _ _ row5), fun a4 n9 => ?_⟩
    rw [show ((n : Int) + 1) = ((n + 1 : Nat) : Int) by omega, cut_drop]
    have s9 : Same G8 (L2.upd G8 a4 (.lst ((row.map V.str).drop (n + 1)))) := Qh.Same.new n9
    have l9 : (L2.upd G8 a4 (.lst ((row.map V.str).drop (n + 1)))) a4 = some (.lst ((row.map V.str).drop (n + 1))) := upd_same
    generalize L2.upd G8 a4 (.lst ((row.map V.str).drop (n + 1))) = G9 at s9 l9 ⊢
    refine ⟨a3, a4, _, _, rfl, rfl, s9 _ _ l8, l9, sz (by simp only [List.length_append, List.length_take, List.length_drop, List.length_map, List.length_singleton]; omega), fun a5 G10 n10 s10 l10 => ?_⟩
    have S10 := (S8.trans s9).trans s10
    have hxl : ((row.map V.str).take n ++ [v] ++ (row.map V.str).drop (n + 1)).length = row.length := by
      simp only [List.length_append, List.length_take, List.length_drop, List.length_map, List.length_singleton]
      omega
    have due1 : ∀ ko, dueX ((row.map V.str).take n ++ [v] ++ (row.map V.str).drop (n + 1)) ko = some (Str.ofString "ending", some n) := fun ko => due_odd okr hn hno
    have known1 : ∀ u ∈ (row.map V.str).take n ++ [v] ++ (row.map V.str).drop (n + 1), ∀ G', Kp p G5 G' → Known K G' u := fun u hu G' kk => by
      have st : u ∈ row.map V.str → Known K G' u := fun hm => by
        obtain ⟨y, hy, rfl⟩ := List.mem_map.mp hm
        have := (letters_ok (okr.2 y hy)).2
        exact known_str (by omega)
      rcases List.mem_append.mp hu with hu | hu
      · rcases List.mem_append.mp hu with hu | hu
        · exact st (List.mem_of_mem_take hu)
        · rw [List.mem_singleton.mp hu]
          exact (hodd.kp kk).known
      · exact st (List.mem_of_mem_drop hu)
    generalize (row.map V.str).take n ++ [v] ++ (row.map V.str).drop (n + 1) = xs1 at l10 hxl due1 known1
    have P10 := P5.same S10
    have K10 : Kp p G5 G10 := Kp.same S10
    have a5p : a5 ≠ p := by
      have : Pen G9 p l (c + 1 + 1) := P5.same (S8.trans s9)
      exact this.ne n10
    clear S8 s6 s7 s8 s9 l6 l7 l8 l9
    -- what is not to be kept
    refine ⟨_, rfl, fun f1 H1 u1 v1 w1 => ?_⟩
    refine ⟨by show 1 ≤ sizeLine; decide, fun f2 H2 u2 v2 w2 => ?_⟩
    refine ⟨f2, 21, _, rfl, rfl, w2, by decide, by decide, by show 1 * 21 ≤ sizeLine; decide, fun f3 H3 u3 v3 w3 => ?_⟩
    refine ⟨by show 2 ≤ sizeLine; decide, fun f4 H4 u4 v4 w4 => ?_⟩
    refine ⟨by show 2 ≤ sizeLine; decide, fun f5 H5 u5 v5 w5 => ?_⟩
    refine ⟨by show 1 ≤ sizeLine; decide, fun f6 H6 u6 v6 w6 => ?_⟩
    refine fun f7 H7 u7 v7 w7 => ?_
    refine ⟨by show 10 ≤ sizeLine; decide, fun m2 H8 u8 v8 w8 => ?_⟩
    have Q1 := P10.same v1
    have Q2 := Q1.same v2
    have Q3 := Q2.same v3
    have Q4 := Q3.same v4
    have Q5 := Q4.same v5
    have Q6 := Q5.same v6
    have Q7 := Q6.same v7
    have Q8 := Q7.same v8
    refine ⟨p, l, m2, c + 1 + 1, _, rfl, Q8, by omega, Q7.ne u8, SqL.of w8, by show 0 < 10; decide, by show 10 ≤ 1000000; decide, fun fv H9 hfv kp9 P9 => ?_⟩
    have e8 := v8
    have e7 := v7.trans e8
    have e6 := v6.trans e7
    have e5 := v5.trans e6
    have e4 := v4.trans e5
    have e3 := v3.trans e4
    have e2 := v2.trans e3
    have hfar : FarV K H9 p fv := by
      have kS : ∀ {xs : List V}, xs.all (fun u => match u with | .str x => decide (x.length ≤ 1000) | .non => true | _ => false) = true → ∀ u ∈ xs, ∀ G' : Hp, Known K G' u := fun h u hu G' => by
        have := List.all_eq_true.mp h u hu
        cases u with
        | str x => exact known_str (of_decide_eq_true this)
        | non => exact known_non
        | _ => cases this
      simp only [List.mem_cons, List.not_mem_nil, or_false] at hfv
      rcases hfv with rfl | rfl | rfl | rfl | rfl | rfl | rfl | rfl | rfl | rfl
      · exact far_plain (fun _ => .base .non) (by decide +kernel) (by decide +kernel)
      · exact far_plain (fun _ => .base (.str _)) (by decide +kernel) (by decide +kernel)
      · exact far_plain (fun _ => .base (.int _)) (by decide +kernel) (by decide +kernel)
      · exact far_dict (kp9 _ _ (P10.ne u1) (e2 _ _ w1)) (P10.ne u1)
      · exact far_seq (.inl (kp9 _ _ (Q2.ne u3) (e4 _ _ w3))) (Q2.ne u3) (by decide +kernel) (kS (by decide +kernel)) (by decide +kernel)
      · exact far_seq (.inl (kp9 _ _ (Q3.ne u4) (e5 _ _ w4))) (Q3.ne u4) (by decide +kernel) (kS (by decide +kernel)) (by decide +kernel)
      · exact far_seq (.inr (kp9 _ _ (Q4.ne u5) (e6 _ _ w5))) (Q4.ne u5) (by decide +kernel) (kS (by decide +kernel)) (by decide +kernel)
      · exact far_seq (.inl (kp9 _ _ (Q5.ne u6) (e7 _ _ w6))) (Q5.ne u6) (by decide +kernel) (kS (by decide +kernel)) (by decide +kernel)
      · exact far_dict (kp9 _ _ (Q6.ne u7) (e8 _ _ w7)) (Q6.ne u7)
      · exact far_plain (fun _ => .base (.bl _)) (by decide +kernel) (by decide +kernel)
    clear hfv w8
    have K9 : Kp p G10 H9 := (((((((((Kp.same v1).trans (Kp.same v2)).trans (Kp.same v3)).trans (Kp.same v4)).trans (Kp.same v5)).trans (Kp.same v6)).trans (Kp.same v7)).trans (Kp.same v8))).trans kp9
    have K59 : Kp p G5 H9 := K10.trans K9
    have l5 := K9 _ _ a5p l10
    have row9 := K59 _ _ arp row5
    have left9 := K59 _ _ alp left5
    have KG : Kp p G H9 := K5.trans K59
    clear e8 e7 e6 e5 e4 e3 e2 w1 w2 w3 w4 w5 w6 w7 v1 v2 v3 v4 v5 v6 v7 v8 Q1 Q2 Q3 Q4 Q5 Q6 Q7 Q8
    -- what is heard
    have keepL : ∀ G', Same H9 G' → KeepAt K G' (.ref al) (some (left.map V.str)) := fun G' s => ⟨al, rfl, .inl (SqL.of (s _ _ left9)), by rw [List.length_map]; have := okl.1; omega, fun u hu G2 _ => by
      obtain ⟨y, hy, rfl⟩ := List.mem_map.mp hu
      have := (letters_ok (okl.2 y hy)).2
      exact known_str (by omega)⟩
    obtain ⟨ko, hko, keepF⟩ := hfar
    have keepF : ∀ G', Same H9 G' → KeepAt K G' fv ko := fun G' s => keepF G' (Kp.same s)
    have knownR : ∀ u ∈ row.map V.str, ∀ G' : Hp, Known K G' u := fun u hu G' => by
      obtain ⟨y, hy, rfl⟩ := List.mem_map.mp hu
      have := (letters_ok (okr.2 y hy)).2
      exact known_str (by omega)
    have known1 : ∀ u ∈ xs1, ∀ G', Same H9 G' → Known K G' u := fun u hu G' s => known1 u hu G' (K59.trans (Kp.same s))
    have knownV : ∀ G', Same H9 G' → Known K G' v := fun G' s => (hodd.kp (K59.trans (Kp.same s))).known
    have lens : ∀ {xs : List V}, xs.length = row.length → xs.length ∈ rowLens := fun {xs} e => by
      rw [e]
      simp only [List.mem_cons, List.not_mem_nil, or_false] at hlen ⊢
      omega
    clear hodd K10 K9 K59 K5
    refine ⟨_, rfl, _, rfl, a5, xs1, .ref al, some (left.map V.str), rfl, SqL.of l5, lens hxl, known1, keepL, fun e => absurd ((due1 _).symm.trans e) (fun z => nomatch z), fun r i due q1 I1 s1 t1 => ?_⟩
    obtain ⟨rfl, rfl⟩ := Prod.mk.inj (Option.some.inj ((due1 _).symm.trans due))
    refine ⟨_, rfl, _, rfl, a5, xs1, fv, ko, rfl, SqL.of (s1 _ _ l5), lens hxl, fun u hu G' s => known1 u hu G' (s1.trans s), fun G' s => keepF G' (s1.trans s), fun e => absurd ((due1 _).symm.trans e) (fun z => nomatch z), fun r i due q2 I2 s2 t2 => ?_⟩
    obtain ⟨rfl, rfl⟩ := Prod.mk.inj (Option.some.inj ((due1 _).symm.trans due))
    have S2 := s1.trans s2
    have due3 := due_keep (ko := ko) okr h1 hko
    refine ⟨_, rfl, _, rfl, ar, row.map V.str, fv, ko, rfl, SqL.of (S2 _ _ row9), lens (by rw [List.length_map]), fun u hu G' _ => knownR u hu G', fun G' s => keepF G' (S2.trans s), fun e => absurd (due3.symm.trans e) (fun z => nomatch z), fun r i due q3 I3 s3 t3 => ?_⟩
    obtain ⟨rfl, rfl⟩ := Prod.mk.inj (Option.some.inj (due3.symm.trans due))
    have S3 := S2.trans s3
    refine ⟨by show 3 ≤ sizeLine; decide, fun b1 I4 n4 s4 l4 => ?_⟩
    have S4 := S3.trans s4
    -- nothing, nine, nine odd ones
    refine ⟨_, rfl, by show 0 ≤ sizeLine; decide, fun b2 I5 n5 s5 l5' => ?_⟩
    have S5 := S4.trans s5
    have due4 : dueX [] ko = some (Str.ofString "words", none) := due_words (.inl rfl)
    refine ⟨_, rfl, b2, [], fv, ko, rfl, SqL.of l5', by decide, (fun u hu => nomatch hu), fun G' s => keepF G' (S5.trans s), fun e => absurd (due4.symm.trans e) (fun z => nomatch z), fun r i due q4 I6 s6 t4 => ?_⟩
    obtain ⟨rfl, rfl⟩ := Prod.mk.inj (Option.some.inj (due4.symm.trans due))
    have S6 := S5.trans s6
    refine ⟨_, rfl, ar, 9, _, rfl, rfl, S6 _ _ row9, by decide, by decide, sz (by rw [List.length_map]; show row.length * 9 ≤ 1000; omega), fun b3 I7 n7 s7 l7 => ?_⟩
    have S7 := S6.trans s7
    refine ⟨9, rfl, b3, _, rfl, SqL.of l7, fun b4 n8 => ?_⟩
    have cut9 : cutV (List.replicate (Int.toNat 9) (row.map V.str)).flatten none (some 9) = ((List.replicate 9 (row.map V.str)).flatten).take 9 := by
      show cutV (List.replicate 9 (row.map V.str)).flatten none (some ((9 : Nat) : Int)) = _
      rw [cut_take]
    rw [cut9]
    have len9 : (((List.replicate 9 (row.map V.str)).flatten).take 9).length = 9 := by
      rw [List.length_take, List.length_flatten, List.map_replicate, List.sum_replicate_nat, List.length_map]
      omega
    have kn9 : ∀ u ∈ ((List.replicate 9 (row.map V.str)).flatten).take 9, ∀ G' : Hp, Known K G' u := fun u hu G' => by
      obtain ⟨z, hz, hu⟩ := List.mem_flatten.mp (List.mem_of_mem_take hu)
      rw [(List.mem_replicate.mp hz).2] at hu
      exact knownR u hu G'
    have s8 : Same I7 (L2.upd I7 b4 (.lst (((List.replicate 9 (row.map V.str)).flatten).take 9))) := Qh.Same.new n8
    have l8 : (L2.upd I7 b4 (.lst (((List.replicate 9 (row.map V.str)).flatten).take 9))) b4 = some (.lst (((List.replicate 9 (row.map V.str)).flatten).take 9)) := upd_same
    generalize L2.upd I7 b4 (.lst (((List.replicate 9 (row.map V.str)).flatten).take 9)) = I8 at s8 l8 ⊢
    generalize ((List.replicate 9 (row.map V.str)).flatten).take 9 = xs9 at l8 len9 kn9
    have S8 := S7.trans s8
    have due5 : ∀ ko, dueX xs9 ko = some (Str.ofString "words", none) := fun ko => due_words (.inr len9)
    refine ⟨_, rfl, b4, xs9, .ref al, some (left.map V.str), rfl, SqL.of l8, by rw [len9]; decide, fun u hu G' _ => kn9 u hu G', fun G' s => keepL G' (S8.trans s), fun e => absurd ((due5 _).symm.trans e) (fun z => nomatch z), fun r i due q5 I9 s9 t5 => ?_⟩
    obtain ⟨rfl, rfl⟩ := Prod.mk.inj (Option.some.inj ((due5 _).symm.trans due))
    have S9 := S8.trans s9
    refine ⟨_, rfl, by show 1 ≤ sizeLine; decide, fun b5 I10 n10 s10 l10 => ?_⟩
    refine ⟨b5, 9, _, rfl, rfl, l10, by decide, by decide, by show 1 * 9 ≤ sizeLine; decide, fun b6 I11 n11 s11 l11 => ?_⟩
    have S11 := (S9.trans s10).trans s11
    have due6 : dueX (List.replicate 9 v) ko = some (Str.ofString "words", none) := due_words (.inr (List.length_replicate ..))
    have l11' : I11 b6 = some (.lst (List.replicate 9 v)) := l11
    refine ⟨_, rfl, b6, List.replicate 9 v, fv, ko, rfl, SqL.of l11', by rw [List.length_replicate]; decide, fun u hu G' s => by rw [(List.mem_replicate.mp hu).2]; exact knownV G' (S11.trans s), fun G' s => keepF G' (S11.trans s), fun e => absurd (due6.symm.trans e) (fun z => nomatch z), fun r i due q6 I12 s12 t6 => ?_⟩
    obtain ⟨rfl, rfl⟩ := Prod.mk.inj (Option.some.inj (due6.symm.trans due))
    have S12 := S11.trans s12
    refine ⟨by show 3 ≤ sizeLine; decide, fun b7 I13 n13 s13 l13 => ?_⟩
    have s4to13 : Same I4 I13 := (((((((s5.trans s6).trans s7).trans s8).trans s9).trans s10).trans s11).trans s12).trans s13
    refine ⟨b1, b7, _, _, rfl, rfl, s4to13 _ _ l4, l13, by show 3 + 3 ≤ sizeLine; decide, fun b8 I14 n14 s14 l14 => ?_⟩
    -- what is due
    refine ⟨_, rfl, _, rfl, by show 2 ≤ sizeLine; decide, fun d1 J1 m1' r1 z1 => ?_⟩
    refine ⟨_, rfl, by show 2 ≤ sizeLine; decide, fun d2 J2 m2' r2 z2 => ?_⟩
    refine ⟨by show 2 ≤ sizeLine; decide, fun d3 J3 m3' r3 z3 => ?_⟩
    refine ⟨by show 3 ≤ sizeLine; decide, fun d4 J4 m4' r4 z4 => ?_⟩
    refine ⟨by show 2 ≤ sizeLine; decide, fun d5 J5 m5' r5 z5 => ?_⟩
    refine ⟨by show 1 ≤ sizeLine; decide, fun d6 J6 m6' r6 z6 => ?_⟩
    refine ⟨d6, 3, _, rfl, rfl, z6, by decide, by decide, by show 1 * 3 ≤ sizeLine; decide, fun d7 J7 m7' r7 z7 => ?_⟩
    refine ⟨d4, d7, _, _, rfl, rfl, r7 _ _ (r6 _ _ (r5 _ _ z4)), z7, by show 3 + 3 ≤ sizeLine; decide, fun d8 J8 m8' r8 z8 => ?_⟩
    have t14 := s14
    have T8 : Same I14 J8 := ((((((r1.trans r2).trans r3).trans r4).trans r5).trans r6).trans r7).trans r8
    have U13 : Same I13 J8 := s14.trans T8
    have U12 := s13.trans U13
    have U4 := s4to13.trans U13
    have g1 := U4 _ _ (s4 _ _ (s3 _ _ (s2 _ _ t1)))
    have g2 := U4 _ _ (s4 _ _ (s3 _ _ t2))
    have g3 := U4 _ _ (s4 _ _ t3)
    have U6 : Same I6 J8 := ((((((s7.trans s8).trans s9).trans s10).trans s11).trans s12).trans s13).trans U13
    have g4 := U6 _ _ t4
    have U9 : Same I9 J8 := (((s10.trans s11).trans s12).trans s13).trans U13
    have g5 := U9 _ _ t5
    have g6 := U12 _ _ t6
    have h1' : J8 d1 = _ := r8 _ _ (r7 _ _ (r6 _ _ (r5 _ _ (r4 _ _ (r3 _ _ (r2 _ _ z1))))))
    have h2' : J8 d2 = _ := r8 _ _ (r7 _ _ (r6 _ _ (r5 _ _ (r4 _ _ (r3 _ _ z2)))))
    have h3' : J8 d3 = _ := r8 _ _ (r7 _ _ (r6 _ _ (r5 _ _ (r4 _ _ z3))))
    have h5' : J8 d5 = _ := r8 _ _ (r7 _ _ (r6 _ _ z5))
    have dE : ∀ {q : Addr}, J8 q = some (.tup [.str (Str.ofString "ending"), .int (n : Int)]) → Dp K J8 (.ref q) (endD n) := fun h => .tup (SqT.of h) (.cons (.str _) (.cons (.int _) .nil))
    have dK : ∀ {q : Addr}, J8 q = some (.tup [.str (Str.ofString "keep"), .non]) → Dp K J8 (.ref q) keepD := fun h => .tup (SqT.of h) (.cons (.str _) (.cons .non .nil))
    have dW : ∀ {q : Addr}, J8 q = some (.tup [.str (Str.ofString "words"), .non]) → Dp K J8 (.ref q) wordsD := fun h => .tup (SqT.of h) (.cons (.str _) (.cons .non .nil))
    refine ⟨allD n, allD n, .lst (SqL.of (T8 _ _ l14)) (.cons (dE g1) (.cons (dE g2) (.cons (dK g3) (.cons (dW g4) (.cons (dW g5) (.cons (dW g6) .nil)))))), .lst (SqL.of z8) (.cons (dE h1') (.cons (dE h2') (.cons (dK h3') (.cons (dW h5') (.cons (dW h5') (.cons (dW h5') .nil)))))), all_shaped n, all_shaped n, ?_⟩
    have fin := k J8 (KG.trans (Kp.same ((S12.trans s13).trans U13))) ((P9.same ((S12.trans s13).trans U13)).mono (by omega))
    rw [← eqv_same (all_shaped n)] at fin
    exact fin
end
end K05
set_option Elab.async false
set_option linter.all false
set_option maxRecDepth 100000
set_option maxHeartbeats 16000000
namespace K05
open PySem PySem.Spec PyProof.Rows L2 TL Qh Qi Ql ClX
abbrev sLaw : Stmt := top 28
abbrev lawN : List Str := ["_law_script", "_law_pen_here", "_law_turn", "_law_row", "_law_k", "_law_left", "_law_kept", "_law_given", "_law_made", "_law_plain"]
def spLaw (K : PySem.W.Frag) : Sp := fun vs G Q _ => ∃ (a : Addr) (ns : List Int), vs = [.ref a] ∧ SqL K G a (ns.map V.int) ∧ ∀ G', Q (.bl true) G'
theorem iteT' {c : Bool} {A B : Prop} (hc : c = true) (h : A) : if c = true then A else B := by
  subst hc
  exact h
def catD : PyData := .list [.str (Str.ofString "cat"), .str (Str.ofString "es"), .str (Str.ofString "ae")]
theorem strs_inj : ∀ {a b : List Str}, a.map V.str = b.map V.str → a = b
  | [], [], _ => rfl
  | [], _ :: _, h => nomatch h
  | _ :: _, [], h => nomatch h
  | x :: a, y :: b, h => by
    rw [List.map_cons, List.map_cons] at h
    injection h with h1 h2
    injection h1 with h1
    rw [h1, strs_inj h2]
theorem row_ws {row : List Str} (h : okRow row) : okWs row := ⟨by have := h.1; omega, fun e he => by
  have := letters_ok (h.2 e he)
  exact ⟨this.1, by omega⟩⟩
theorem left_ws {left : List Str} (h : okLeft left) : okWs left := ⟨by have := h.1; omega, fun e he => by
  have := letters_ok (h.2 e he)
  exact ⟨this.1, by omega⟩⟩
section
variable {P : Program} {w : World} {K : PySem.W.Frag} {mg : Str → Option Value} {base : Heap}
theorem scLaw : FnScope lawN ["_law_script"] (defScope sLaw) := ⟨rfl, rfl, rfl, by decide +kernel, rfl, by decide +kernel, by decide +kernel⟩
theorem ok_law {C CS CE fI fl Tk : Addr} {fdl : FuncData} (D : Fun K "law" "law" sLaw fl fdl) (B : Blt mg) (M : StemM P w K mg base C CS) (MK : Mk K C fI) (FD : FnR P w K mg base (L2.CX P w) 5 fI (spInitD K C CE Tk)) (hTk : ∀ G, SqT K G Tk [])
    (F__law_pen : Ok P w K mg base "_law_pen" (defArgs sPen) ["_law_script"] 1 (spPen K))
    (F__law_draw : Ok P w K mg base "_law_draw" (defArgs sDraw) ["_law_pen_here", "_law_many"] 1 spDraw)
    (F__law_pick : Ok P w K mg base "_law_pick" (defArgs sPick) ["_law_pen_here", "_law_some"] 2 (spPick K))
    (F__law_string : Ok P w K mg base "_law_string" (defArgs sString) ["_law_pen_here", "_law_most"] 3 spString)
    (F__law_stem : Ok P w K mg base "_law_stem" (defArgs sStem) ["_law_row", "_law_left"] 7 (spStem K C CE))
    (F__law_right : OkG P w K mg base "_law_right" (defArgs sRight) ["_law_pen_here", "_law_made", "_law_row", "_law_left"] 5 (spRight C))
    (F__law_refused_right : Ok P w K mg base "_law_refused_right" (defArgs sRefused) ["_law_pen_here", "_law_row", "_law_left"] 9 spRefused) :
    FnG P w K mg base (L2.CX P w) 10 fl fdl ["_law_script"] (spLaw K) := by
  refine Qh.okG D scLaw (fun vs G Q E h => ?_) (fun cdv A out t G vs Q E gu hr h => ?_)
  · obtain ⟨a, ns, rfl, _⟩ := h
    rfl
  · obtain ⟨a, ns, rfl, hS, k⟩ := h
    have hu64 := hr.units
    have hgu : (A.deeper (envOfC (Str.ofString "law") (defScope sLaw) t.heap.objs.size fl cdv)).guards = some [] := gu
    obtain ⟨fR, fdR, MR, bR, bK, FR⟩ := M.rs
    have T := M.T
    refine ⟨_, (pss_cons (ps_set (i := 1) scLaw.nd rfl (by first | exact Or.inl rfl | exact Or.inr rfl) (pe_own F__law_pen (hr.mono (by decide)) takes0 (pa_cons (pv 0) pa_nil)))
    (pss_cons (ps_for (passes_of rfl) rfl (pi_range1 (by rfl) B.n_range (pa_cons pe_int pa_nil)) (pg_name (i := 2) scLaw.nd rfl (by first | exact Or.inl rfl | exact Or.inr rfl))
      (pss_cons (ps_setLc (i := 3) (own := [("_law_k", 4)]) (tt := tYes) rfl scLaw.nd rfl rfl (sw_true rfl rfl rfl (by decide +kernel)) (pi_range1 (by rfl) B.n_range (pa_cons (pe_ix ix_list (pn_lst (pa_cons pe_int (pa_cons pe_int (pa_cons pe_int (pa_cons pe_int pa_nil))))) (pe_own F__law_draw (hr.mono (by decide)) takes0 (pa_cons (pv 1) (pa_cons pe_int pa_nil))) (fun _ _ => rfl)) pa_nil)) (blkOk_by (N := lawN) (sc := defScope sLaw) (by decide +kernel)) (fun _ _ _ _ _ => pg_name (i := 4) scLaw.nd rfl (by first | exact Or.inl rfl | exact Or.inr rfl)) (fun _ _ _ _ _ => pts_nil) (fun _ _ _ _ _ => (pe_own F__law_string (hr.mono (by decide)) takes0 (pa_cons (pv 1) (pa_cons pe_int pa_nil)))))
    (pss_cons (ps_setLc (i := 5) (own := [("_law_k", 4)]) (tt := tYes) rfl scLaw.nd rfl rfl (sw_true rfl rfl rfl (by decide +kernel)) (pi_range1 (by rfl) B.n_range (pa_cons (pe_ix ix_list (pn_lst (pa_cons pe_int (pa_cons pe_int (pa_cons pe_int (pa_cons pe_int (pa_cons pe_int pa_nil)))))) (pe_own F__law_draw (hr.mono (by decide)) takes0 (pa_cons (pv 1) (pa_cons pe_int pa_nil))) (fun _ _ => rfl)) pa_nil)) (blkOk_by (N := lawN) (sc := defScope sLaw) (by decide +kernel)) (fun _ _ _ _ _ => pg_name (i := 4) scLaw.nd rfl (by first | exact Or.inl rfl | exact Or.inr rfl)) (fun _ _ _ _ _ => pts_nil) (fun _ _ _ _ _ => (pe_own F__law_string (hr.mono (by decide)) takes0 (pa_cons (pv 1) (pa_cons pe_int pa_nil)))))
    (pss_cons (ps_set (i := 6) scLaw.nd rfl (by first | exact Or.inl rfl | exact Or.inr rfl) (pe_callB (call_repr hgu hu64) (by rfl) B.n_repr bt_repr (pa_cons (pn_lst (pa_cons (pv 3) (pa_cons (pv 5) pa_nil))) pa_nil)))
    (pss_cons (ps_set (i := 7) scLaw.nd rfl (by first | exact Or.inl rfl | exact Or.inr rfl) (pe_callTy cn_list (by rfl) B.n_list bt_list (pa_cons (pv 5) pa_nil)))
    (pss_cons (ps_set (i := 8) scLaw.nd rfl (by first | exact Or.inl rfl | exact Or.inr rfl) (pe_own F__law_stem (hr.mono (by decide)) takes0 (pa_cons (pv 3) (pa_cons (pv 7) pa_nil))))
    (pss_cons (ps_expr (pe_bm PySem.F.plainAttrs_list PySem.F.slot_list_append PySem.F.type_list_append mt_append (pv 7) (pa_cons pe_str pa_nil)))
    (pss_cons (ps_expr (pe_bm0 PySem.F.plainAttrs_list PySem.F.slot_list_reverse PySem.F.type_list_reverse mt_reverse (pv 7)))
    (pss_cons (ps_if (pt_not (pt_val (pe_ownG F__law_right hgu (hr.mono (by decide)) (pa_cons (pv 1) (pa_cons (pv 8) (pa_cons (pv 3) (pa_cons (pv 5) pa_nil))))))) (pss_one (ps_ret pe_bl)) pss_nil)
    (pss_cons (ps_set (i := 7) scLaw.nd rfl (by first | exact Or.inl rfl | exact Or.inr rfl) (pe_own F__law_pick (hr.mono (by decide)) takes0 (pa_cons (pv 1) (pa_cons (pn_lst (pa_cons (pv 5) (pa_cons (pe_callTy cn_tuple (by rfl) B.n_tuple bt_tuple (pa_cons (pv 5) pa_nil)) pa_nil))) pa_nil))))
    (pss_cons (ps_if (PW.pt (pw_or (pt_not (pt_val (pe_ownG F__law_right hgu (hr.mono (by decide)) (pa_cons (pv 1) (pa_cons (pe_own F__law_stem (hr.mono (by decide)) takes0 (pa_cons (pv 3) (pa_cons (pv 7) pa_nil))) (pa_cons (pv 3) (pa_cons (pv 5) pa_nil))))))) (pw_or1 (pt_not (pt_val (pe_own F__law_refused_right (hr.mono (by decide)) takes0 (pa_cons (pv 1) (pa_cons (pv 3) (pa_cons (pv 5) pa_nil))))))))) (pss_one (ps_ret pe_bl)) pss_nil)
    (pss_one (ps_if (pt_cmpR op_ne (pe_callB (call_repr hgu hu64) (by rfl) B.n_repr bt_repr (pa_cons (pn_lst (pa_cons (pv 3) (pa_cons (pv 5) pa_nil))) pa_nil)) (pv 6) (nomark _)) (pss_one (ps_ret pe_bl)) pss_nil)))))))))))))
    (pss_cons (ps_set (i := 9) scLaw.nd rfl (by first | exact Or.inl rfl | exact Or.inr rfl) (pn_lst (pa_cons (pe_meth (pe_makeS MK FD (hr.mono (by decide)) takes0 T.g (pa_cons pe_str pa_nil)) M.I.cl MR FR (hr.mono (by decide)) bR .nil passL (pa_cons pe_str pa_nil)) (pa_cons (pe_meth (pe_makeS MK FD (hr.mono (by decide)) takes0 T.g (pa_cons pe_str (pa_cons pe_str pa_nil))) M.I.cl MR FR (hr.mono (by decide)) bR .nil passL (pa_cons pe_str pa_nil)) (pa_cons (pe_meth (pe_makeS MK FD (hr.mono (by decide)) takes0 T.g (pa_cons pe_str (pa_cons pe_str pa_nil))) M.I.cl MR FR (hr.mono (by decide)) bR .nil passL (pa_cons pe_str pa_nil)) pa_nil)))))
    (pss_one (ps_ret (pe_and (pe_cmpR (op_eqD hu64) (pv 9) (pn_lst (pa_cons pe_str (pa_cons pe_str (pa_cons pe_str pa_nil)))) (nomark _)) (pe_and (pe_cmpR op_eq (pe_meth (pe_makeS MK FD (hr.mono (by decide)) takes0 T.g (pa_cons pe_str pa_nil)) M.I.cl MR FR (hr.mono (by decide)) bR .nil passL (pa_cons pe_str pa_nil)) pe_str (nomark _)) (pe_one (pe_cmpR op_eq (pe_cval (pe_glob (v := .ref C) rfl T.g rfl)) pe_int (nomark _)))))))))), ?_⟩
    have sz : ∀ {n : Nat}, n ≤ 1000 → n ≤ sizeLine := fun h => big_line (by omega)
    refine ⟨_, rfl, a, ns, rfl, hS, fun p l G1 hp1 s1 P1 => ?_⟩
    refine ⟨6, rfl, by decide, by decide, ?_⟩
    refine for_range (fun i σ' G' => ∃ (o2 o3 o5 o6 o7 o8 : Option V), σ' = [some (.ref a), some (.ref p), o2, o3, none, o5, o6, o7, o8, none] ∧ Pen G' p l (700 * i)) ⟨_, _, _, _, _, _, rfl, P1.mono (by omega)⟩ ?_ ?_
    · rintro i σ1 G2 hi ⟨o2, o3, o5, o6, o7, o8, rfl, P2⟩
      have hi : i < 6 := hi
      -- the row
      refine ⟨by show 4 ≤ sizeLine; decide, fun q1 G3 n3 s3 l3 => ?_⟩
      have q1p := P2.ne n3
      refine ⟨_, rfl, p, l, _, 4, rfl, P2.same s3, by omega, by decide, by decide, fun d1 G4 d10 d11 kp4 P4 => ?_⟩
      obtain ⟨v1, hv1, _, hm1⟩ := at_lt (xs := [V.int 1, .int 2, .int 3, .int 8]) d1 d10 d11
      obtain ⟨n, rfl, hn⟩ : ∃ n : Nat, v1 = V.int (n : Int) ∧ n ∈ [1, 2, 3, 8] := by
        simp only [List.mem_cons, List.not_mem_nil, or_false] at hm1
        rcases hm1 with rfl | rfl | rfl | rfl
        · exact ⟨1, rfl, by decide⟩
        · exact ⟨2, rfl, by decide⟩
        · exact ⟨3, rfl, by decide⟩
        · exact ⟨8, rfl, by decide⟩
      have hn8 : n ≤ 8 ∧ 1 ≤ n := by
        simp only [List.mem_cons, List.not_mem_nil, or_false] at hn
        omega
      refine ⟨q1, _, d1, _, rfl, rfl, SqL.of (kp4 q1 _ q1p l3), hv1, ?_⟩
      refine ⟨n, rfl, by omega, by omega, fun D1 hD1 => ?_⟩
      have D1p := P4.ne hD1
      have D1l := P4.nel hD1
      refine lc_range (fun j G' => ∃ ts : List Str, G' D1 = some (.lst (ts.map V.str)) ∧ ts.length = j ∧ (∀ x ∈ ts, lettersS x 4 = true) ∧ Pen G' p l (700 * i + 1 + 12 * j)) ⟨[], upd_same, rfl, (fun y h => nomatch h), (P4.new hD1).mono (by omega)⟩ ?_ ?_
      · rintro j G5 hj ⟨ts, hl, hnt, hok, P5⟩
        have hj8 : j < 8 := by omega
        refine ⟨rfl, ?_⟩
        refine ⟨_, rfl, p, l, _, 4, rfl, P5, by omega, by decide, by decide, fun x G6 hx kp6 P6 => ?_⟩
        refine ⟨_, kp6 D1 _ D1p hl, by rw [List.length_map]; exact big_line' (by omega), ts ++ [x], ?_, by simp [hnt], fun z hz => ?_, (P6.upd D1p D1l).mono (by omega)⟩
        · rw [upd_same, List.map_append]
          rfl
        · rcases List.mem_append.mp hz with hz | hz
          · exact hok z hz
          · rw [List.mem_singleton.mp hz]
            exact hx
      rintro G5 ⟨row, hrow, hnrow, hok, P5⟩
      have hnrow : row.length = n := by
        rw [hnrow]
        rfl
      have okr : okRow row := ⟨by omega, hok⟩
      -- the words left
      refine ⟨by show 5 ≤ sizeLine; decide, fun q2 G6 n6 s6 l6 => ?_⟩
      have q2p := P5.ne n6
      refine ⟨_, rfl, p, l, _, 5, rfl, P5.same s6, by omega, by decide, by decide, fun d2 G7 d20 d21 kp7 P7 => ?_⟩
      obtain ⟨v2, hv2, _, hm2⟩ := at_lt (xs := [V.int 0, .int 0, .int 1, .int 3, .int 20]) d2 d20 d21
      obtain ⟨n2, rfl, hn2⟩ : ∃ n : Nat, v2 = V.int (n : Int) ∧ n ≤ 20 := by
        simp only [List.mem_cons, List.not_mem_nil, or_false] at hm2
        rcases hm2 with rfl | rfl | rfl | rfl | rfl
        · exact ⟨0, rfl, by decide⟩
        · exact ⟨0, rfl, by decide⟩
        · exact ⟨1, rfl, by decide⟩
        · exact ⟨3, rfl, by decide⟩
        · exact ⟨20, rfl, by decide⟩
      refine ⟨q2, _, d2, _, rfl, rfl, SqL.of (kp7 q2 _ q2p l6), hv2, ?_⟩
      have row7 := kp7 D1 _ D1p (s6 _ _ hrow)
      refine ⟨n2, rfl, by omega, by omega, fun D2 hD2 => ?_⟩
      have D2p := P7.ne hD2
      have D2l := P7.nel hD2
      have D12 : D1 ≠ D2 := ne_of_none row7 hD2
      refine lc_range (fun j G' => ∃ ts : List Str, G' D2 = some (.lst (ts.map V.str)) ∧ ts.length = j ∧ (∀ x ∈ ts, lettersS x 6 = true) ∧ G' D1 = some (.lst (row.map V.str)) ∧ Pen G' p l (700 * i + 98 + 12 * j)) ⟨[], upd_same, rfl, (fun y h => nomatch h), by rw [upd_ne D12]; exact row7, (P7.new hD2).mono (by omega)⟩ ?_ ?_
      · rintro j G8 hj ⟨ts, hl, hnt, hok2, hr8, P8⟩
        have hj8 : j < 20 := by omega
        refine ⟨rfl, ?_⟩
        refine ⟨_, rfl, p, l, _, 6, rfl, P8, by omega, by decide, by decide, fun x G9 hx kp9 P9 => ?_⟩
        refine ⟨_, kp9 D2 _ D2p hl, by rw [List.length_map]; exact big_line' (by omega), ts ++ [x], ?_, by simp [hnt], fun z hz => ?_, by rw [upd_ne D12]; exact kp9 D1 _ D1p hr8, (P9.upd D2p D2l).mono (by omega)⟩
        · rw [upd_same, List.map_append]
          rfl
        · rcases List.mem_append.mp hz with hz | hz
          · exact hok2 z hz
          · rw [List.mem_singleton.mp hz]
            exact hx
      rintro G8 ⟨left, hleft, hnleft, hok2, hrow8, P8⟩
      have hnleft : left.length = n2 := by
        rw [hnleft]
        rfl
      have okl : okLeft left := ⟨by omega, hok2⟩
      have P8 : Pen G8 p l (700 * i + 338) := P8.mono (by omega)
      clear hrow row7 l6 l3 hv1 hm1 hv2 hm2 hok hok2
      obtain ⟨sh, nd, de, le⟩ := twoL_ok (row_ws okr) (left_ws okl)
      have lens : (row.map V.str).length ∈ rowLens := by
        rw [List.length_map, hnrow]
        simp only [List.mem_cons, List.not_mem_nil, or_false] at hn ⊢
        omega
      have lens2 : row.length ∈ [1, 2, 3, 8] := by
        rw [hnrow]
        exact hn
      have due := due_none okr (by omega) okl
      have knownR : ∀ u ∈ row.map V.str, ∀ G' : Hp, Known K G' u := fun u hu G' => by
        obtain ⟨y, hy, rfl⟩ := List.mem_map.mp hu
        have := (letters_ok (okr.2 y hy)).2
        exact known_str (by omega)
      have knownL : ∀ u ∈ left.map V.str, ∀ G' : Hp, Known K G' u := fun u hu G' => by
        obtain ⟨y, hy, rfl⟩ := List.mem_map.mp hu
        have := (letters_ok (okl.2 y hy)).2
        exact known_str (by omega)
      have lenL : (left.map V.str).length ≤ 1000 := by
        rw [List.length_map]
        have := okl.1
        omega
      -- the repr
      refine ⟨_, rfl, _, rfl, by show 2 ≤ sizeLine; decide, fun q3 G9 n9 s9 l9 => ?_⟩
      refine ⟨q3, twoL row left, rfl, .lst (SqL.of l9) (.cons (.lst (SqL.of (s9 _ _ hrow8)) (dp_strs row)) (.cons (.lst (SqL.of (s9 _ _ hleft)) (dp_strs left)) .nil)), sh, nd, de, le, ?_⟩
      -- the words given
      refine ⟨_, rfl, D2, _, rfl, .inl (SqL.of (s9 _ _ hleft)), fun g G10 n10 s10 l10 => ?_⟩
      have S10 := s9.trans s10
      have P10 := P8.same S10
      have gp := (P8.same s9).ne n10
      have gl := (P8.same s9).nel n10
      have row10 := S10 _ _ hrow8
      have left10 := S10 _ _ hleft
      have D1g : D1 ≠ g := ne_of_none (s9 _ _ hrow8) n10
      have D2g : D2 ≠ g := ne_of_none (s9 _ _ hleft) n10
      refine ⟨_, rfl, _, rfl, D1, row.map V.str, .ref g, some (left.map V.str), rfl, SqL.of row10, lens, ⟨fun u hu G' _ => knownR u hu G', by rw [List.length_map]; have := okr.1; omega, fun G' s => ⟨g, rfl, .inl (SqL.of (s _ _ l10)), lenL, fun u hu G2 _ => knownL u hu G2⟩, fun r i e => absurd (due.symm.trans e) (fun z => nomatch z), ?_⟩⟩
      intro ts ks _ e1 e2 x ss kk G11 nx s11 at11 asc1 asc2
      obtain rfl : row = ts := strs_inj e1
      obtain rfl : left = ks := strs_inj (Option.some.inj e2)
      have P11 := P10.same s11
      have row11 := s11 _ _ row10
      have left11 := s11 _ _ left10
      have g11 := s11 _ _ l10
      refine ⟨_, rfl, .inl ⟨rfl, _, SqL.of g11⟩, g, _, _, rfl, rfl, g11, by rw [List.length_map]; have := okl.1; exact big_line' (by omega), ?_⟩
      refine ⟨_, rfl, .inl ⟨rfl, _, SqL.of upd_same⟩, g, _, rfl, rfl, upd_same, ?_⟩
      rw [upd_upd]
      have P12 : Pen (L2.upd G11 g (.lst (left.map V.str ++ [V.str (Str.ofString "ess")]).reverse)) p l (700 * i + 338) := P11.upd gp gl
      have row12 : (L2.upd G11 g (.lst (left.map V.str ++ [V.str (Str.ofString "ess")]).reverse)) D1 = some (.lst (row.map V.str)) := by rw [upd_ne D1g]; exact row11
      have left12 : (L2.upd G11 g (.lst (left.map V.str ++ [V.str (Str.ofString "ess")]).reverse)) D2 = some (.lst (left.map V.str)) := by rw [upd_ne D2g]; exact left11
      have at12 : StemAt C (L2.upd G11 g (.lst (left.map V.str ++ [V.str (Str.ofString "ess")]).reverse)) x ss kk := at11.updL g11
      generalize L2.upd G11 g (.lst (left.map V.str ++ [V.str (Str.ofString "ess")]).reverse) = G12 at P12 row12 left12 at12 ⊢
      refine ⟨_, rfl, _, rfl, _, rfl, _, rfl, p, l, x, D1, D2, _, row, left, ss, kk, rfl, P12, by omega, D1p, D2p, row12, left12, okr, okl, at12, asc1, asc2, fun G13 kp13 P13 => ⟨_, rfl, iteE' rfl ?_⟩⟩
      have row13 := kp13 _ _ D1p row12
      have left13 := kp13 _ _ D2p left12
      -- list or tuple
      refine ⟨_, rfl, _, rfl, _, rfl, D2, _, rfl, SqL.of left13, fun t3 G14 n14 s14 l14 => ?_⟩
      refine ⟨by show 2 ≤ sizeLine; decide, fun m3 G15 n15 s15 l15 => ?_⟩
      have t3p := P13.ne n14
      have P14 := P13.same s14
      have m3p := P14.ne n15
      refine ⟨p, l, m3, _, _, rfl, P14.same s15, by omega, m3p, SqL.of l15, by show 0 < 2; decide, by show 2 ≤ 1000000; decide, fun v G16 hv kp16 P16 => ?_⟩
      have row16 := kp16 _ _ D1p (s15 _ _ (s14 _ _ row13))
      have left16 := kp16 _ _ D2p (s15 _ _ (s14 _ _ left13))
      have tup16 := kp16 _ _ t3p (s15 _ _ l14)
      have hkv : ∀ G', Same G16 G' → KeepAt K G' v (some (left.map V.str)) := fun G' s => by
        simp only [List.mem_cons, List.not_mem_nil, or_false] at hv
        rcases hv with rfl | rfl
        · exact ⟨D2, rfl, .inl (SqL.of (s _ _ left16)), lenL, fun u hu G2 _ => knownL u hu G2⟩
        · exact ⟨t3, rfl, .inr (SqT.of (s _ _ tup16)), lenL, fun u hu G2 _ => knownL u hu G2⟩
      refine ⟨_, rfl, _, rfl, _, rfl, D1, row.map V.str, v, some (left.map V.str), rfl, SqL.of row16, lens, ⟨fun u hu G' _ => knownR u hu G', by rw [List.length_map]; have := okr.1; omega, hkv, fun r i e => absurd (due.symm.trans e) (fun z => nomatch z), ?_⟩⟩
      intro ts ks _ e1 e2 x2 ss2 kk2 G17 nx2 s17 at17 asc3 asc4
      obtain rfl : row = ts := strs_inj e1
      obtain rfl : left = ks := strs_inj (Option.some.inj e2)
      have P17 := P16.same s17
      have row17 := s17 _ _ row16
      have left17 := s17 _ _ left16
      refine ⟨_, rfl, _, rfl, p, l, x2, D1, D2, _, row, left, ss2, kk2, rfl, P17, by omega, D1p, D2p, row17, left17, okr, okl, at17, asc3, asc4, fun G18 kp18 P18 => ⟨_, rfl, iteE' rfl ?_⟩⟩
      have row18 := kp18 _ _ D1p row17
      have left18 := kp18 _ _ D2p left17
      refine ⟨_, rfl, _, rfl, _, rfl, p, l, D1, D2, _, row, left, rfl, P18, by omega, D1p, D2p, row18, left18, okr, lens2, okl, fun G19 kp19 P19 => ⟨_, rfl, iteE' rfl ?_⟩⟩
      have row19 := kp19 _ _ D1p row18
      have left19 := kp19 _ _ D2p left18
      refine ⟨_, rfl, _, rfl, by show 2 ≤ sizeLine; decide, fun q4 G20 n20 s20 l20 => ?_⟩
      refine ⟨q4, twoL row left, rfl, .lst (SqL.of l20) (.cons (.lst (SqL.of (s20 _ _ row19)) (dp_strs row)) (.cons (.lst (SqL.of (s20 _ _ left19)) (dp_strs left)) .nil)), sh, nd, de, le, ?_⟩
      refine ⟨_, rfl, rfl, _, rfl, iteE' (show (!decide (V.str (twoL row left).shown = V.str (twoL row left).shown)) = false by rw [decide_eq_true rfl]; rfl) ?_⟩
      exact ⟨_, _, _, _, _, _, rfl, (P19.same s20).mono (by omega)⟩
    · rintro σ1 G2 ⟨o2, o3, o5, o6, o7, o8, rfl, P2⟩
      have meth : ∀ (tt : TA) (ts : List Str) (x y : Str) (σ : L2.St) (H : Hp) (Q' : VK), (∀ R : List V → Hp → Prop, R (ts.map V.str) H → tt σ H R) → okRow ts → 1 ≤ ts.length → x.length ≤ 1000 → dueS ts [] x = y → (∀ G', Same H G' → Q' (.str y) G') →
          tMeth C "result" (spResult C) [] E0 (tMakeS C (spInitD K C CE Tk) (WE fun _ _ _ _ => False) tt) (tCons (tC (.str x)) tNil) σ H Q' := fun tt ts x y σ H Q' ht okr h1 hx hy q => by
        refine ht _ fun x1 dx n1 n2 ne => ?_
        have due := due_none (left := []) okr h1 ⟨by decide, fun e h => nomatch h⟩
        have m : Made K C CE (ts.map V.str) (.ref Tk) (some (([] : List Str).map V.str)) H (fun v1 H1 => ∃ a dx fs, v1 = .ref a ∧ H1 a = some (.ins C dx fs) ∧ fs.lookup (Str.ofString "result") = none ∧ spResult C [v1, .str x] H1 Q' E0) E0 := ⟨fun u hu G' _ => by
            obtain ⟨z, hz, rfl⟩ := List.mem_map.mp hu
            have := (letters_ok (okr.2 z hz)).2
            exact known_str (by omega), by rw [List.length_map]; have := okr.1; omega, fun G' _ => ⟨Tk, rfl, .inr (hTk G'), by decide, fun u hu => nomatch hu⟩, fun r i e => absurd (due.symm.trans e) (fun z => nomatch z), ?_⟩
        · exact m.wantD x1 dx n1 n2 ne
        intro ts' ks _ e1 e2 x2 ss kk G' nx sm at2 asc1 asc2
        obtain ⟨dx2, Da, Db, Dc, zs, ix, u1, u2, u3, u4⟩ := id at2
        obtain rfl : ts = ts' := strs_inj e1
        obtain rfl : [] = ks := strs_inj (Option.some.inj e2)
        refine ⟨x2, dx2, _, rfl, ix, rfl, x2, ss, kk, .str x, rfl, at2, ?_, fun e he => ?_, .inr ⟨x, rfl, hx, fun G2 s2 => ?_⟩⟩
        · have := Qs.asc_len asc1
          have := okr.1
          omega
        · have := (letters_ok (okr.2 e ((Qs.asc_mem asc1 e).mp he))).2
          omega
        · rw [res_due (Qs.asc_mem asc1) (Qs.asc_mem asc2) fun e he => (letters_ok (okr.2 e he)).2.1, hy]
          exact q G2 (sm.trans s2)
      obtain ⟨mc, u2, cr, cv⟩ := T.least
      unfold tSeq tAsg nLst tCons
      dsimp only
      have okS : okRow [Str.ofString "s"] := ⟨by decide, by decide +kernel⟩
      have okT : okRow [Str.ofString "s", Str.ofString "es"] := ⟨by decide, by decide +kernel⟩
      have okU : okRow [Str.ofString "es", Str.ofString "s"] := ⟨by decide, by decide +kernel⟩
      refine meth _ [Str.ofString "s"] (Str.ofString "cats") (Str.ofString "cat") _ _ _ (fun R h => h) okS (by decide) (by decide +kernel) (by decide +kernel) fun G3 s3 => ?_
      refine meth _ [Str.ofString "s", Str.ofString "es"] (Str.ofString "es") (Str.ofString "es") _ _ _ (fun R h => h) okT (by decide) (by decide +kernel) (by decide +kernel) fun G4 s4 => ?_
      refine meth _ [Str.ofString "es", Str.ofString "s"] (Str.ofString "aes") (Str.ofString "ae") _ _ _ (fun R h => h) okU (by decide) (by decide +kernel) (by decide +kernel) fun G5 s5 => ?_
      refine ⟨by show 3 ≤ sizeLine; decide, fun q1 G6 n6 s6 l6 => ?_⟩
      refine ⟨_, rfl, by show 3 ≤ sizeLine; decide, fun q2 G7 n7 s7 l7 => ?_⟩
      refine ⟨catD, catD, .lst (SqL.of (s7 _ _ l6)) (.cons (.str _) (.cons (.str _) (.cons (.str _) .nil))), .lst (SqL.of l7) (.cons (.str _) (.cons (.str _) (.cons (.str _) .nil))), by decide +kernel, by decide +kernel, _, rfl, iteT' (by decide +kernel) ?_⟩
      unfold tAndV tOp
      dsimp only
      refine meth _ [Str.ofString "s"] (Str.ofString "as") (Str.ofString "as") _ _ _ (fun R h => h) okS (by decide) (by decide +kernel) (by decide +kernel) fun G8 s8 => ?_
      refine ⟨rfl, _, rfl, iteT' (by decide +kernel) ?_⟩
      refine ⟨C, mc, .int 2, u2, rfl, cr, cv, rfl, ?_⟩
      exact k G8
end
end K05
set_option Elab.async false
set_option linter.all false
set_option maxRecDepth 100000
set_option maxHeartbeats 4000000
/-! Facts about own error classes, by one bit each. -/
namespace Qh
open PySem PySem.Spec PyProof.Rows L2
def oexB (K : PySem.W.Frag) (C : Addr) : Bool := match K.lookup C with
  | some ⟨.type "type", _, .cls cd, sl⟩ => (match cd.mro, sl.toList with
    | .ref C' :: bm, [_, _, _, _, some (.builtin n), _] => ((C' == C && n == "ValueError.__new__") && (!cd.hasDel && cd.hasDict)) && PySem.HandSPX.refsVE bm
    | _, _ => false)
  | _ => false
def oex2B (K : PySem.W.Frag) (C : Addr) : Bool := decide (PySem.W.findIn K (.ref C) "__setattr__" = some (some (.builtin "object.__setattr__"))) && (decide (PySem.W.typeIn K (.ref C) = some (.type "type")) && PySem.W.keepIn K (.ref C))
def ecB (K : PySem.W.Frag) (C : Addr) : Bool := decide (PySem.W.findIn K (.ref C) "__class__" = some (some (.builtin "object.__class__"))) && (decide (PySem.W.specialIn K (.builtin "object.__class__") "__get__" = some (some (.builtin "getset_descriptor.__get__"))) && (decide (PySem.W.takesIn K (.builtin "object.__class__") = some true) && decide (PySem.W.mroIn K C (.type "object") = some true)))
theorem oexB_ok {K : PySem.W.Frag} {C : Addr} (q : oexB K C = true) : ∃ nm q N bs bm sn sub ab col dd k0 k1 k2 k3 k5, K.lookup C = some (excClassObj nm q C N bs bm true sn sub ab col dd k0 k1 k2 k3 k5 "ValueError.__new__") ∧ PySem.HandSPX.refsVE bm = true := by
  unfold oexB at q
  split at q
  · rename_i dd cd sl ho
    split at q
    · rename_i C' bm k0 k1 k2 k3 n k5 hm hs
      simp only [Bool.and_eq_true, beq_iff_eq, Bool.not_eq_true'] at q
      obtain ⟨⟨⟨rfl, rfl⟩, hdel, hdct⟩, ht⟩ := q
      obtain ⟨nm, bs, mro, ns, qn, hd, sn, sub, ab, col, del⟩ := cd
      dsimp only at hm hdel hdct
      subst hm hdel hdct
      have hsl : sl = #[k0, k1, k2, k3, some (.builtin "ValueError.__new__"), k5] := by
        obtain ⟨l⟩ := sl
        simp only at hs
        rw [hs]
      subst hsl
      exact ⟨nm, qn, ns, bs, bm, sn, sub, ab, col, dd, k0, k1, k2, k3, k5, ho, ht⟩
    · cases q
  · cases q
theorem errC_of {K : PySem.W.Frag} {mg : Str → Option Value} {x : Str} {C : Addr} (g : mg x = some (.ref C)) (h1 : oexB K C = true) (h2 : oex2B K C = true) (h3 : xfB K C = true) (h4 : ecB K C = true) : ErrC K mg x C := by
  obtain ⟨a1, a2⟩ := Bool.and_eq_true_iff.mp h2
  obtain ⟨a2, a3⟩ := Bool.and_eq_true_iff.mp a2
  obtain ⟨b1, b2⟩ := Bool.and_eq_true_iff.mp h4
  obtain ⟨b2, b3⟩ := Bool.and_eq_true_iff.mp b2
  obtain ⟨b3, b4⟩ := Bool.and_eq_true_iff.mp b3
  have X := xfB_ok h3
  exact ⟨g, ⟨oexB_ok h1, of_decide_eq_true a1, X.exC, of_decide_eq_true a2, a3⟩, X, ⟨X.ga, X.gg, X.exC, X.hdC, of_decide_eq_true b1, of_decide_eq_true b2, of_decide_eq_true b3, of_decide_eq_true b4⟩⟩
/-- the module's names that are not bound by it -/
def freeB (K : PySem.W.Frag) (xs : List Str) : Bool := xs.all fun x => decide (PySem.W.nsIn K mainGlobals x = some none)
theorem freeB_ok {K : PySem.W.Frag} {h : Heap} {mg : Str → Option Value} (X : K.In h) (G : h.Ns mainGlobals mg) {xs : List Str} (c : freeB K xs = true) {x : Str} (hx : x ∈ xs) : mg x = none :=
  PySem.W.mg_none_of X G (of_decide_eq_true (List.all_eq_true.mp c x hx))
abbrev bltNames : List Str := ["len", "int", "abs", "list", "tuple", "range", "repr", "all", "any", "isinstance", "str", "bool", "dict", "set", "sorted", "enumerate", "zip", "max", "sum", "min", "reversed"]
theorem blt_of {K : PySem.W.Frag} {h : Heap} {mg : Str → Option Value} (X : K.In h) (G : h.Ns mainGlobals mg) (c : freeB K bltNames = true) : Blt mg := by
  have f := fun {x : Str} (hx : x ∈ bltNames) => freeB_ok X G c hx
  exact ⟨f (by decide +kernel), f (by decide +kernel), f (by decide +kernel), f (by decide +kernel), f (by decide +kernel), f (by decide +kernel), f (by decide +kernel), f (by decide +kernel), f (by decide +kernel), f (by decide +kernel), f (by decide +kernel), f (by decide +kernel), f (by decide +kernel), f (by decide +kernel), f (by decide +kernel), f (by decide +kernel), f (by decide +kernel), f (by decide +kernel), f (by decide +kernel), f (by decide +kernel), f (by decide +kernel)⟩
end Qh
set_option Elab.async false
set_option linter.all false
set_option maxRecDepth 100000
set_option maxHeartbeats 4000000
namespace K05
open PySem PySem.Spec PyProof.Rows L2 TL Qh Qi Ql ClX
def insB (K : PySem.W.Frag) (C : Addr) : Bool := ((PySem.W.plainGet K C Str.empty && PySem.W.hasDictIn K C) && (PySem.W.plainOver K C && decide (PySem.W.findIn K (.ref C) "__setattr__" = some (some (.builtin "object.__setattr__"))))) &&
  ((decide (PySem.W.findIn K (.ref C) "__class__" = some (some (.builtin "object.__class__"))) && decide (PySem.W.specialIn K (.builtin "object.__class__") "__get__" = some (some (.builtin "getset_descriptor.__get__")))) && (decide (PySem.W.takesIn K (.builtin "object.__class__") = some true) && decide (PySem.W.mroIn K C (.type "object") = some true)))
theorem insB_ok {K : PySem.W.Frag} {C : Addr} (h : insB K C = true) : InsT K C := by
  unfold insB at h
  simp only [Bool.and_eq_true, decide_eq_true_eq] at h
  obtain ⟨⟨⟨a1, a2⟩, a3, a4⟩, ⟨a5, a6⟩, a7, a8⟩ := h
  exact ⟨⟨a1, a2, a3, a4⟩, a5, a6, a7, a8⟩
def stemB (K : PySem.W.Frag) (C CT : Addr) : Bool := (((decide (PySem.W.findIn K (.ref C) "endings" = some none) && (decide (PySem.W.findIn K (.ref C) "keep" = some none) && decide (PySem.W.findIn K (.ref C) "sizes" = some none))) && (PySem.W.readsIn K C (.type "type") && decide (PySem.W.specialIn K (.ref C) "__getattribute__" = some (some (.builtin "type.__getattribute__"))))) &&
  ((PySem.W.makesIn K C && PySem.W.keepIn K (.ref C)) && (decide (PySem.W.kitOne K (.ref C) (.ref C) = some true) && decide (PySem.W.kitOne K (.ref C) (.ref CT) = some true))))
theorem stemB_ok {K : PySem.W.Frag} {C CT : Addr} (h : stemB K C CT = true) : NoAttr K C "endings" ∧ (NoAttr K C "keep" ∧ NoAttr K C "sizes") ∧ PySem.W.readsIn K C (.type "type") = true ∧ PySem.W.specialIn K (.ref C) "__getattribute__" = some (some (.builtin "type.__getattribute__")) ∧
    PySem.W.makesIn K C = true ∧ PySem.W.keepIn K (.ref C) = true ∧ PySem.W.kitOne K (.ref C) (.ref C) = some true ∧ PySem.W.kitOne K (.ref C) (.ref CT) = some true := by
  unfold stemB at h
  simp only [Bool.and_eq_true, decide_eq_true_eq] at h
  obtain ⟨⟨⟨a1, a2⟩, a3, a4⟩, ⟨a5, a6⟩, a7, a8⟩ := h
  exact ⟨a1, a2, a3, a4, a5, a6, a7, a8⟩
def numB (K : PySem.W.Frag) (C : Addr) (x : Str) (n : Int) : Bool := match PySem.W.findCls K (.ref C) (.type "type") x with
  | some (.val (.int i _)) => i == n
  | _ => false
theorem numB_ok {K : PySem.W.Frag} {C : Addr} {x : Str} {n : Int} (h : numB K C x n = true) (rd : PySem.W.readsIn K C (.type "type") = true) (ga : PySem.W.specialIn K (.ref C) "__getattribute__" = some (some (.builtin "type.__getattribute__"))) : ∃ mc u, CRead K C mc ∧ CVal K C mc x (.int n) u := by
  unfold numB at h
  split at h
  · rename_i i t e
    have h := beq_iff_eq.mp h
    subst h
    exact ⟨.type "type", _, ⟨rd, ga⟩, ⟨e, ⟨t, rfl⟩⟩⟩
  · cases h
end K05
namespace K05
open PySem PySem.Spec PyProof.Rows L2 TL Qh Qi Ql ClX
theorem all_mk {l : PySem.W.OpenLaw} {w : World} {K : PySem.W.Frag} {h : Heap} {mg : Str → Option Value} {fa : Addr} (X : K.In h) (G : h.Ns mainGlobals mg) (hfa : mg "law" = some (.ref fa))
    {tA tB tC : _}
    {Tk : Addr} {ddT : Option Addr} {nT : Nat} {slT : Array (Option Value)}
    {f1 : Addr} {oc1 kV1 dc1 pm1 cd1 ct1 : Value} {od1 an1 : Option Addr} {sl1 : Array (Option Value)}
    {f2 : Addr} {oc2 kV2 dc2 pm2 cd2 ct2 : Value} {od2 an2 : Option Addr} {sl2 : Array (Option Value)}
    {f3 : Addr} {oc3 kV3 dc3 pm3 cd3 ct3 : Value} {od3 an3 : Option Addr} {sl3 : Array (Option Value)}
    {f4 : Addr} {oc4 kV4 dc4 pm4 cd4 ct4 : Value} {od4 an4 : Option Addr} {sl4 : Array (Option Value)}
    {f5 : Addr} {oc5 kV5 dc5 pm5 cd5 ct5 : Value} {od5 an5 : Option Addr} {sl5 : Array (Option Value)}
    {f6 : Addr} {oc6 kV6 dc6 pm6 cd6 ct6 : Value} {od6 an6 : Option Addr} {sl6 : Array (Option Value)}
    {f7 : Addr} {oc7 kV7 dc7 pm7 cd7 ct7 : Value} {od7 an7 : Option Addr} {sl7 : Array (Option Value)}
    {f8 : Addr} {oc8 kV8 dc8 pm8 cd8 ct8 : Value} {od8 an8 : Option Addr} {sl8 : Array (Option Value)}
    {f9 : Addr} {oc9 kV9 dc9 pm9 cd9 ct9 : Value} {od9 an9 : Option Addr} {sl9 : Array (Option Value)}
    {f10 : Addr} {oc10 kV10 dc10 pm10 cd10 ct10 : Value} {od10 an10 : Option Addr} {sl10 : Array (Option Value)}
    {f11 : Addr} {oc11 kV11 dc11 pm11 cd11 ct11 : Value} {od11 an11 : Option Addr} {sl11 : Array (Option Value)}
    {f12 : Addr} {oc12 kV12 dc12 pm12 cd12 ct12 : Value} {od12 an12 : Option Addr} {sl12 : Array (Option Value)}
    {f13 : Addr} {oc13 kV13 dc13 pm13 cd13 ct13 : Value} {od13 an13 : Option Addr} {sl13 : Array (Option Value)}
    {f14 : Addr} {oc14 kV14 dc14 pm14 cd14 ct14 : Value} {od14 an14 : Option Addr} {sl14 : Array (Option Value)}
    {f15 : Addr} {oc15 kV15 dc15 pm15 cd15 ct15 : Value} {od15 an15 : Option Addr} {sl15 : Array (Option Value)}
    {CQ : Addr}
    {CE : Addr}
    {f16 : Addr} {oc16 kV16 dc16 pm16 cd16 ct16 : Value} {od16 an16 : Option Addr} {sl16 : Array (Option Value)}
    {CS : Addr}
    {CT : Addr}
    {f17 : Addr} {oc17 dc17 pm17 cd17 ct17 : Value} {od17 an17 : Option Addr} {sl17 : Array (Option Value)}
    {Dk : Addr}
    {f18 : Addr} {oc18 kV18 dc18 pm18 cd18 ct18 : Value} {od18 an18 : Option Addr} {sl18 : Array (Option Value)}
    (a1 : PySem.W.nsIn K mainGlobals "is_letters" = some (some (.ref f1))) (l1 : K.lookup f1 = some ⟨oc1, od1, .func (PySem.W.fnOf "is_letters" "is_letters" (defArgs sLetters) (defBody sLetters) (defScope sLetters) .none kV1 dc1 pm1 an1 cd1 ct1), sl1⟩) (c1 : PySem.W.codeIn K cd1 "is_letters" = true) (k1 : PySem.W.keepIn K (.ref f1) = true)
    (a2 : PySem.W.nsIn K mainGlobals "is_word" = some (some (.ref f2))) (l2 : K.lookup f2 = some ⟨oc2, od2, .func (PySem.W.fnOf "is_word" "is_word" (defArgs sIsWord) (defBody sIsWord) (defScope sIsWord) .none kV2 dc2 pm2 an2 cd2 ct2), sl2⟩) (c2 : PySem.W.codeIn K cd2 "is_word" = true) (k2 : PySem.W.keepIn K (.ref f2) = true)
    (a3 : PySem.W.nsIn K mainGlobals "ascending" = some (some (.ref f3))) (l3 : K.lookup f3 = some ⟨oc3, od3, .func (PySem.W.fnOf "ascending" "ascending" (defArgs sAsc) (defBody sAsc) (defScope sAsc) .none kV3 dc3 pm3 an3 cd3 ct3), sl3⟩) (c3 : PySem.W.codeIn K cd3 "ascending" = true) (k3 : PySem.W.keepIn K (.ref f3) = true)
    (a4 : PySem.W.nsIn K mainGlobals "is_ending" = some (some (.ref f4))) (l4 : K.lookup f4 = some ⟨oc4, od4, .func (PySem.W.fnOf "is_ending" "is_ending" (defArgs sIsEnding) (defBody sIsEnding) (defScope sIsEnding) .none kV4 dc4 pm4 an4 cd4 ct4), sl4⟩) (c4 : PySem.W.codeIn K cd4 "is_ending" = true) (k4 : PySem.W.keepIn K (.ref f4) = true)
    (a5 : PySem.W.nsIn K mainGlobals "is_keep" = some (some (.ref f5))) (l5 : K.lookup f5 = some ⟨oc5, od5, .func (PySem.W.fnOf "is_keep" "is_keep" (defArgs sIsKeep) (defBody sIsKeep) (defScope sIsKeep) .none kV5 dc5 pm5 an5 cd5 ct5), sl5⟩) (c5 : PySem.W.codeIn K cd5 "is_keep" = true) (k5 : PySem.W.keepIn K (.ref f5) = true)
    (a6 : PySem.W.nsIn K mainGlobals "_law_pen" = some (some (.ref f6))) (l6 : K.lookup f6 = some ⟨oc6, od6, .func (PySem.W.fnOf "_law_pen" "_law_pen" (defArgs sPen) (defBody sPen) (defScope sPen) .none kV6 dc6 pm6 an6 cd6 ct6), sl6⟩) (c6 : PySem.W.codeIn K cd6 "_law_pen" = true) (k6 : PySem.W.keepIn K (.ref f6) = true)
    (a7 : PySem.W.nsIn K mainGlobals "_law_draw" = some (some (.ref f7))) (l7 : K.lookup f7 = some ⟨oc7, od7, .func (PySem.W.fnOf "_law_draw" "_law_draw" (defArgs sDraw) (defBody sDraw) (defScope sDraw) .none kV7 dc7 pm7 an7 cd7 ct7), sl7⟩) (c7 : PySem.W.codeIn K cd7 "_law_draw" = true) (k7 : PySem.W.keepIn K (.ref f7) = true)
    (a8 : PySem.W.nsIn K mainGlobals "_law_pick" = some (some (.ref f8))) (l8 : K.lookup f8 = some ⟨oc8, od8, .func (PySem.W.fnOf "_law_pick" "_law_pick" (defArgs sPick) (defBody sPick) (defScope sPick) .none kV8 dc8 pm8 an8 cd8 ct8), sl8⟩) (c8 : PySem.W.codeIn K cd8 "_law_pick" = true) (k8 : PySem.W.keepIn K (.ref f8) = true)
    (a9 : PySem.W.nsIn K mainGlobals "_law_string" = some (some (.ref f9))) (l9 : K.lookup f9 = some ⟨oc9, od9, .func (PySem.W.fnOf "_law_string" "_law_string" (defArgs sString) (defBody sString) (defScope sString) .none kV9 dc9 pm9 an9 cd9 ct9), sl9⟩) (c9 : PySem.W.codeIn K cd9 "_law_string" = true) (k9 : PySem.W.keepIn K (.ref f9) = true)
    (a10 : PySem.W.nsIn K mainGlobals "_law_stem" = some (some (.ref f10))) (l10 : K.lookup f10 = some ⟨oc10, od10, .func (PySem.W.fnOf "_law_stem" "_law_stem" (defArgs sStem) (defBody sStem) (defScope sStem) .none kV10 dc10 pm10 an10 cd10 ct10), sl10⟩) (c10 : PySem.W.codeIn K cd10 "_law_stem" = true) (k10 : PySem.W.keepIn K (.ref f10) = true)
    (a11 : PySem.W.nsIn K mainGlobals "_law_heard" = some (some (.ref f11))) (l11 : K.lookup f11 = some ⟨oc11, od11, .func (PySem.W.fnOf "_law_heard" "_law_heard" (defArgs sHeard) (defBody sHeard) (defScope sHeard) .none kV11 dc11 pm11 an11 cd11 ct11), sl11⟩) (c11 : PySem.W.codeIn K cd11 "_law_heard" = true) (k11 : PySem.W.keepIn K (.ref f11) = true)
    (a12 : PySem.W.nsIn K mainGlobals "_law_due" = some (some (.ref f12))) (l12 : K.lookup f12 = some ⟨oc12, od12, .func (PySem.W.fnOf "_law_due" "_law_due" (defArgs sDue) (defBody sDue) (defScope sDue) .none kV12 dc12 pm12 an12 cd12 ct12), sl12⟩) (c12 : PySem.W.codeIn K cd12 "_law_due" = true) (k12 : PySem.W.keepIn K (.ref f12) = true)
    (a13 : PySem.W.nsIn K mainGlobals "_law_right" = some (some (.ref f13))) (l13 : K.lookup f13 = some ⟨oc13, od13, .func (PySem.W.fnOf "_law_right" "_law_right" (defArgs sRight) (defBody sRight) (defScope sRight) .none kV13 dc13 pm13 an13 cd13 ct13), sl13⟩) (c13 : PySem.W.codeIn K cd13 "_law_right" = true) (k13 : PySem.W.keepIn K (.ref f13) = true)
    (a14 : PySem.W.nsIn K mainGlobals "_law_refused_right" = some (some (.ref f14))) (l14 : K.lookup f14 = some ⟨oc14, od14, .func (PySem.W.fnOf "_law_refused_right" "_law_refused_right" (defArgs sRefused) (defBody sRefused) (defScope sRefused) .none kV14 dc14 pm14 an14 cd14 ct14), sl14⟩) (c14 : PySem.W.codeIn K cd14 "_law_refused_right" = true) (k14 : PySem.W.keepIn K (.ref f14) = true)
    (a15 : PySem.W.nsIn K mainGlobals "law" = some (some (.ref f15))) (l15 : K.lookup f15 = some ⟨oc15, od15, .func (PySem.W.fnOf "law" "law" (defArgs sLaw) (defBody sLaw) (defScope sLaw) .none kV15 dc15 pm15 an15 cd15 ct15), sl15⟩) (c15 : PySem.W.codeIn K cd15 "law" = true) (k15 : PySem.W.keepIn K (.ref f15) = true)
    (gCQ : PySem.W.nsIn K mainGlobals "QuoteError" = some (some (.ref CQ)))
    (gCE : PySem.W.nsIn K mainGlobals "InvalidStep" = some (some (.ref CE)))
    (a16 : PySem.W.findIn K (.ref CE) "__init__" = some (some (.ref f16))) (t16 : PySem.W.typeIn K (.ref f16) = some (.type "function")) (l16 : K.lookup f16 = some ⟨oc16, od16, .func (PySem.W.fnOf "__init__" "InvalidStep.__init__" (defArgs sErrInit) (defBody sErrInit) (defScope sErrInit) .none kV16 dc16 pm16 an16 cd16 ct16), sl16⟩) (c16 : PySem.W.codeIn K cd16 "InvalidStep.__init__" = true) (k16 : PySem.W.keepIn K (.ref f16) = true)
    (x1CE : oexB K CE = true)
    (x2CE : oex2B K CE = true)
    (x3CE : xfB K CE = true)
    (x4CE : ecB K CE = true)
    (gCS : PySem.W.nsIn K mainGlobals "Stem" = some (some (.ref CS)))
    (gCT : PySem.W.nsIn K mainGlobals "Step" = some (some (.ref CT)))
    (a17 : PySem.W.findIn K (.ref CS) "__init__" = some (some (.ref f17))) (t17 : PySem.W.typeIn K (.ref f17) = some (.type "function")) (l17 : K.lookup f17 = some ⟨oc17, od17, .func (PySem.W.fnOf "__init__" "Stem.__init__" (defArgs sInit) (defBody sInit) (defScope sInit) .none (.ref Dk) dc17 pm17 an17 cd17 ct17), sl17⟩) (c17 : PySem.W.codeIn K cd17 "Stem.__init__" = true) (k17 : PySem.W.keepIn K (.ref f17) = true)
    (a18 : PySem.W.findIn K (.ref CS) "result" = some (some (.ref f18))) (t18 : PySem.W.typeIn K (.ref f18) = some (.type "function")) (l18 : K.lookup f18 = some ⟨oc18, od18, .func (PySem.W.fnOf "result" "Stem.result" (defArgs sResult) (defBody sResult) (defScope sResult) .none kV18 dc18 pm18 an18 cd18 ct18), sl18⟩) (c18 : PySem.W.codeIn K cd18 "Stem.result" = true) (k18 : PySem.W.keepIn K (.ref f18) = true)
    (fr : freeB K bltNames = true)
    (ex : PySem.W.exmOne K (.ref CE) (.ref CQ) = some true)
    (kEE : PySem.W.kitOne K (.ref CE) (.ref CE) = some true)
    (i1 : insB K CS = true)
    (s1 : stemB K CS CT = true)
    (m1 : numB K CS "MOST" 8 = true)
    (m2 : numB K CS "LEAST" 2 = true)
    (gA : PySem.W.nsIn K mainGlobals "MOST_LETTERS" = some (some (.int 10 tA)))
    (gB : PySem.W.nsIn K mainGlobals "MOST_ENDING_LETTERS" = some (some (.int 4 tB)))
    (gC : PySem.W.nsIn K mainGlobals "MOST_KEPT" = some (some (.int 20 tC)))
    (no1 : PySem.W.findIn K (.ref CE) "reason" = some none)
    (no2 : PySem.W.findIn K (.ref CE) "index" = some none)
    (hd : PySem.W.nsIn K Dk "keep" = some (some (.ref Tk)))
    (lT : K.lookup Tk = some ⟨.type "tuple", ddT, .seq #[] nT, slT⟩) :
    ∃ fd : FuncData, (∀ (s : Shared) (v : Value), BindsTo s fd ⟨[v], []⟩ [("_law_script", v)]) ∧ ∀ base : Heap, K.In base → base.Ns mainGlobals mg → FnG l.prog w K mg base (L2.CX l.prog w) 10 fa fd ["_law_script"] (spLaw K) := by
  have e := hfa.symm.trans (PySem.W.mg_of X G a15)
  cases e
  have Fn1 : Fun K "is_letters" "is_letters" sLetters f1 _ := fun_mk (st := sLetters) l1 c1 k1
  have D_is_letters : DefIn K mg "is_letters" sLetters := ⟨⟨f1, _, Fn1, PySem.W.mg_of X G a1⟩⟩
  have Fn2 : Fun K "is_word" "is_word" sIsWord f2 _ := fun_mk (st := sIsWord) l2 c2 k2
  have D_is_word : DefIn K mg "is_word" sIsWord := ⟨⟨f2, _, Fn2, PySem.W.mg_of X G a2⟩⟩
  have Fn3 : Fun K "ascending" "ascending" sAsc f3 _ := fun_mk (st := sAsc) l3 c3 k3
  have D_ascending : DefIn K mg "ascending" sAsc := ⟨⟨f3, _, Fn3, PySem.W.mg_of X G a3⟩⟩
  have Fn4 : Fun K "is_ending" "is_ending" sIsEnding f4 _ := fun_mk (st := sIsEnding) l4 c4 k4
  have D_is_ending : DefIn K mg "is_ending" sIsEnding := ⟨⟨f4, _, Fn4, PySem.W.mg_of X G a4⟩⟩
  have Fn5 : Fun K "is_keep" "is_keep" sIsKeep f5 _ := fun_mk (st := sIsKeep) l5 c5 k5
  have D_is_keep : DefIn K mg "is_keep" sIsKeep := ⟨⟨f5, _, Fn5, PySem.W.mg_of X G a5⟩⟩
  have Fn6 : Fun K "_law_pen" "_law_pen" sPen f6 _ := fun_mk (st := sPen) l6 c6 k6
  have D__law_pen : DefIn K mg "_law_pen" sPen := ⟨⟨f6, _, Fn6, PySem.W.mg_of X G a6⟩⟩
  have Fn7 : Fun K "_law_draw" "_law_draw" sDraw f7 _ := fun_mk (st := sDraw) l7 c7 k7
  have D__law_draw : DefIn K mg "_law_draw" sDraw := ⟨⟨f7, _, Fn7, PySem.W.mg_of X G a7⟩⟩
  have Fn8 : Fun K "_law_pick" "_law_pick" sPick f8 _ := fun_mk (st := sPick) l8 c8 k8
  have D__law_pick : DefIn K mg "_law_pick" sPick := ⟨⟨f8, _, Fn8, PySem.W.mg_of X G a8⟩⟩
  have Fn9 : Fun K "_law_string" "_law_string" sString f9 _ := fun_mk (st := sString) l9 c9 k9
  have D__law_string : DefIn K mg "_law_string" sString := ⟨⟨f9, _, Fn9, PySem.W.mg_of X G a9⟩⟩
  have Fn10 : Fun K "_law_stem" "_law_stem" sStem f10 _ := fun_mk (st := sStem) l10 c10 k10
  have D__law_stem : DefIn K mg "_law_stem" sStem := ⟨⟨f10, _, Fn10, PySem.W.mg_of X G a10⟩⟩
  have Fn11 : Fun K "_law_heard" "_law_heard" sHeard f11 _ := fun_mk (st := sHeard) l11 c11 k11
  have D__law_heard : DefIn K mg "_law_heard" sHeard := ⟨⟨f11, _, Fn11, PySem.W.mg_of X G a11⟩⟩
  have Fn12 : Fun K "_law_due" "_law_due" sDue f12 _ := fun_mk (st := sDue) l12 c12 k12
  have D__law_due : DefIn K mg "_law_due" sDue := ⟨⟨f12, _, Fn12, PySem.W.mg_of X G a12⟩⟩
  have Fn13 : Fun K "_law_right" "_law_right" sRight f13 _ := fun_mk (st := sRight) l13 c13 k13
  have D__law_right : DefIn K mg "_law_right" sRight := ⟨⟨f13, _, Fn13, PySem.W.mg_of X G a13⟩⟩
  have Fn14 : Fun K "_law_refused_right" "_law_refused_right" sRefused f14 _ := fun_mk (st := sRefused) l14 c14 k14
  have D__law_refused_right : DefIn K mg "_law_refused_right" sRefused := ⟨⟨f14, _, Fn14, PySem.W.mg_of X G a14⟩⟩
  have Fn15 : Fun K "law" "law" sLaw fa _ := fun_mk (st := sLaw) l15 c15 k15
  have mCQ : mg "QuoteError" = some (.ref CQ) := PySem.W.mg_of X G gCQ
  have mCE : mg "InvalidStep" = some (.ref CE) := PySem.W.mg_of X G gCE
  have Fn16 : Fun K "__init__" "InvalidStep.__init__" sErrInit f16 _ := fun_mk (st := sErrInit) l16 c16 k16
  have biCE : Binds K _ ["self", "reason", "index"] [] := Fn16.binds (ps := ["self", "reason", "index"]) fun _ _ _ _ _ _ us hl => match us, hl with | [_, _, _], _ => rfl
  have ECE : ErrC K mg "InvalidStep" CE := errC_of mCE x1CE x2CE x3CE x4CE
  have mCS : mg "Stem" = some (.ref CS) := PySem.W.mg_of X G gCS
  have mCT : mg "Step" = some (.ref CT) := PySem.W.mg_of X G gCT
  have Fn17 : Fun K "__init__" "Stem.__init__" sInit f17 _ := fun_mk (st := sInit) l17 c17 k17
  have Fn18 : Fun K "result" "Stem.result" sResult f18 _ := fun_mk (st := sResult) l18 c18 k18
  have bm18 : Binds K _ ["self", "value"] [] := Fn18.binds (ps := ["self", "value"]) fun _ _ _ _ _ _ us hl => match us, hl with | [_, _], _ => rfl
  have B : Blt mg := blt_of X G fr
  refine ⟨PySem.W.fnOf "law" "law" (defArgs sLaw) (defBody sLaw) (defScope sLaw) .none kV15 dc15 pm15 an15 cd15 ct15, fun s v => .of_eq rfl, fun base _ _ => ?_⟩

  have hA : ∃ t, mg "MOST_LETTERS" = some (.int 10 t) := ⟨_, PySem.W.mg_of X G gA⟩
  have hB : ∃ t, mg "MOST_ENDING_LETTERS" = some (.int 4 t) := ⟨_, PySem.W.mg_of X G gB⟩
  have hC : ∃ t, mg "MOST_KEPT" = some (.int 20 t) := ⟨_, PySem.W.mg_of X G gC⟩
  have no : ∀ x ∈ (["reason", "index"] : List Str), PySem.W.findIn K (.ref CE) x = some none := fun x hx => by
    rcases List.mem_cons.mp hx with rfl | hx
    · exact no1
    · rw [List.mem_singleton.mp hx]
      exact no2
  have TE : Qi.ErrN l.prog w K mg base "InvalidStep" ["reason", "index"] CE := ⟨ECE, no, ⟨_, _, a16, t16, biCE, ok_errInit Fn16 ECE.o no⟩⟩
  have I1 := insB_ok i1
  obtain ⟨z1, z2, z3, z4, z5, z6, z7, z8⟩ := stemB_ok s1
  have T : StemC K mg CS := ⟨mCS, I1.cl, z1, z2.1, z2.2, numB_ok m1 z3 z4, numB_ok m2 z3 z4⟩
  have hTk : ∀ G, SqT K G Tk [] := fun G => .inr ⟨_, #[], nT, lT, rfl, rfl, by decide, .nil⟩
  have letters := ok_letters (P := l.prog) (w := w) (base := base) D_is_letters B
  have isWord := ok_isWord D_is_word hA letters
  have isEnding := ok_isEnding D_is_ending hB letters
  have isKeep := ok_isKeep D_is_keep B hC isWord
  have asc := ok_asc (P := l.prog) (w := w) (base := base) D_ascending B
  have pen := ok_pen (P := l.prog) (w := w) (base := base) D__law_pen B
  have draw := ok_draw (P := l.prog) (w := w) (base := base) D__law_draw B
  have pick := ok_pick D__law_pick B draw
  have init := ok_init Fn17 B T TE isEnding isKeep asc
  have initD := ok_initD l17 c17 hd B T TE isEnding isKeep asc
  have MK : Mk K CS f17 := ⟨z5, a17, beq_iff_eq.mpr t17, z6⟩
  have str := ok_string D__law_string B draw pick
  have stem := ok_stem D__law_stem B mCS MK init
  have heard := ok_heard D__law_heard B TE mCQ ex kEE stem
  have due := ok_due (P := l.prog) (w := w) (base := base) D__law_due B
  have FD := ok_result (P := l.prog) (w := w) (base := base) Fn18 B T
  have M : StemM l.prog w K mg base CS CT := ⟨T, I1, ⟨_, _, ⟨a18, beq_iff_eq.mpr t18, k18⟩, bm18, (fun u ws hl => match ws, hl with | [_], _ => rfl), FD⟩, z7, z8, mCT⟩
  have right := ok_right D__law_right B M str due
  have refused := ok_refused D__law_refused_right B draw pick heard
  exact ok_law Fn15 B M MK initD hTk pen draw pick str stem right refused
theorem walk {l : PySem.W.OpenLaw} {q : Program} {loose : List Str} {XP : (Str → Option Value) → Heap → Prop} {YP : World → Heap → Prop} {d : DefRec} {K : Params → PySem.W.Frag} (hn : l.most = some 63) (hdf : d.params.defaults = [])
    (hY : ∀ (w : World) (h : Heap), YP w h → (K w.params).In h)
    (F : ∀ (w : World) (mg : Str → Option Value) (fa : Addr) (h : Heap), (K w.params).In h → h.Ns mainGlobals mg → mg d.name = some (.ref fa) →
      ∃ fd : FuncData, (∀ (s : Shared) (u : Value), BindsTo s fd ⟨[u], []⟩ [("_law_script", u)]) ∧ ∀ base : Heap, (K w.params).In base → base.Ns mainGlobals mg → FnG l.prog w (K w.params) mg base (L2.CX l.prog w) 10 fa fd ["_law_script"] (spLaw (K w.params))) :
    PySem.W.WalkO q loose XP YP l.row.toRowW d [] (fun f vs => PySem.call f vs) :=
  Qh.walk_ofG (n := 63) (k := 10) (x := "_law_script") (CX := fun w => L2.CX l.prog w) (sp := fun w => spLaw (K w.params)) hn (by decide) hdf ⟨rfl, by decide, by decide⟩ hY F (fun _ _ a ns _ _ hS => ⟨a, ns, rfl, hS, fun _ => rfl⟩) fun _ _ _ _ _ h => by
    obtain ⟨_, _, _, _, _, _, _, _, _, _, _, _, z⟩ := h
    exact z.elim
end K05
open PySem PySem.W PyProof.Rows
set_option maxRecDepth 100000 in
set_option maxHeartbeats 0 in
theorem PySem.Challenge.cw_quotehome_k05_whole_endings_taken_off_holds : PySem.Challenge.rw_quotehome_k05_whole_endings_taken_off.Holds := by
  w_on; o_law; k_head; (case hw => w_witness2)
  k_fill
  refine K05.walk (l := PySem.Challenge.rw_quotehome_k05_whole_endings_taken_off) rfl rfl (fun w h Y => PySem.W.kIn_of Y) ?F
  case F =>
    intro w mg fa h KX G hmg
    refine' K05.all_mk KX G hmg ?a1 ?l1 ?c1 ?k1 ?a2 ?l2 ?c2 ?k2 ?a3 ?l3 ?c3 ?k3 ?a4 ?l4 ?c4 ?k4 ?a5 ?l5 ?c5 ?k5 ?a6 ?l6 ?c6 ?k6 ?a7 ?l7 ?c7 ?k7 ?a8 ?l8 ?c8 ?k8 ?a9 ?l9 ?c9 ?k9 ?a10 ?l10 ?c10 ?k10 ?a11 ?l11 ?c11 ?k11 ?a12 ?l12 ?c12 ?k12 ?a13 ?l13 ?c13 ?k13 ?a14 ?l14 ?c14 ?k14 ?a15 ?l15 ?c15 ?k15 ?gCQ ?gCE ?a16 ?t16 ?l16 ?c16 ?k16 ?x1CE ?x2CE ?x3CE ?x4CE ?gCS ?gCT ?a17 ?t17 ?l17 ?c17 ?k17 ?a18 ?t18 ?l18 ?c18 ?k18 ?fr ?ex ?kEE ?i1 ?s1 ?m1 ?m2 ?gA ?gB ?gC ?no1 ?no2 ?hd ?lT
    (case a1 => k_is)
    (case l1 => k_is)
    (case c1 => k_is)
    (case k1 => k_is)
    (case a2 => k_is)
    (case l2 => k_is)
    (case c2 => k_is)
    (case k2 => k_is)
    (case a3 => k_is)
    (case l3 => k_is)
    (case c3 => k_is)
    (case k3 => k_is)
    (case a4 => k_is)
    (case l4 => k_is)
    (case c4 => k_is)
    (case k4 => k_is)
    (case a5 => k_is)
    (case l5 => k_is)
    (case c5 => k_is)
    (case k5 => k_is)
    (case a6 => k_is)
    (case l6 => k_is)
    (case c6 => k_is)
    (case k6 => k_is)
    (case a7 => k_is)
    (case l7 => k_is)
    (case c7 => k_is)
    (case k7 => k_is)
    (case a8 => k_is)
    (case l8 => k_is)
    (case c8 => k_is)
    (case k8 => k_is)
    (case a9 => k_is)
    (case l9 => k_is)
    (case c9 => k_is)
    (case k9 => k_is)
    (case a10 => k_is)
    (case l10 => k_is)
    (case c10 => k_is)
    (case k10 => k_is)
    (case a11 => k_is)
    (case l11 => k_is)
    (case c11 => k_is)
    (case k11 => k_is)
    (case a12 => k_is)
    (case l12 => k_is)
    (case c12 => k_is)
    (case k12 => k_is)
    (case a13 => k_is)
    (case l13 => k_is)
    (case c13 => k_is)
    (case k13 => k_is)
    (case a14 => k_is)
    (case l14 => k_is)
    (case c14 => k_is)
    (case k14 => k_is)
    (case a15 => k_is)
    (case l15 => k_is)
    (case c15 => k_is)
    (case k15 => k_is)
    (case gCQ => k_is)
    (case gCE => k_is)
    (case a16 => k_is)
    (case t16 => k_is)
    (case l16 => k_is)
    (case c16 => k_is)
    (case k16 => k_is)
    (case x1CE => kernel_rfl)
    (case x2CE => kernel_rfl)
    (case x3CE => kernel_rfl)
    (case x4CE => kernel_rfl)
    (case gCS => k_is)
    (case gCT => k_is)
    (case a17 => k_is)
    (case t17 => k_is)
    (case l17 => k_is)
    (case c17 => k_is)
    (case k17 => k_is)
    (case a18 => k_is)
    (case t18 => k_is)
    (case l18 => k_is)
    (case c18 => k_is)
    (case k18 => k_is)
    (case fr => kernel_rfl)
    (case ex => kernel_rfl)
    (case kEE => kernel_rfl)
    (case i1 => kernel_rfl)
    (case s1 => kernel_rfl)
    (case m1 => kernel_rfl)
    (case m2 => kernel_rfl)
    (case gA => k_is)
    (case gB => k_is)
    (case gC => k_is)
    (case no1 => k_is)
    (case no2 => k_is)
    (case hd => k_is)
    (case lT => k_is)
