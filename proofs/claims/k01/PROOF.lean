import PyProof.Rows.All
import Wide.All
import OpenK.AllK
import Wide.FinOn
import HandS.ForMost
import HandS.ForExc
import HandS.ExcInit
import HandS.ExcIs
import HandS.Deep
import HandS.Defaults
import HandS.ExcField
import HandS.ExcValue
import KE.KExcIs
import HandS.Text
import HandS.TupLe
import HandS.IsInst
import HandS.Steps
import HandS.Walk
import KE.KExcInit
import HandS.FStrTup
import HandS.More
import HandS.Style
import PySem.Challenge.RW_quotehome_k01_errors_told
set_option Elab.async false
set_option linter.all false
set_option maxRecDepth 100000
set_option maxHeartbeats 4000000
/-! Calls where no repr is under way (guards): the def's promise, its body, its call, the law's end. -/
namespace Qh
open PySem PySem.Spec PyProof.Rows L2
section
variable {P : Program} {w : World} {K : PySem.W.Frag} {mg : Str → Option Value} {base : Heap} {CX : CXT} {k : Nat} {f : Addr} {fd : FuncData} {ps : List Str} {sp : Sp}

/-- one call of f, at the around A -/
def RunAt (P : Program) (w : World) (K : PySem.W.Frag) (mg : Str → Option Value) (base : Heap) (CX : CXT) (k : Nat) (f : Addr) (fd : FuncData) (ps : List Str) (sp : Sp) (A : Around) : Prop :=
  ∀ (out : List Env) (t : Shared) (G : Hp) (xs : Args) (us : List Value) (vs : List V) (Q : VK) (E : XK),
    Room k A → Env0 P w K mg base A out t G → BindsTo t fd xs (ps.zip us) → Vals vs us → sp vs G Q E →
      codeAny (model P w) A (.call (.ref f) xs) (CR CX out P w G t Q E) t

/-- the promise of a def that is called where no repr is under way -/
structure FnG (P : Program) (w : World) (K : PySem.W.Frag) (mg : Str → Option Value) (base : Heap) (CX : CXT) (k : Nat) (f : Addr) (fd : FuncData) (ps : List Str) (sp : Sp) : Prop where
  len : ∀ vs G Q E, sp vs G Q E → vs.length = ps.length
  run : ∀ A : Around, A.guards = some [] → RunAt P w K mg base CX k f fd ps sp A

theorem FnG.of (F : FnOk P w K mg base CX k f fd ps sp) : FnG P w K mg base CX k f fd ps sp :=
  ⟨F.len, fun A _ out t G xs us vs Q E hr e0 hb r h => F.run A out t G xs us vs Q E hr e0 hb r h⟩

theorem runAt_of {A : Around} {name qual : Str} {params : Arguments} {body : List Stmt} {scope : Scope} {dV kV doc pm cdv ct oc : Value} {an od : Option Addr} {osl : Array (Option Value)} {N : List Str}
    (lk : K.lookup f = some ⟨oc, od, .func (PySem.W.fnOf name qual params body scope dV kV doc pm an cdv ct), osl⟩)
    (hcd : PySem.W.codeIn K cdv qual = true) (S : FnScope N ps scope)
    (len : ∀ vs G Q E, sp vs G Q E → vs.length = ps.length)
    (hbody : ∀ (out : List Env) (t : Shared) (G : Hp) (vs : List V) (Q : VK) (E : XK),
      Room k (A.deeper (envOfC qual scope t.heap.objs.size f cdv)) → sp vs G Q E →
      ∃ rd, PSs (cxOf CX P w K mg base N qual scope f cdv A out t G E) body rd ∧ rd { nx := fun _ G' => Q .non G', rt := Q } (start N vs) G) :
    RunAt P w K mg base CX (k + 1) f (PySem.W.fnOf name qual params body scope dV kV doc pm an cdv ct) ps sp A := by
  intro out t G xs us vs Q E room e0 binds rel want
  have kin : K.In t.heap := e0.mod.kin.keeps fun a o h => (e0.bs a o h).1
  have nolim : t.heap.NoLimit := e0.mod.nolimit.keeps fun a o h => (e0.bs a o h).1
  have kinds : ∀ y ∈ ps.zip us, scope.names.lookup y.1 = some .local ∨ (scope.names.lookup y.1 = some .cell ∧
      ((cellsFrom (t.heap.objs.size + 1) scope.names []).lookup y.1).isSome = true) := by
    rintro ⟨n, v⟩ hy
    cases S.par n (List.of_mem_zip hy).1 with
    | inl q => exact Or.inl q
    | inr q => exact Or.inr ⟨q, PySem.W.cellsFrom_some _ _ _ (.inl q)⟩
  refine codeAny_call_function room.depth (kin _ _ lk) rfl S.co S.gen rfl (PySem.W.codeRec_of kin hcd) (binds _ _ _ _ ?_)
  refine wpAny_newFunctionEnv_cells S.kind kinds fun env he s1 inside => ?_
  subst he
  refine ⟨nolim.keeps inside.toInCall.keep, codeAny_func ?_⟩
  obtain ⟨rd, hrd, hq⟩ := hbody out t G vs Q E (room.deeper _) want
  have I := inv_start (CX := CX) (E := E) S room.hd e0 (len _ _ _ _ want) rel inside
  refine wpAny_mono (hrd.run [] s1 (start N vs) G _ I hq) ?_ (fun _ _ z => z)
  intro flow s2 hs
  cases flow with
  | ret u =>
    obtain ⟨v, σ', G', J, rv, q⟩ := hs
    exact ⟨v, G', J.os, J.bare, J.base, J.hok, rv, q⟩
  | next =>
    obtain ⟨σ', G', J, q⟩ := hs
    exact ⟨V.non, G', J.os, J.bare, J.base, J.hok, rfl, q⟩
  | brk => exact (hs.elim fun _ z => z.elim fun _ z => z.2).elim
  | cont => exact (hs.elim fun _ z => z.elim fun _ z => z.2).elim

theorem okG {x qual : Str} {st : Stmt} {N : List Str} (F : Fun K x qual st f fd) (S : FnScope N ps (defScope st)) (len : ∀ vs G Q E, sp vs G Q E → vs.length = ps.length)
    (hbody : ∀ (cdv : Value) (A : Around) (out : List Env) (t : Shared) (G : Hp) (vs : List V) (Q : VK) (E : XK), A.guards = some [] →
      Room k (A.deeper (envOfC qual (defScope st) t.heap.objs.size f cdv)) → sp vs G Q E →
      ∃ rd, PSs (cxOf CX P w K mg base N qual (defScope st) f cdv A out t G E) (defBody st) rd ∧ rd { nx := fun _ G' => Q .non G', rt := Q } (start N vs) G) :
    FnG P w K mg base CX (k + 1) f fd ps sp := by
  obtain ⟨oc, od, kV, doc, pm, an, cdv, ct, osl, rfl, lk, hcd⟩ := F.ex
  exact ⟨len, fun A hg => runAt_of lk hcd S len fun out t G vs Q E room want => hbody cdv A out t G vs Q E hg room want⟩
end
section
variable {X : Cx} {CX : CXT} {k : Nat} {f : Addr} {fd : FuncData} {ps : List Str} {sp : Sp} {dvs : List V} {ds : List Value} {E : XK} {x : Str} {p pos : Pos} {e : Expr} {es : List Expr} {t : TA}
end

/-! ### the law's end -/
theorem law_callG {P : Program} {w : World} {K : PySem.W.Frag} {mg mb : Str → Option Value} {CX : CXT} {k : Nat} {fa a : Addr} {fd : FuncData} {x : Str} {sp : Sp} {t : Shared} {vs : List Value} {ns : List Int}
    (kin : K.In t.heap) (hns : t.heap.Ns mainGlobals mg) (hb : t.heap.Ns builtinsNs mb) (hbb : ∀ x : Str, x ≠ "__name__" → mb x = bootBuiltins x) (hlim : t.heap.NoLimit) (hgen : t.gens = #[])
    (ha : t.heap.get? a = some { cls := .type "list", data := .seq vs.toArray }) (hi : IntsAre vs ns) (hl : ns.length ≤ sizeLine) (room : Room k callerA)
    (F : ∀ base : Heap, K.In base → base.Ns mainGlobals mg → FnG P w K mg base CX k fa fd [x] sp) (hbind : ∀ (s : Shared) (u : Value), BindsTo s fd ⟨[u], []⟩ [(x, u)])
    (hsp : ∀ G : Hp, Only G → SqL K G a (ns.map V.int) → sp [.ref a] G (fun v _ => v = .bl true) fun _ _ _ => False)
    (hCX : ∀ G e s', CX [] G t (fun _ _ _ => False) e s' → False) :
    codeAny (model P w) callerA (.call (.ref fa) ⟨[.ref a], []⟩) (fun r s' => r = .ok (.ret (.bool true)) ∧ OldK t.heap s'.heap ∧ s'.os = t.os ∧ AllBare s'.gens) t := by
  have rel := L2.vals_ints hi
  have count := hi.length
  have none_in : ∀ b : Addr, b ∉ frs ([] : List Env) := fun b h => (by simpa [frs] using h)
  -- G tracks nothing but, perhaps, the script
  have main : ∀ G : Hp, Only G → SqL K G a (ns.map V.int) → HOk P w G t.heap → (∀ b u, G b = some u → b = a ∧ K.lookup a = none) →
      codeAny (model P w) callerA (.call (.ref fa) ⟨[.ref a], []⟩) (fun r s' => r = .ok (.ret (.bool true)) ∧ OldK t.heap s'.heap ∧ s'.os = t.os ∧ AllBare s'.gens) t := by
    intro G only seq hok which
    have plain : ∀ {b : Addr} {m : Str → Option Value}, t.heap.Ns b m → (hidT t.heap G).Ns b m := by
      rintro b m ⟨o, es, ep, e, d, r⟩
      refine ⟨o, es, ep, hidT_get e ?_, d, r⟩
      cases q : G b with
      | none => rfl
      | some u =>
        obtain ⟨rfl, _⟩ := which b u q
        rw [ha] at e
        injection e with e
        subst e
        cases d
    have kinB : K.In (hidT t.heap G) := fun b o e => hidT_get (kin b o e) (by
      cases q : G b with
      | none => rfl
      | some u =>
        obtain ⟨rfl, z⟩ := which b u q
        rw [z] at e
        cases e)
    have modB : Mod K mg (hidT t.heap G) := ⟨kinB, plain hns, ⟨mb, plain hb, hbb⟩, by
      obtain ⟨mc, h1, h2⟩ := hlim
      exact ⟨mc, plain h1, h2⟩⟩
    have start0 : Env0 P w K mg (hidT t.heap G) callerA [] t G :=
      { frames := rfl, mod := modB, bs := fun b o e => of_hidT e, bsz := Nat.le_of_eq (hidT_size _ _), funs := trivial, frf := fun b h => absurd h (none_in b), hok := hok, bare := .of_eq hgen }
    refine codeAny_mono ((F _ kinB (plain hns)).run callerA rfl [] t G ⟨[.ref a], []⟩ [.ref a] [.ref a] _ _ room start0 (hbind t (.ref a)) (.cons rfl .nil) (hsp G only seq)) ?_
    rintro (e | fl) s' h
    · exact (hCX G e s' h).elim
    · cases fl with
      | next => exact h.elim
      | brk => exact h.elim
      | cont => exact h.elim
      | ret u =>
        obtain ⟨v, G', hos, bare, un, hok', ru, rfl⟩ := h
        have ru' : u = Value.bool true := ru
        subst ru'
        refine ⟨rfl, OldK.of_keep fun b o e => ?_, hos, bare⟩
        cases q : G b with
        | none => exact un.keep b o e q (none_in b) (by simp)
        | some u =>
          obtain z | ⟨ob, xs, z⟩ := only b
          · rw [q] at z
            cases z
          · have e1 := (hok b _ z).1
            have e2 := (hok' b _ (un.frzs b ob _ z)).1
            rw [e] at e1
            injection e1 with e1
            rw [e1]
            exact e2
  have size : (ns.map V.int).length ≤ sizeLine := by
    rw [List.length_map]
    exact hl
  cases hk : K.lookup a with
  | some o =>
    have e := kin a o hk
    rw [ha] at e
    injection e with e
    subst e
    refine main (fun _ => none) (fun _ => Or.inl rfl) (Or.inr ⟨_, vs.toArray, _, hk, rfl, rfl, rfl, ?_, ?_⟩) (fun b u z => nomatch z) (fun b u z => nomatch z)
    · rw [List.size_toArray, count]
      exact hl
    · rw [List.toList_toArray]
      exact rel
  | none =>
    have at_a : ∀ {b : Addr} {u : HO}, (if b = a then some (HO.frz { cls := .type "list", data := .seq vs.toArray } (.lst (ns.map V.int))) else none) = some u →
        b = a ∧ u = HO.frz { cls := .type "list", data := .seq vs.toArray } (.lst (ns.map V.int)) := by
      intro b u z
      split at z
      · rename_i hb
        injection z with z
        exact ⟨hb, z.symm⟩
      · cases z
    refine main (fun b => if b = a then some (.frz { cls := .type "list", data := .seq vs.toArray } (.lst (ns.map V.int))) else none) ?_ (Or.inl (Or.inr ⟨_, if_pos rfl⟩)) ?_ (fun b u z => ⟨(at_a z).1, hk⟩)
    · intro b
      by_cases hb : b = a
      · exact Or.inr ⟨_, _, if_pos hb⟩
      · exact Or.inl (if_neg hb)
    · intro b u z
      obtain ⟨rfl, rfl⟩ := at_a z
      exact ⟨ha, size, vs, _, rel, ha⟩

theorem walk_ofG {l : PySem.W.OpenLaw} {n k : Nat} {q : Program} {loose : List Str} {XP : (Str → Option Value) → Heap → Prop} {YP : World → Heap → Prop} {d : DefRec} {K : Params → PySem.W.Frag} {CX : World → CXT} {sp : World → Sp} {x : Str}
    (hn : l.most = some n) (hn2 : n ≤ sizeLine) (hdf : d.params.defaults = []) (room : Room k callerA)
    (hY : ∀ (w : World) (h : Heap), YP w h → (K w.params).In h)
    (F : ∀ (w : World) (mg : Str → Option Value) (fa : Addr) (h : Heap), (K w.params).In h → h.Ns mainGlobals mg → mg d.name = some (.ref fa) →
      ∃ fd : FuncData, (∀ (s : Shared) (u : Value), BindsTo s fd ⟨[u], []⟩ [(x, u)]) ∧
        ∀ base : Heap, (K w.params).In base → base.Ns mainGlobals mg → FnG l.prog w (K w.params) mg base (CX w) k fa fd [x] (sp w))
    (hsp : ∀ (w : World) (G : Hp) (a : Addr) (ns : List Int), ns.length ≤ n → Only G → SqL (K w.params) G a (ns.map V.int) → sp w [.ref a] G (fun v _ => v = .bl true) fun _ _ _ => False)
    (hCX : ∀ (w : World) (G : Hp) (s : Shared) (e : Value) (s' : Shared), CX w [] G s (fun _ _ _ => False) e s' → False) :
    PySem.W.WalkO q loose XP YP l.row.toRowW d [] (fun f vs => PySem.call f vs) := by
  refine Att.attach_call hn hdf ?_
  intro w s0 s1 mg mb fa o pm cd doc a vs ns Gr Y ho hd hcd hmg hobj hints hlen hgen
  obtain ⟨fd, hb, hF⟩ := F w mg fa _ (hY w _ Y) Gr.T.g hmg
  exact law_callG (hY w _ Y) Gr.T.g Gr.T.b Gr.T.builtins Gr.T.nolimit hgen hobj hints (Nat.le_trans hlen hn2) room hF hb (fun G only seq => hsp w G a ns hlen only seq) fun G e s' => hCX w G s1 e s'
end Qh
set_option Elab.async false
set_option linter.all false
set_option maxRecDepth 100000
set_option maxHeartbeats 4000000
/-! An error that is caught and then kept under a name of the def: the object itself is tracked. -/
namespace Qh
open PySem PySem.Spec PyProof.Rows L2

section
variable {X : Cx} {pins : List (Addr × Obj)} {σ : L2.St} {G : Hp} {s : Shared}
end

section
variable {X : Cx} {x n y : Str} {c : Value} {i j : Nat} {body : List Stmt} {np p1 p2 p3 pos pos' : Pos} {tb : WX → TS} {Wout : WX}
end
/-! ### the kept error: its fields, isinstance -/
end Qh
set_option Elab.async false
set_option linter.all false
set_option maxRecDepth 100000
set_option maxHeartbeats 4000000
/-! Own defs by name: what stands behind the top, how they are called. -/
namespace Qh
open PySem PySem.Spec PyProof.Rows L2

/-- the def x of the module keeps sp -/
structure Ok (P : Program) (w : World) (K : PySem.W.Frag) (mg : Str → Option Value) (base : Heap) (x : Str) (pa : Arguments) (ps : List Str) (k : Nat) (sp : Sp) : Prop where
  ex : ∃ (f : Addr) (body : List Stmt) (scope : Scope) (kV doc pm : Value) (an : Option Addr) (cdv ct : Value), mg x = some (.ref f) ∧ PySem.W.keepIn K (.ref f) = true ∧
    (∀ us : List Value, us.length = ps.length → bindArgs (PySem.W.fnOf x x pa body scope .none kV doc pm an cdv ct) ⟨us, []⟩ = pure (ps.zip us)) ∧
    FnOk P w K mg base (L2.CX P w) k f (PySem.W.fnOf x x pa body scope .none kV doc pm an cdv ct) ps sp
/-- .. where no repr is under way -/
structure OkG (P : Program) (w : World) (K : PySem.W.Frag) (mg : Str → Option Value) (base : Heap) (x : Str) (pa : Arguments) (ps : List Str) (k : Nat) (sp : Sp) : Prop where
  ex : ∃ (f : Addr) (body : List Stmt) (scope : Scope) (kV doc pm : Value) (an : Option Addr) (cdv ct : Value), mg x = some (.ref f) ∧ PySem.W.keepIn K (.ref f) = true ∧
    (∀ us : List Value, us.length = ps.length → bindArgs (PySem.W.fnOf x x pa body scope .none kV doc pm an cdv ct) ⟨us, []⟩ = pure (ps.zip us)) ∧
    FnG P w K mg base (L2.CX P w) k f (PySem.W.fnOf x x pa body scope .none kV doc pm an cdv ct) ps sp

section
variable {X : Cx} {W : WX} {k : Nat} {ps : List Str} {sp : Sp} {pa : Arguments} {x : Str} {p pos : Pos} {e : Expr} {es : List Expr} {t : TA}
theorem bindsOf {K : PySem.W.Frag} {x : Str} {pa : Arguments} {body : List Stmt} {scope : Scope} {kV doc pm : Value} {an : Option Addr} {cdv ct : Value} {ps : List Str}
    (h : ∀ us : List Value, us.length = ps.length → bindArgs (PySem.W.fnOf x x pa body scope .none kV doc pm an cdv ct) ⟨us, []⟩ = pure (ps.zip us)) : Binds K (PySem.W.fnOf x x pa body scope .none kV doc pm an cdv ct) ps [] := .all h
/-- f(e, ..), f a def of the module -/
theorem pe_own (F : Ok X.prog X.w X.K X.mg X.base x pa ps k sp) (hr : Room k X.A) (tk : Takes X W) (ha : PA X (e :: es) t) (hg : Gl X x := by rfl) (hdb : (x == ("__debug__" : Str)) = false := by decide)
    (he : starEach (e :: es) X.env = (false, eval e X.env) :: starEach es X.env := by rfl) (hpl : (backTo pos (starEach es X.env)).any (·.1) = false := by rfl) :
    PE X (.Call (.Name x p) (e :: es) [] pos) (tCallS sp (WE W) t) := by
  obtain ⟨f, body, scope, kV, doc, pm, an, cdv, ct, hm, hk, hb, F⟩ := F.ex
  exact pe_callS F hr hg hm hk (bindsOf hb) (fun σ => passAt tk σ) ha hdb he hpl
/-! ### keywords alone, where errors are wished for at the caller's slots -/
end

/-! ### a def as the top has left it -/
structure DefIn (K : PySem.W.Frag) (mg : Str → Option Value) (x : Str) (st : Stmt) : Prop where
  ex : ∃ (f : Addr) (fd : FuncData), Fun K x x st f fd ∧ mg x = some (.ref f)
section
variable {P : Program} {w : World} {K : PySem.W.Frag} {mg : Str → Option Value} {base : Heap} {x : Str} {st : Stmt} {N ps : List Str} {k : Nat} {sp : Sp}
/-- its promise, by its body -/
theorem DefIn.ok (D : DefIn K mg x st) (S : FnScope N ps (defScope st)) (len : ∀ vs G Q E, sp vs G Q E → vs.length = ps.length)
    (hbind : ∀ (kV doc pm : Value) (an : Option Addr) (cdv ct : Value) (us : List Value), us.length = ps.length → bindArgs (PySem.W.fnOf x x (defArgs st) (defBody st) (defScope st) .none kV doc pm an cdv ct) ⟨us, []⟩ = pure (ps.zip us))
    (hbody : ∀ (f : Addr) (cdv : Value) (A : Around) (out : List Env) (t : Shared) (G : Hp) (vs : List V) (Q : VK) (E : XK), Room k (A.deeper (envOfC x (defScope st) t.heap.objs.size f cdv)) → sp vs G Q E →
      ∃ rd, PSs (cxOf (L2.CX P w) P w K mg base N x (defScope st) f cdv A out t G E) (defBody st) rd ∧ rd { nx := fun _ G' => Q .non G', rt := Q } (start N vs) G) :
    Ok P w K mg base x (defArgs st) ps (k + 1) sp := by
  obtain ⟨f, fd, F, hm⟩ := D.ex
  have G : FnOk P w K mg base (L2.CX P w) (k + 1) f fd ps sp := F.okX S len fun cdv A out t G vs Q E room want => hbody f cdv A out t G vs Q E room want
  obtain ⟨oc, od, kV, doc, pm, an, cdv, ct, osl, rfl, lk, hcd⟩ := F.ex
  exact ⟨⟨f, _, _, kV, doc, pm, an, cdv, ct, hm, F.kp, fun us hl => hbind kV doc pm an cdv ct us hl, G⟩⟩
theorem DefIn.okG (D : DefIn K mg x st) (S : FnScope N ps (defScope st)) (len : ∀ vs G Q E, sp vs G Q E → vs.length = ps.length)
    (hbind : ∀ (kV doc pm : Value) (an : Option Addr) (cdv ct : Value) (us : List Value), us.length = ps.length → bindArgs (PySem.W.fnOf x x (defArgs st) (defBody st) (defScope st) .none kV doc pm an cdv ct) ⟨us, []⟩ = pure (ps.zip us))
    (hbody : ∀ (f : Addr) (cdv : Value) (A : Around) (out : List Env) (t : Shared) (G : Hp) (vs : List V) (Q : VK) (E : XK), A.guards = some [] → Room k (A.deeper (envOfC x (defScope st) t.heap.objs.size f cdv)) → sp vs G Q E →
      ∃ rd, PSs (cxOf (L2.CX P w) P w K mg base N x (defScope st) f cdv A out t G E) (defBody st) rd ∧ rd { nx := fun _ G' => Q .non G', rt := Q } (start N vs) G) :
    OkG P w K mg base x (defArgs st) ps (k + 1) sp := by
  obtain ⟨f, fd, F, hm⟩ := D.ex
  have G : FnG P w K mg base (L2.CX P w) (k + 1) f fd ps sp := Qh.okG F S len fun cdv A out t G vs Q E gu room want => hbody f cdv A out t G vs Q E gu room want
  obtain ⟨oc, od, kV, doc, pm, an, cdv, ct, osl, rfl, lk, hcd⟩ := F.ex
  exact ⟨⟨f, _, _, kV, doc, pm, an, cdv, ct, hm, F.kp, fun us hl => hbind kV doc pm an cdv ct us hl, G⟩⟩
end
end Qh
set_option Elab.async false
set_option linter.all false
set_option maxRecDepth 100000
set_option maxHeartbeats 4000000
/-! What every law of this table brings: built-in names, repr of data, the pen. -/
namespace Qh
open PySem PySem.Spec PyProof.Rows L2

/-- the built-in names that the module leaves alone -/
structure Blt (mg : Str → Option Value) : Prop where
  n_len : mg "len" = none
  n_int : mg "int" = none
  n_abs : mg "abs" = none
  n_list : mg "list" = none
  n_tuple : mg "tuple" = none
  n_range : mg "range" = none
  n_repr : mg "repr" = none
  n_all : mg "all" = none
  n_any : mg "any" = none
  n_isinstance : mg "isinstance" = none
  n_str : mg "str" = none
  n_bool : mg "bool" = none
  n_dict : mg "dict" = none
  n_set : mg "set" = none
  n_sorted : mg "sorted" = none
  n_enumerate : mg "enumerate" = none
  n_zip : mg "zip" = none
  n_max : mg "max" = none
  n_sum : mg "sum" = none
  n_min : mg "min" = none
  n_reversed : mg "reversed" = none

theorem bt_len : bootBuiltins "len" = some (.builtin "len") := by decide +kernel
theorem bt_abs : bootBuiltins "abs" = some (.builtin "abs") := by decide +kernel
theorem bt_int : bootBuiltins "int" = some (.type "int") := by decide +kernel
theorem bt_list : bootBuiltins "list" = some (.type "list") := by decide +kernel
theorem bt_repr : bootBuiltins "repr" = some (.builtin "repr") := by decide +kernel
theorem bt_isinstance : bootBuiltins "isinstance" = some (.builtin "isinstance") := by decide +kernel
/-! ### repr of data, where no repr is under way -/
section
variable {X : Cx}
end

/-! ### the pen: the script's cells, how many are read, what is left of a great cell -/
def Pen (G : Hp) (p l : Addr) (c : Int) : Prop :=
  ∃ (n g : Int) (ns : List Int), G p = some (.lst [.ref l, .int n, .int g]) ∧ G l = some (.lst (ns.map V.int)) ∧ l ≠ p ∧ 0 ≤ n ∧ n ≤ c ∧ 0 ≤ g
/-- all that was tracked but p is as it was -/
def Kp (p : Addr) (G G' : Hp) : Prop := ∀ b o, b ≠ p → G b = some o → G' b = some o
theorem Kp.refl (p : Addr) (G : Hp) : Kp p G G := fun _ _ _ h => h
theorem Kp.trans {p : Addr} {G G1 G2 : Hp} (a : Kp p G G1) (b : Kp p G1 G2) : Kp p G G2 := fun x o n h => b x o n (a x o n h)
theorem Kp.new {p q : Addr} {G : Hp} {o : HO} (h : G q = none) : Kp p G (upd G q o) := fun b u _ e => by
  rw [upd_ne (ne_of_none e h)]
  exact e
theorem Kp.self {p : Addr} {G : Hp} {o : HO} : Kp p G (upd G p o) := fun b u n e => by
  rw [upd_ne n]
  exact e
theorem Kp.same {p : Addr} {G G' : Hp} (h : Same G G') : Kp p G G' := fun b o _ e => h b o e
theorem Same.new {q : Addr} {G : Hp} {o : HO} (h : G q = none) : Same G (upd G q o) := fun b u e => by
  rw [upd_ne (ne_of_none e h)]
  exact e
/-- an object that was not there before may change -/
theorem Kp.fresh {p q : Addr} {G G' : Hp} {o : HO} (k : Kp p G G') (h : G q = none) : Kp p G (upd G' q o) := fun b u n e => by
  rw [upd_ne (ne_of_none e h)]
  exact k b u n e
theorem Kp.free {p q : Addr} {G G' : Hp} (k : Kp p G G') (n : q ≠ p) (h : G' q = none) : G q = none := by
  cases e : G q with
  | none => rfl
  | some o =>
    rw [k q o n e] at h
    cases h
theorem Pen.mono {G : Hp} {p l : Addr} {c c' : Int} (P : Pen G p l c) (h : c ≤ c') : Pen G p l c' := by
  obtain ⟨n, g, ns, h1, h2, h3, h4, h5, h6⟩ := P
  exact ⟨n, g, ns, h1, h2, h3, h4, Int.le_trans h5 h, h6⟩
/-- an object that is neither the pen nor its cells may change -/
theorem Pen.upd {G : Hp} {p l q : Addr} {c : Int} {o : HO} (P : Pen G p l c) (hp : q ≠ p) (hl : q ≠ l) : Pen (upd G q o) p l c := by
  obtain ⟨n, g, ns, h1, h2, h3⟩ := P
  refine ⟨n, g, ns, ?_, ?_, h3⟩
  · rw [upd_ne hp.symm]
    exact h1
  · rw [upd_ne hl.symm]
    exact h2
theorem Pen.same {G G' : Hp} {p l : Addr} {c : Int} (P : Pen G p l c) (k : Same G G') : Pen G' p l c := by
  obtain ⟨n, g, ns, h1, h2, h3⟩ := P
  exact ⟨n, g, ns, k _ _ h1, k _ _ h2, h3⟩
theorem Pen.ne {G : Hp} {p l q : Addr} {c : Int} (P : Pen G p l c) (h : G q = none) : q ≠ p := fun e => by
  obtain ⟨n, g, ns, h1, _⟩ := P
  rw [e, h1] at h
  cases h
theorem Pen.nel {G : Hp} {p l q : Addr} {c : Int} (P : Pen G p l c) (h : G q = none) : q ≠ l := fun e => by
  obtain ⟨n, g, ns, _, h1, _⟩ := P
  rw [e, h1] at h
  cases h
theorem Pen.new {G : Hp} {p l q : Addr} {c : Int} {o : HO} (P : Pen G p l c) (h : G q = none) : Pen (L2.upd G q o) p l c := P.upd (P.ne h) (P.nel h)
/-- a number below m is drawn -/
def spDraw : Sp := fun vs G Q _ => ∃ (p l : Addr) (c m : Int), vs = [.ref p, .int m] ∧ Pen G p l c ∧ c ≤ 1000000 ∧ 0 < m ∧ m ≤ 1000000 ∧ ∀ (d : Int) (G' : Hp), 0 ≤ d → d < m → Kp p G G' → Pen G' p l (c + 1) → Q (.int d) G'
/-- one of some things is drawn -/
def spPick (K : PySem.W.Frag) : Sp := fun vs G Q _ => ∃ (p l a : Addr) (c : Int) (xs : List V), vs = [.ref p, .ref a] ∧ Pen G p l c ∧ c ≤ 1000000 ∧ a ≠ p ∧ SqL K G a xs ∧ 0 < xs.length ∧ xs.length ≤ 1000000 ∧
  ∀ (x : V) (G' : Hp), x ∈ xs → Kp p G G' → Pen G' p l (c + 1) → Q x G'
/-- the pen is made -/
def spPen (K : PySem.W.Frag) : Sp := fun vs G Q _ => ∃ (a : Addr) (ns : List Int), vs = [.ref a] ∧ SqL K G a (ns.map V.int) ∧ ∀ (p l : Addr) (G' : Hp), G p = none → Same G G' → Pen G' p l 0 → Q (.ref p) G'
theorem Kp.seq {K : PySem.W.Frag} {p a : Addr} {G G' : Hp} {xs : List V} (k : Kp p G G') (n : a ≠ p) (h : SqL K G a xs) : SqL K G' a xs := by
  rcases h with (h | ⟨o, h⟩) | h
  · exact .inl (.inl (k _ _ n h))
  · exact .inl (.inr ⟨o, k _ _ n h⟩)
  · exact .inr h

/-! ### data -/
theorem dp_ints {K : PySem.W.Frag} {G : Hp} : ∀ ns : List Int, DpAll K G (ns.map V.int) (ns.map PyData.int)
  | [] => .nil
  | a :: r => .cons (.int a) (dp_ints r)
theorem lay_ints : ∀ ns : List Int, PyData.canLayAll0 (ns.map PyData.int) = true ∧ PyData.depthAll (ns.map PyData.int) = 0
  | [] => ⟨rfl, rfl⟩
  | a :: r => ⟨by show (true && PyData.canLayAll0 (r.map PyData.int)) = true; rw [(lay_ints r).1]; rfl, by show max 0 (PyData.depthAll (r.map PyData.int)) = 0; rw [(lay_ints r).2]; rfl⟩
theorem shaped_ints (ns : List Int) : SeqAt.shaped (.list (ns.map PyData.int)) = true := by
  show (PyData.canLayAll0 (ns.map PyData.int) && decide (PyData.depthAll (ns.map PyData.int) + 1 ≤ 64)) = true
  rw [(lay_ints ns).1, (lay_ints ns).2]
  rfl
theorem eqv_nil_r (ds : List PyData) : PyData.eqv (.list ds) (.list []) = decide (ds = []) := by
  cases ds with
  | nil => rfl
  | cons a r => rfl
theorem mod_lt (a b : Int) (h : 0 < b) : 0 ≤ a % b ∧ a % b < b := ⟨Int.emod_nonneg _ (by omega), Int.emod_lt_of_pos _ h⟩
theorem mod_at {xs : List V} (a : Int) (h : 0 < xs.length) : ∃ v, atI xs (a % (xs.length : Int)) = some v ∧ v ∈ xs := by
  have hm := mod_lt a (xs.length : Int) (by omega)
  have hl : (a % (xs.length : Int)).toNat < xs.length := by omega
  refine ⟨xs[(a % (xs.length : Int)).toNat], ?_, List.getElem_mem hl⟩
  have h2 : xs[(a % (xs.length : Int)).toNat]? = some xs[(a % (xs.length : Int)).toNat] := List.getElem?_eq_getElem hl
  have h3 := atI_nat h2
  rwa [Int.toNat_of_nonneg hm.1] at h3
theorem at_lt {xs : List V} (d : Int) (h0 : 0 ≤ d) (h : d < xs.length) : ∃ v, atI xs d = some v ∧ xs[d.toNat]? = some v ∧ v ∈ xs := by
  have hl : d.toNat < xs.length := by omega
  refine ⟨xs[d.toNat], ?_, List.getElem?_eq_getElem hl, List.getElem_mem hl⟩
  have h3 := atI_nat (List.getElem?_eq_getElem hl)
  rwa [Int.toNat_of_nonneg h0] at h3
theorem mem_ints {ns : List Int} {v : V} (h : v ∈ ns.map V.int) : ∃ i, v = V.int i := by
  obtain ⟨i, _, rfl⟩ := List.mem_map.mp h
  exact ⟨i, rfl⟩

theorem pow18 : (10 : Int) ^ (18 : Int).toNat = 1000000000000000000 := by decide +kernel
theorem draw_bound (x n A B b : Int) (hx : 0 ≤ x ∧ x < 2147483648) (hn : 0 ≤ n ∧ n ≤ 1000000) (hA : 0 ≤ A ∧ A ≤ 100000) (hB : 0 ≤ B ∧ B ≤ 100000) (hb : 0 ≤ b ∧ b ≤ 100000) : (x * (2 * n + b) + A * n * n + B).natAbs < 2 ^ 64 := by
  have h1 : x * (2 * n + b) ≤ 2147483648 * 2100000 := Int.mul_le_mul (by omega) (by omega) (by omega) (by omega)
  have h2 : 0 ≤ x * (2 * n + b) := Int.mul_nonneg hx.1 (by omega)
  have h3 : A * n ≤ 100000 * 1000000 := Int.mul_le_mul hA.2 hn.2 hn.1 (by omega)
  have h4 : 0 ≤ A * n := Int.mul_nonneg hA.1 hn.1
  have h5 : A * n * n ≤ 100000 * 1000000 * 1000000 := Int.mul_le_mul h3 hn.2 hn.1 (by omega)
  have h6 : 0 ≤ A * n * n := Int.mul_nonneg h4 hn.1
  omega
theorem great_nonneg (x : Int) (b : Bool) (h : 1000000000000000000 ≤ x) : 0 ≤ 2 * (x - 1000000000000000000) + (if b = true then (1 : Int) else 0) := by
  have hb : (0 : Int) ≤ (if b = true then (1 : Int) else 0) := by cases b <;> decide
  omega

/-! ### words -/
theorem big_line' {n : Nat} (h : n ≤ 1000000) : n < sizeLine := Nat.lt_of_le_of_lt h (by decide)
theorem Same.fresh {q : Addr} {G G' : Hp} {o : HO} (k : Same G G') (h : G q = none) : Same G (upd G' q o) := fun b u e => by
  rw [upd_ne (ne_of_none e h)]
  exact k b u e
end Qh
set_option Elab.async false
set_option linter.all false
set_option maxRecDepth 100000
set_option maxHeartbeats 4000000
namespace K01
open PySem PySem.Spec PyProof.Rows L2 Qh
def top (i : Nat) : Stmt := PySem.Challenge.pw_quotehome_k01_errors_told.main.body.getD i (.Pass ⟨0, 0, 0, 0⟩)
abbrev sPen : Stmt := top 16
abbrev sDraw : Stmt := top 17
abbrev sPick : Stmt := top 18
section
variable {P : Program} {w : World} {K : PySem.W.Frag} {mg : Str → Option Value} {base : Heap}
theorem scPen : FnScope ["_law_script"] ["_law_script"] (defScope sPen) := ⟨rfl, rfl, rfl, by decide +kernel, rfl, by decide +kernel, by decide +kernel⟩
theorem ok_pen (D : DefIn K mg "_law_pen" sPen) (B : Blt mg) : Ok P w K mg base "_law_pen" (defArgs sPen) ["_law_script"] 1 (spPen K) := by
  refine D.ok scPen (fun vs G Q E h => ?_) (fun _ _ _ _ _ _ us hl => match us, hl with | [_], _ => rfl) (fun f cdv A out t G vs Q E hr h => ?_)
  · obtain ⟨a, ns, rfl, _⟩ := h
    rfl
  · obtain ⟨a, ns, rfl, hS, k⟩ := h
    refine ⟨_, pss_one (ps_ret (pe_lst (pa_cons (pe_callTy call_list_of (by rfl) B.n_list bt_list (pa_cons (pe_slice sl_list (pv 0) po_none (po_some pe_int)) pa_nil)) (pa_cons pe_int (pa_cons pe_int pa_nil))))), ?_⟩
    refine ⟨_, rfl, 63, rfl, a, ns.map V.int, rfl, hS, fun q hq => ?_⟩
    refine ⟨q, _, rfl, .inl (SqL.of upd_same), fun l hl => ?_⟩
    refine ⟨by show 3 ≤ sizeLine; decide, fun p hp => ?_⟩
    have lq : l ≠ q := fun e => by rw [e, upd_same] at hl; cases hl
    have pl : p ≠ l := fun e => by rw [e, upd_same] at hp; cases hp
    have pq : p ≠ q := fun e => by rw [e, upd_ne lq.symm, upd_same] at hp; cases hp
    have nl : G l = none := by rw [upd_ne lq] at hl; exact hl
    have np : G p = none := by rw [upd_ne pl, upd_ne pq] at hp; exact hp
    have hcut : cutV (ns.map V.int) none (some 63) = (ns.take 63).map V.int := by
      unfold cutV
      rw [HT.sIx_none, show (some (63 : Int)) = some ((63 : Nat) : Int) from rfl, HT.sIx_nat, List.drop_zero, Nat.sub_zero, List.map_take]
      by_cases h : 63 ≤ (ns.map V.int).length
      · rw [Nat.min_eq_left h]
      · rw [Nat.min_eq_right (by omega), List.take_of_length_le (Nat.le_refl _), List.take_of_length_le (by omega)]
    refine k p l _ np (fun b o e => ?_) ⟨0, 0, ns.take 63, upd_same, ?_, pl.symm, Int.le_refl _, Int.le_refl _, Int.le_refl _⟩
    · rw [upd_ne (ne_of_none e np), upd_ne (ne_of_none e nl), upd_ne (ne_of_none e hq)]
      exact e
    · rw [upd_ne pl.symm, upd_same, hcut]
theorem scDraw : FnScope ["_law_pen_here", "_law_many", "_law_digit", "_law_at", "_law_cell", "_law_great", "_law_mixed"] ["_law_pen_here", "_law_many"] (defScope sDraw) := ⟨rfl, rfl, rfl, by decide +kernel, rfl, by decide +kernel, by decide +kernel⟩

theorem ok_draw (D : DefIn K mg "_law_draw" sDraw) (B : Blt mg) : Ok P w K mg base "_law_draw" (defArgs sDraw) ["_law_pen_here", "_law_many"] 1 spDraw := by
  refine D.ok scDraw (fun vs G Q E h => ?_) (fun _ _ _ _ _ _ us hl => match us, hl with | [_, _], _ => rfl) (fun f cdv A out t G vs Q E hr h => ?_)
  · obtain ⟨p, l, c, m, rfl, _⟩ := h
    rfl
  · obtain ⟨p, l, c, m, rfl, ⟨n, g, ns, hp, hl, lp, n0, nc, g0⟩, hc, m0, mm, k⟩ := h
    have hu64 := hr.units
    refine ⟨_, (pss_cons (ps_if (pt_cmpR op_gt (pe_ix ix_list (pv 0) pe_int (fun _ _ => rfl)) pe_int (nomark _)) (pss_cons (ps_set (i := 2) scDraw.nd rfl (by first | exact Or.inl rfl | exact Or.inr rfl) (pe_op op_mod (pe_callTy call_int1 (by rfl) B.n_int bt_int (pa_cons (pe_ix ix_list (pv 0) pe_int (fun _ _ => rfl)) pa_nil)) (pv 1)))
    (pss_cons (ps_asg (pe_op op_fdiv (pe_callTy call_int1 (by rfl) B.n_int bt_int (pa_cons (pe_ix ix_list (pv 0) pe_int (fun _ _ => rfl)) pa_nil)) (pv 1)) (pg_sub (pv 0) pe_int set_list))
    (pss_one (ps_ret (pv 2))))) pss_nil)
    (pss_cons (ps_set (i := 3) scDraw.nd rfl (by first | exact Or.inl rfl | exact Or.inr rfl) (pe_ix ix_list (pv 0) pe_int (fun _ _ => rfl)))
    (pss_cons (ps_asg (pe_op op_add (pv 3) pe_int) (pg_sub (pv 0) pe_int set_list))
    (pss_cons (ps_set (i := 4) scDraw.nd rfl (by first | exact Or.inl rfl | exact Or.inr rfl) (pe_op op_add (pe_op op_mul pe_int (pv 3)) pe_int))
    (pss_cons (ps_if (pt_cmpR (op_neD hu64) (pe_ix ix_list (pv 0) pe_int (fun _ _ => rfl)) (pe_lst pa_nil) (nomark _)) (pss_one (ps_set (i := 4) scDraw.nd rfl (by first | exact Or.inl rfl | exact Or.inr rfl) (pe_ix ix_list (pe_ix ix_list (pv 0) pe_int (fun _ _ => rfl)) (pe_op op_mod (pe_callTy call_int1 (by rfl) B.n_int bt_int (pa_cons (pv 3) pa_nil)) (pe_callB call_len (by rfl) B.n_len bt_len (pa_cons (pe_ix ix_list (pv 0) pe_int (fun _ _ => rfl)) pa_nil))) (fun _ _ => rfl)))) pss_nil)
    (pss_cons (ps_if (PW.pt (pw_and (pt_cmpR op_lt (pv 3) (pe_callB call_len (by rfl) B.n_len bt_len (pa_cons (pe_ix ix_list (pv 0) pe_int (fun _ _ => rfl)) pa_nil)) (nomark _)) (pw_and1 (pt_cmpR op_ge (pe_callB call_abs (by rfl) B.n_abs bt_abs (pa_cons (pv 4) pa_nil)) (pe_op op_pow pe_int pe_int) (nomark _))))) (pss_cons (ps_set (i := 5) scDraw.nd rfl (by first | exact Or.inl rfl | exact Or.inr rfl) (pe_op op_add (pe_op op_mul pe_int (pe_op op_sub (pe_callB call_abs (by rfl) B.n_abs bt_abs (pa_cons (pv 4) pa_nil)) (pe_op op_pow pe_int pe_int))) (pe_callTy call_int1 (by rfl) B.n_int bt_int (pa_cons (pe_cmpR op_lt (pv 4) pe_int (nomark _)) pa_nil))))
    (pss_cons (ps_asg (pe_op op_fdiv (pe_callTy call_int1 (by rfl) B.n_int bt_int (pa_cons (pv 5) pa_nil)) (pv 1)) (pg_sub (pv 0) pe_int set_list))
    (pss_one (ps_ret (pe_op op_mod (pe_callTy call_int1 (by rfl) B.n_int bt_int (pa_cons (pv 5) pa_nil)) (pv 1)))))) pss_nil)
    (pss_cons (ps_set (i := 6) scDraw.nd rfl (by first | exact Or.inl rfl | exact Or.inr rfl) (pe_op op_mod (pe_callTy call_int1 (by rfl) B.n_int bt_int (pa_cons (pe_op op_pow (pe_op op_add (pe_op op_add (pe_op op_mod (pe_callTy call_int1 (by rfl) B.n_int bt_int (pa_cons (pv 4) pa_nil)) pe_int) (pe_op op_mul pe_int (pv 3))) pe_int) pe_int) pa_nil)) pe_int))
    (pss_cons (ps_set (i := 6) scDraw.nd rfl (by first | exact Or.inl rfl | exact Or.inr rfl) (pe_op op_mod (pe_callTy call_int1 (by rfl) B.n_int bt_int (pa_cons (pe_op op_pow (pe_op op_add (pe_op op_add (pe_op op_mul (pv 6) (pe_op op_add (pe_op op_mul pe_int (pv 3)) pe_int)) (pe_op op_mul (pe_op op_mul pe_int (pv 3)) (pv 3))) pe_int) pe_int) pa_nil)) pe_int))
    (pss_one (ps_ret (pe_op op_mod (pe_callTy call_int1 (by rfl) B.n_int bt_int (pa_cons (pe_op op_fdiv (pv 6) pe_int) pa_nil)) (pv 1)))))))))))), ?_⟩
    refine ⟨_, rfl, p, _, _, _, rfl, rfl, SqL.of hp, rfl, _, _, rfl, rfl, _, rfl, ?_⟩
    refine ite2 (fun hg => ?_) (fun hg => ?_)
    · have hg := of_decide_eq_true hg
      refine ⟨_, rfl, p, _, _, _, rfl, rfl, SqL.of hp, rfl, .inl ⟨_, rfl, _, rfl, _, _, rfl, rfl, m0, ?_⟩⟩
      refine ⟨_, rfl, p, _, _, _, rfl, rfl, SqL.of hp, rfl, .inl ⟨_, rfl, _, rfl, _, _, rfl, rfl, ⟨m0, by omega⟩, _, rfl, p, _, _, 2, rfl, rfl, hp, rfl, ?_⟩⟩
      refine ⟨_, rfl, ?_⟩
      refine k (g % m) _ (mod_lt g m m0).1 (mod_lt g m m0).2 Kp.self ⟨n, g / m, ns, upd_same, ?_, lp, n0, by omega, Int.ediv_nonneg g0 (by omega)⟩
      rw [upd_ne lp]
      exact hl
    · -- at = pen[1]; pen[1] = at + 1; cell = ..
      refine ⟨_, rfl, p, _, _, _, rfl, rfl, SqL.of hp, rfl, ?_⟩
      refine ⟨_, rfl, _, _, rfl, rfl, _, rfl, p, _, _, 1, rfl, rfl, hp, rfl, ?_⟩
      have hp1 : (upd G p (.lst [.ref l, .int (n + 1), .int g])) p = some (.lst [.ref l, .int (n + 1), .int g]) := upd_same
      have hl1 : (upd G p (.lst [.ref l, .int (n + 1), .int g])) l = some (.lst (ns.map V.int)) := by
        rw [upd_ne lp]
        exact hl
      refine ⟨_, rfl, _, _, rfl, rfl, .inl ⟨by decide, by decide⟩, _, _, rfl, rfl, ?_⟩
      -- if pen[0] != []
      refine ⟨_, rfl, p, _, _, _, rfl, rfl, SqL.of hp1, rfl, by show 0 ≤ sizeLine; decide, fun q hq => ?_⟩
      have lq : l ≠ q := ne_of_none hl1 hq
      have pq : p ≠ q := ne_of_none hp1 hq
      have hl2 : (upd (upd G p (.lst [.ref l, .int (n + 1), .int g])) q (.lst [])) l = some (.lst (ns.map V.int)) := by
        rw [upd_ne lq]
        exact hl1
      have hp2 : (upd (upd G p (.lst [.ref l, .int (n + 1), .int g])) q (.lst [])) p = some (.lst [.ref l, .int (n + 1), .int g]) := by
        rw [upd_ne pq]
        exact hp1
      have nq : G q = none := by
        rw [upd_ne pq.symm] at hq
        exact hq
      have kp2 : Kp p G (upd (upd G p (.lst [.ref l, .int (n + 1), .int g])) q (.lst [])) := Kp.fresh Kp.self nq
      have hq2 : (upd (upd G p (.lst [.ref l, .int (n + 1), .int g])) q (.lst [])) q = some (.lst []) := upd_same
      refine ⟨.list (ns.map PyData.int), .list [], .lst (SqL.of hl2) (dp_ints ns), .lst (SqL.of hq2) .nil, shaped_ints ns, rfl, _, rfl, ?_⟩
      rw [eqv_nil_r]
      refine ite2 (fun hne => ?yes) (fun hne => ?no)
      case' yes =>
        have hz : 0 < (ns.map V.int).length := by
          cases ns with
          | nil => exact absurd hne (by decide)
          | cons a r => exact Nat.succ_pos _
        obtain ⟨v, hv, hm⟩ := mod_at (xs := ns.map V.int) n hz
        obtain ⟨cell, rfl⟩ := mem_ints hm
        refine ⟨_, rfl, p, _, _, _, rfl, rfl, SqL.of hp2, rfl, _, rfl, .inl ⟨_, rfl, ?_⟩⟩
        refine ⟨_, rfl, p, _, _, _, rfl, rfl, SqL.of hp2, rfl, .ref l, _, rfl, .inl ⟨_, SqL.of hl2, rfl⟩, _, _, rfl, rfl, by omega, l, _, _, _, rfl, rfl, SqL.of hl2, hv, ?_⟩
      all_goals
        refine ⟨_, rfl, _, rfl, p, _, _, _, rfl, rfl, SqL.of hp2, rfl, .ref l, _, rfl, .inl ⟨_, SqL.of hl2, rfl⟩, _, _, rfl, rfl, _, rfl, ?_⟩
        refine ite2 (fun _ => ?_) (fun _ => ?_)
        case' _ =>
          refine ⟨_, rfl, _, rfl, _, _, rfl, rfl, ⟨by decide, by decide, by decide⟩, _, _, rfl, rfl, _, rfl, ?_⟩
          rw [pow18]
          refine ite2 (fun hbig => ?_) (fun hbig => ?_)
          case _ =>
            have hbig := of_decide_eq_true hbig
            refine ⟨_, rfl, _, rfl, _, _, rfl, rfl, ⟨by decide, by decide, by decide⟩, _, _, rfl, rfl, _, _, rfl, rfl, .inl ⟨by decide, by decide⟩, _, rfl, _, _, rfl, rfl, .inr ⟨_, rfl, _, _, rfl, rfl, ?_⟩⟩
            refine ⟨_, rfl, .inl ⟨_, rfl, _, rfl, _, _, rfl, rfl, ⟨m0, by omega⟩, _, rfl, p, _, _, 2, rfl, rfl, hp2, rfl, ?_⟩⟩
            refine ⟨_, rfl, .inl ⟨_, rfl, _, rfl, _, _, rfl, rfl, m0, ?_⟩⟩
            refine k _ _ (mod_lt _ m m0).1 (mod_lt _ m m0).2 (Kp.trans kp2 Kp.self) ⟨n + 1, _, ns, upd_same, ?_, lp, by omega, by omega, Int.ediv_nonneg ?_ (by omega)⟩
            · rw [upd_ne lp]
              exact hl2
            · rw [pow18]
              exact great_nonneg _ _ hbig
        all_goals
          refine ⟨_, rfl, .inl ⟨_, rfl, _, _, rfl, rfl, by show (0 : Int) < _; decide, _, rfl, _, _, rfl, rfl, .inl ⟨by decide, by decide⟩, _, _, rfl, rfl, _, _, rfl, rfl, _, _, rfl, rfl, ⟨by decide, by decide, ?_⟩, .inl ⟨_, rfl, _, _, rfl, rfl, by show (0 : Int) < _; decide, ?_⟩⟩⟩
          · omega
          refine ⟨_, rfl, _, rfl, _, _, rfl, rfl, .inl ⟨by decide, by decide⟩, _, _, rfl, rfl, _, _, rfl, rfl, .inr ⟨by omega, by omega⟩, ?_⟩
          refine ⟨_, rfl, _, _, rfl, rfl, .inl ⟨by decide, by decide⟩, _, rfl, _, _, rfl, rfl, .inr ⟨by omega, by omega⟩, _, _, rfl, rfl, _, _, rfl, rfl, _, _, rfl, rfl, ⟨by decide, by decide, ?_⟩, .inl ⟨_, rfl, _, _, rfl, rfl, by show (0 : Int) < _; decide, ?_⟩⟩
          · exact draw_bound _ _ _ _ _ ⟨(mod_lt _ _ (by decide)).1, Int.lt_trans (mod_lt _ _ (by decide)).2 (by decide)⟩ ⟨n0, by omega⟩ (by decide) (by decide) (by decide)
          refine ⟨_, rfl, _, _, rfl, rfl, ⟨by decide, by decide⟩, .inl ⟨_, rfl, _, rfl, _, _, rfl, rfl, m0, ?_⟩⟩
          exact k _ _ (mod_lt _ m m0).1 (mod_lt _ m m0).2 kp2 ⟨n + 1, g, ns, hp2, hl2, lp, by omega, by omega, g0⟩
theorem scPick : FnScope ["_law_pen_here", "_law_some"] ["_law_pen_here", "_law_some"] (defScope sPick) := ⟨rfl, rfl, rfl, by decide +kernel, rfl, by decide +kernel, by decide +kernel⟩
theorem ok_pick (D : DefIn K mg "_law_pick" sPick) (B : Blt mg) (F__law_draw : Ok P w K mg base "_law_draw" (defArgs sDraw) ["_law_pen_here", "_law_many"] 1 spDraw) : Ok P w K mg base "_law_pick" (defArgs sPick) ["_law_pen_here", "_law_some"] 2 (spPick K) := by
  refine D.ok scPick (fun vs G Q E h => ?_) (fun _ _ _ _ _ _ us hl => match us, hl with | [_, _], _ => rfl) (fun f cdv A out t G vs Q E hr h => ?_)
  · obtain ⟨p, l, a, c, xs, rfl, _⟩ := h
    rfl
  · obtain ⟨p, l, a, c, xs, rfl, hP, hc, ha, hS, h0, h1, k⟩ := h
    refine ⟨_, pss_one (ps_ret (pe_ix ix_list (pv 1) (pe_own F__law_draw (hr.mono (by decide)) takes0 (pa_cons (pv 0) (pa_cons (pe_callB call_len (by rfl) B.n_len bt_len (pa_cons (pv 1) pa_nil)) pa_nil))) (fun _ _ => rfl))), ?_⟩
    refine ⟨_, rfl, _, rfl, _, rfl, .ref a, _, rfl, .inl ⟨xs, hS, rfl⟩, p, l, c, (xs.length : Int), rfl, hP, hc, by omega, by omega, fun d G' d0 dm kp P' => ?_⟩
    obtain ⟨v, hv, _, hm⟩ := at_lt d d0 dm
    exact ⟨a, xs, d, v, rfl, rfl, kp.seq ha hS, hv, k v G' hm kp P'⟩
end
end K01
set_option Elab.async false
set_option linter.all false
set_option maxRecDepth 100000
set_option maxHeartbeats 4000000
/-! Own errors as plain values: any built-in base, values by position or by name. -/
namespace Qv
open PySem PySem.HandSPX
section
variable {M : Model} {A : Around} {E : Value → Shared → Prop} {h : Heap} {g : Array GenState} {d : Drawn} {t : Nat} {os : OsState} {prog : Program} {w : World} {R : Result → Shared → Prop}
variable {nm q : Str} {C N : Addr} {bs bm bmB : List Value} {hdct : Bool} {sn : List Str} {sub : List Value} {ab : Bool} {col : Option Bool} {dd : Option Addr} {k0 k1 k2 k3 k5 : Option Value} {B newId initId : String} {rest : List Value} {kw : List (Str × Value)}

/-- what new asks of the bases -/
def basesOk (B : String) (bm : List Value) : Bool := bm.contains (.type B) && (!bm.contains (.type "AttributeError") && !bm.contains (.type "NameError"))
theorem basesOk_ok {B : String} {bm : List Value} (h : basesOk B bm = true) : bm.contains (.type B) = true ∧ bm.contains (.type "AttributeError") = false ∧ bm.contains (.type "NameError") = false := by
  unfold basesOk at h
  simp only [Bool.and_eq_true, Bool.not_eq_true'] at h
  exact h
theorem chk_new (F : ExcBaseFacts B newId initId bmB) (hT : basesOk B bm = true) {Q : Unit → Shared → Prop}
    (hC : h.get? C = some (excClassObj nm q C N bs bm hdct sn sub ab col dd k0 k1 k2 k3 k5 newId)) (hq : Q () ⟨h, g, d, t, os⟩) : wpAny M A (checkBuiltinCall newId ⟨.ref C :: rest, kw⟩) Q E ⟨h, g, d, t, os⟩ := by
  have has : (Value.ref C :: bm).contains (.type B) = true := by rw [List.contains_cons, (basesOk_ok hT).1, Bool.or_true]
  have star := F.noStar
  simp only [checkBuiltinCall, F.newKind, F.newSplit, F.newRow]
  repeat (first | refine wpAny_loadPart_at hC ?_ | (refine wpAny_isSubtype_exc hC ?_; rw [has]) | refine wpAny_staticBase_exc hC ?_ | refine wpAny_madeBy_exc hC ?_ | simp only [bne_self_eq_false, Bool.false_eq_true, if_false] | wp_step)
  exact hq
theorem new_kw (F : ExcBaseFacts B newId initId bmB) (hT : basesOk B bm = true)
    (hC : h.get? C = some (excClassObj nm q C N bs bm hdct sn sub ab col dd k0 k1 k2 k3 k5 newId)) (hrest : rest.length ≤ sizeLine)
    (hq : R (.ok (.ret (.ref (h.objs.size + 1)))) ⟨(h.push (W.kdv_tup rest)).push (excO C h.objs.size), g, d, t, os⟩) :
    codeAny (model prog w) A (.builtin newId ⟨.ref C :: rest, kw⟩) R ⟨h, g, d, t, os⟩ := by
  have ends := F.ends
  have inB : (Value.ref C :: bm).contains (.type B) = true := by rw [List.contains_cons, (basesOk_ok hT).1, Bool.or_true]
  have inA : (Value.ref C :: bm).contains (.type "AttributeError") = false := by
    rw [List.contains_cons, (basesOk_ok hT).2.1]
    rfl
  have inN : (Value.ref C :: bm).contains (.type "NameError") = false := by
    rw [List.contains_cons, (basesOk_ok hT).2.2]
    rfl
  refine codeAny_builtinAt F.entry ?_
  unfold Builtin.«BaseException.__new__»
  refine PySem.wpAt_bind ?_
  show wpAt _ _ _ (stack >>= _) _ _ _
  refine PySem.wpAt_bind (PySem.wpAt_stack fun p below => PySem.wpAt_of_wpAny ?_)
  wp_walk
  refine PySem.wpAt_of_wpAny ?_
  rw [F.owner]
  repeat (first | with_reducible refine wpAny_madeHere_exc F.canon hC ?_ | with_reducible refine wpAny_loadPart_at hC ?_ | (with_reducible refine wpAny_isSubtype_exc hC ?_; first | rw [inB] | rw [inA] | rw [inN]) | wp_step)
  show R _ _
  rw [Heap.size_push]
  exact hq
theorem tc_kw (F : ExcBaseFacts B newId initId bmB) (hT : basesOk B bm = true) {fI : Addr} {Q : Fin → Shared → Prop}
    (hC : h.get? C = some (excClassObj nm q C N bs bm hdct sn sub ab col dd k0 k1 k2 k3 k5 newId))
    (hi : W.Looks (model prog w) h (typeLookup (.ref C) "__init__") (some (.ref fI))) (hb : ∀ self, W.Looks (model prog w) h (bindSpecial (.ref fI) self) (.ref fI, [self])) (hrest : rest.length ≤ sizeLine)
    (hq : codeAny (model prog w) A (.call (.ref fI) ⟨.ref (h.objs.size + 1) :: rest, kw⟩)
      (fun r s' => match r with | .ok (.ret v) => v = .none ∧ Q (.done (.ret (.ref (h.objs.size + 1)))) s' | .ok _ => False | .error e => E e s')
      ⟨(h.push (W.kdv_tup rest)).push (excO C h.objs.size), g, d, t, os⟩) :
    wpAny (model prog w) A (Builtin.«type.__call__» ⟨.ref C :: rest, kw⟩) Q E ⟨h, g, d, t, os⟩ := by
  repeat (first | with_reducible refine wpAny_loadPart_at hC ?_ | with_reducible refine wpAny_madeBy_exc hC ?_ | wp_step)
  refine codeAny_call_builtin_code (Code.quiet_builtin _ F.quiet) (chk_new F hT hC ?_)
  refine new_kw F hT hC hrest ?_
  show wpAny _ _ _ _ _ _
  have up : ∀ b o, h.get? b = some o → ((h.push (W.kdv_tup rest)).push (excO C h.objs.size)).get? b = some o := fun b o e => Heap.get?_push_of_some _ (Heap.get?_push_of_some _ e)
  have here : ((h.push (W.kdv_tup rest)).push (excO C h.objs.size)).get? (h.objs.size + 1) = some (excO C h.objs.size) := by heap_get
  have selfIn : (Value.ref C :: bm).contains (.ref C) = true := by simp
  have found := hi.keeps up
  have bound := (hb (.ref (h.objs.size + 1))).keeps up
  unfold isInstance
  repeat (first | with_reducible refine wpAny_loadPart_at here ?_ | (with_reducible refine wpAny_isSubtype_exc (up _ _ hC) ?_; rw [selfIn]) | wp_step)
  show wpAny _ _ (typeLookup (.ref C) _) _ _ _
  refine found.at ?_
  refine wpAny_holding (wpAny_bind (bound.at ?_))
  refine wpAny_bind (wpAny_call (codeAny_mono hq fun r s' z => ?_))
  rcases r with e | (v | _ | _ | _) <;> first | exact z | exact z.elim | skip
  obtain ⟨rfl, z⟩ := z
  first
    | exact wpAny_pure (wpAny_pure z)
    | (wp_walk; exact z)
theorem call_kw (F : ExcBaseFacts B newId initId bmB) (hT : basesOk B bm = true) {fI : Addr}
    (hC : h.get? C = some (excClassObj nm q C N bs bm hdct sn sub ab col dd k0 k1 k2 k3 k5 newId))
    (hi : W.Looks (model prog w) h (typeLookup (.ref C) "__init__") (some (.ref fI))) (hb : ∀ self, W.Looks (model prog w) h (bindSpecial (.ref fI) self) (.ref fI, [self])) (hrest : rest.length ≤ sizeLine)
    (hq : codeAny (model prog w) (A.under (.builtin "type.__call__" ⟨.ref C :: rest, kw⟩)) (.call (.ref fI) ⟨.ref (h.objs.size + 1) :: rest, kw⟩) (W.InitBack (h.objs.size + 1) R)
      ⟨(h.push (W.kdv_tup rest)).push (excO C h.objs.size), g, d, t, os⟩) :
    codeAny (model prog w) A (.call (.ref C) ⟨rest, kw⟩) R ⟨h, g, d, t, os⟩ := by
  have f1 := tc_lookup
  have f2 := tc_bind (.ref C)
  have isT : (⟨h, g, d, t, os⟩ : Shared).TypeIs (.ref C) "type" := ⟨_, hC, rfl⟩
  refine codeAny_of_tree ?_
  show wpAny _ _ (callAny (.ref C) _) _ _ _
  repeat (any_goals (first | assumption | with_reducible refine wpAny_loadPart_at hC ?_ | wp_step))
  refine ⟨rfl, ?_⟩
  refine codeAny_call_builtin_at (Code.quiet_builtin _ (by decide +kernel)) entry_typeCall (wpAny_check_type_call_sub hC (tc_kw F hT hC hi hb hrest ?_))
  refine codeAny_mono hq fun r s' z => ?_
  rcases r with e | (v | _ | _ | _) <;> exact z
end
section
open PySem.W Builtin Builtin.ObjectAttr
variable {prog : Program} {w : World} {A : Around} {R : Result → Shared → Prop} {K : W.Frag} {hp : Heap} {g : Array GenState} {d : Drawn} {t : Nat} {os : OsState} {name : Str} {tk : Tok} {v : Value} {x C : Addr} {fv : Array Value} {cd : ClassData} {B : String} {bmB : List Value}
/-- the first field: the dict is made -/
theorem put_first (SF : StoreFacts B bmB "object.__setattr__" "object") (X : K.In hp) (hx : hp.get? x = some { cls := .ref C, data := .fields fv }) (ov : W.excOver K C bmB = true) (hcd : W.clsIn K C = some cd) (hh : cd.hasDict = true) (ht : W.takerIn K C name = some none)
    (hq : ∀ h' tk' dx, (∀ b o, b ≠ x → hp.get? b = some o → h'.get? b = some o) → hp.objs.size ≤ dx → dx ≠ x → h'.get? x = some { cls := .ref C, dict := some dx, data := .fields fv } →
      h'.Ns1 dx (fun y => if y = name then some v else none) → R (.ok (.ret .none)) ⟨h', g, d, tk', os⟩) :
    codeAny (model prog w) A (.call (.builtin "object.__setattr__") ⟨[.ref x, .str name tk, v], []⟩) R ⟨hp, g, d, t, os⟩ := by
  have J : W.InstAt hp x { cls := .ref C, data := .fields fv } C none := ⟨hx, rfl, rfl, trivial⟩
  refine W.osa_openX (s := ⟨hp, g, d, t, os⟩) SF X J ov ht fun b => ?_
  have far : x ≠ hp.objs.size := Nat.ne_of_lt (Heap.lt_size hx)
  have hcls : W.Looks (model prog w) hp (classData C) cd := W.looks_clsIn X hcd
  show wpAny _ _ (storeInOwnDict (.ref x) (.ref C) (.str name tk) name v b) _ _ _
  obtain ⟨nm, bs, mro, ns, qn, hd, sn, sb, ab, col, del⟩ := cd
  dsimp only at hh
  subst hh
  unfold storeInOwnDict ownDictForStores
  repeat (first | with_reducible refine store_in_new ?_ ?_ | with_reducible refine wpAny_loadPart_at hx ?_ | with_reducible refine hcls.at ?_ | wp_step)
  · exact ⟨_, #[], _, (Heap.get?_update_ne _ _ _ _ far.symm).trans (Heap.get?_push_at rfl rfl), rfl, fun e he => absurd he (by simp), fun _ => rfl⟩
  · intro h' tk' hn' hs
    have hx' : (hp.push { cls := .type "dict", data := .dict #[] }).get? x = some { cls := .ref C, data := .fields fv } := Heap.get?_push_of_some _ hx
    refine hq h' tk' hp.objs.size (fun b o hb ho => ?_) (Nat.le_refl _) far.symm ?_ hn'
    · exact (hs.2 b (Nat.ne_of_lt (Heap.lt_size ho))).trans ((Heap.get?_update_ne _ _ _ _ hb).trans (Heap.get?_push_of_some _ ho))
    · exact (hs.2 x far).trans (Heap.get?_update_self _ hx' rfl)
/-- a further field -/
theorem put_more {dx : Addr} {m0 : Str → Option Value} {nl : List Str} (SF : StoreFacts B bmB "object.__setattr__" "object") (X : K.In hp) (hx : hp.get? x = some { cls := .ref C, dict := some dx, data := .fields fv }) (hns : hp.Ns1 dx m0) (hw : Within m0 nl) (hz : nl.length ≤ 1000)
    (ov : W.excOver K C bmB = true) (hcd : W.clsIn K C = some cd) (hh : cd.hasDict = true) (ht : W.takerIn K C name = some none)
    (hq : ∀ h' tk', (∀ b o, b ≠ dx → hp.get? b = some o → h'.get? b = some o) → h'.Ns1 dx (fun y => if y = name then some v else m0 y) → R (.ok (.ret .none)) ⟨h', g, d, tk', os⟩) :
    codeAny (model prog w) A (.call (.builtin "object.__setattr__") ⟨[.ref x, .str name tk, v], []⟩) R ⟨hp, g, d, t, os⟩ := by
  obtain ⟨oD, esD, epD, hoD, hdD, _⟩ := hns.count hw
  have J : W.InstAt hp x { cls := .ref C, dict := some dx, data := .fields fv } C (some oD) := ⟨hx, rfl, rfl, hoD⟩
  refine W.osa_openX (s := ⟨hp, g, d, t, os⟩) SF X J ov ht fun b => ?_
  have hcls : W.Looks (model prog w) hp (classData C) cd := W.looks_clsIn X hcd
  show wpAny _ _ (storeInOwnDict (.ref x) (.ref C) (.str name tk) name v b) _ _ _
  obtain ⟨nm, bs, mro, ns, qn, hd, sn, sb, ab, col, del⟩ := cd
  dsimp only at hh
  subst hh
  unfold storeInOwnDict ownDictForStores
  repeat (first | with_reducible refine OEX.store_in_old hns hw hz ?_ | with_reducible refine wpAny_loadPart_at hx ?_ | with_reducible refine hcls.at ?_ | wp_step)
  intro h' tk' hn' hs
  exact hq h' tk' (fun b o hb ho => (hs.2 b hb).trans ho) hn'
end
end Qv
set_option Elab.async false
set_option linter.all false
set_option maxRecDepth 100000
/-! KeyError's own store of a field. -/
namespace Qv
open PySem PySem.F
abbrev keyMro : List Value := [.type "KeyError", .type "LookupError", .type "Exception", .type "BaseException", .type "object"]
theorem key_store : StoreFacts "KeyError" keyMro "object.__setattr__" "object" := ⟨by rw [mroOf_type]; kernel_rfl, .of (owner := "object") (n := "__setattr__") (by rw [typeLookup_type, builtinLookup_eq_fast]; kernel_rfl) (by decide +kernel) (by decide +kernel) (by decide +kernel) (by first | exact .inl (by decide +kernel) | exact .inr (by decide +kernel)) (by rw [isSubtype_type]; kernel_rfl),
  entry_object_sa, by decide +kernel, by decide +kernel, by decide +kernel, fun a b c => by unfold argsOk; kernel_rfl, fun self => by kernel_rfl⟩
end Qv
set_option Elab.async false
set_option linter.all false
set_option maxRecDepth 100000
set_option maxHeartbeats 4000000
/-! Own errors with one field or more, made by their own __init__. -/
namespace Qh
open PySem PySem.Spec PyProof.Rows L2 TL
/-- the class at C as the top has left it -/
structure ErrC (K : PySem.W.Frag) (mg : Str → Option Value) (x : Str) (C : Addr) : Prop where
  g : mg x = some (.ref C)
  o : OexC K C
  xf : XfC K C
  ec : ExcC K C
/-- C.__init__(self, f): self.f = f -/
def spErr1 (C : Addr) (f : Str) : Sp := fun vs G Q _ => ∃ (a : Addr) (v : V), vs = [.ref a, v] ∧ G a = some (exo a C none) ∧ ∀ d, G d = none → d ≠ a → Q .non (upd (upd G d (exd d [(f, v)])) a (exo a C (some d)))
structure Err1 (P : Program) (w : World) (K : PySem.W.Frag) (mg : Str → Option Value) (base : Heap) (x f : Str) (C : Addr) : Prop where
  c : ErrC K mg x C
  no : PySem.W.findIn K (.ref C) f = some none
  init : ∃ (fI : Addr) (fd : FuncData), PySem.W.findIn K (.ref C) "__init__" = some (some (.ref fI)) ∧ PySem.W.typeIn K (.ref fI) = some (.type "function") ∧ Binds K fd ["self", f] [] ∧
    FnOk P w K mg base (L2.CX P w) 1 fI fd ["self", f] (spErr1 C f)
section
variable {X : Cx} {x f : Str} {C : Addr} {e : Expr} {te : TE} {p pos : Pos}
end
/-! ### parts between blanks -/
theorem map_at {α β : Type} {f : α → β} {l : List α} {i : Nat} {b : β} (h : (l.map f)[i]? = some b) : ∃ a, l[i]? = some a ∧ b = f a := by
  rw [List.getElem?_map] at h
  cases e : l[i]? with
  | none => rw [e] at h; cases h
  | some a => rw [e] at h; exact ⟨a, rfl, (Option.some.inj h).symm⟩

/-! ### texts put together -/
def nothing : Str := Str.ofString ""
section
variable {X : Cx}
end
def told (ps : List Str) : PyData := .tuple [.str (Str.ofString "told"), .tuple (ps.map PyData.str)]
end Qh
set_option Elab.async false
set_option linter.all false
set_option maxRecDepth 100000
set_option maxHeartbeats 4000000
/-! New objects, told by what stands there and what stays; values that are no texts; repr of texts. -/
namespace Qh
open PySem PySem.Spec PyProof.Rows L2 TL
section
variable {X : Cx} {es : List Expr} {t : TA} {pos : Pos}
def nTup (t : TA) : TE := fun σ G Q => t σ G fun xs G1 => xs.length ≤ sizeLine ∧ ∀ p G', G1 p = none → Same G1 G' → G' p = some (.tup xs) → Q (.ref p) G'
def nLst (t : TA) : TE := fun σ G Q => t σ G fun xs G1 => xs.length ≤ sizeLine ∧ ∀ p G', G1 p = none → Same G1 G' → G' p = some (.lst xs) → Q (.ref p) G'
theorem pn_tup {x1} (h : PA X es t) : PE X (.Tuple es x1 pos) (nTup t) := by
  constructor
  intro pins s σ G Q I hq
  refine wpAny_Tuple_spliced (thn (h.run pos pins s σ G _ I hq) ?_)
  rintro us s1 ⟨xs, G1, I1, r, z, q⟩
  refine ⟨r.length ▸ z, ?_⟩
  have hf : G1 s1.heap.objs.size = none := I1.hok.fresh (Nat.le_refl _)
  refine ⟨.ref s1.heap.objs.size, L2.upd G1 s1.heap.objs.size (.tup xs), I1.laid (t' := s1.toks) (fun b u e => Heap.get?_push_of_some _ e) (Nat.le_refl _) ?_, rfl, q _ _ hf (Same.new hf) upd_same⟩
  exact ⟨z, us, r, ⟨_, Heap.get?_push_size _ rfl, rfl, _, rfl⟩⟩
theorem pn_lst (h : PA X es t) : PE X (.List es pos) (nLst t) := by
  constructor
  intro pins s σ G Q I hq
  refine wpAny_List_spliced (thn (h.run pos pins s σ G _ I hq) ?_)
  rintro us s1 ⟨xs, G1, I1, r, z, q⟩
  refine ⟨r.length ▸ z, ?_⟩
  have hf : G1 s1.heap.objs.size = none := I1.hok.fresh (Nat.le_refl _)
  refine ⟨.ref s1.heap.objs.size, L2.upd G1 s1.heap.objs.size (.lst xs), I1.laid (t' := s1.toks) (fun b u e => Heap.get?_push_of_some _ e) (Nat.le_refl _) ?_, rfl, q _ _ hf (Same.new hf) upd_same⟩
  exact ⟨z, us, 0, r, Heap.get?_push_size _ rfl⟩
theorem opr_imp {f : Value → Value → Sem Value} {r r' : R2} (h : OpR X f r) (k : ∀ x y G Q, r' x y G Q → r x y G Q) : OpR X f r' := fun pins s σ G x y v u Q I rx ry q => h pins s σ G x y v u Q I rx ry (k x y G Q q)
def nCat : R2 := fun x y G Q => ∃ l b xs zs, x = .ref l ∧ y = .ref b ∧ G l = some (.lst xs) ∧ G b = some (.lst zs) ∧ xs.length + zs.length ≤ sizeLine ∧ ∀ p G', G p = none → Same G G' → G' p = some (.lst (xs ++ zs)) → Q (.ref p) G'
theorem on_cat : OpR X (binaryOp .Add) nCat := opr_imp op_cat fun x y G Q ⟨l, b, xs, zs, e1, e2, h1, h2, hz, q⟩ => ⟨l, b, xs, zs, e1, e2, h1, h2, hz, fun p hp => q p _ hp (Same.new hp) upd_same⟩
def nRep : R2 := fun x y G Q => ∃ l k xs, x = .ref l ∧ y = .int k ∧ G l = some (.lst xs) ∧ -(2 ^ 63) ≤ k ∧ k < 2 ^ 63 ∧ xs.length * k.toNat ≤ sizeLine ∧ ∀ p G', G p = none → Same G G' → G' p = some (.lst (List.replicate k.toNat xs).flatten) → Q (.ref p) G'
theorem on_rep : OpR X (binaryOp .Mult) nRep := opr_imp op_rep fun x y G Q ⟨l, k, xs, e1, e2, h1, h2, h3, hz, q⟩ => ⟨l, k, xs, e1, e2, h1, h2, h3, hz, fun p hp => q p _ hp (Same.new hp) upd_same⟩
theorem pe_imp {e : Expr} {te te' : TE} (h : PE X e te) (k : ∀ σ G Q, te' σ G Q → te σ G Q) : PE X e te' := ⟨fun pins s σ G Q I q => h.run pins s σ G Q I (k σ G Q q)⟩
end
/-! ### what is read stays -/
mutual
theorem dp_same {K : PySem.W.Frag} {G G' : Hp} (s : Same G G') : ∀ {v : V} {d : PyData}, Dp K G v d → Dp K G' v d
  | _, _, .non => .non
  | _, _, .bl b => .bl b
  | _, _, .int i => .int i
  | _, _, .str x => .str x
  | _, _, .lst h r => .lst (s.seq h) (dps_same s r)
  | _, _, .tup h r => .tup (by
      rcases h with (h | ⟨o, h⟩) | h
      · exact .inl (.inl (s _ _ h))
      · exact .inl (.inr ⟨o, s _ _ h⟩)
      · exact .inr h) (dps_same s r)
theorem dps_same {K : PySem.W.Frag} {G G' : Hp} (s : Same G G') : ∀ {vs : List V} {ds : List PyData}, DpAll K G vs ds → DpAll K G' vs ds
  | _, _, .nil => .nil
  | _, _, .cons h r => .cons (dp_same s h) (dps_same s r)
end
/-- no text, of a known type -/
def Odd (K : PySem.W.Frag) (G : Hp) (v : V) : Prop := (∀ x, v ≠ .str x) ∧ ((v = .non ∨ (∃ b, v = .bl b) ∨ ∃ i, v = .int i) ∨ ∃ a o, v = .ref a ∧ G a = some o ∧ ((∃ xs, o = .lst xs) ∨ (∃ xs, o = .tup xs) ∨ ∃ kvs, o = .dK kvs))
theorem Odd.same {K : PySem.W.Frag} {G G' : Hp} {v : V} (h : Odd K G v) (s : Same G G') : Odd K G' v := by
  obtain ⟨h1, h2 | ⟨a, o, e, ha, h3⟩⟩ := h
  · exact ⟨h1, .inl h2⟩
  · exact ⟨h1, .inr ⟨a, o, e, s _ _ ha, h3⟩⟩
/-! ### repr of a tuple of texts -/
/-! ### what is heard of words put together -/
theorem eqv_same {d : PyData} (h : SeqAt.shaped d = true) : PyData.eqv d d = true := SeqAt.eqv_refl d (SeqAt.canLay_of_shaped h)
end Qh
set_option Elab.async false
set_option linter.all false
set_option maxRecDepth 100000
set_option maxHeartbeats 4000000
/-! Own errors as plain values, in the layer of readings. -/
namespace Qv
open PySem PySem.Spec PyProof.Rows L2 Qh
/-- what the top says of an own error class, whatever its built-in base -/
structure OexG (K : PySem.W.Frag) (C : Addr) : Prop where
  cls : ∃ (B newId initId Bs : String) (bmN bmB : List Value) (nm q : Str) (N : Addr) (bs bm : List Value) (sn : List Str) (sub : List Value) (ab : Bool) (col : Option Bool) (dd : Option Addr) (k0 k1 k2 k3 k5 : Option Value),
    K.lookup C = some (excClassObj nm q C N bs bm true sn sub ab col dd k0 k1 k2 k3 k5 newId) ∧ basesOk B bm = true ∧ ExcBaseFacts B newId initId bmN ∧ StoreFacts Bs bmB "object.__setattr__" "object"  ∧ PySem.W.excOver K C bmB = true
  sa : PySem.W.findIn K (.ref C) "__setattr__" = some (some (.builtin "object.__setattr__"))
  kC : PySem.W.keepIn K (.ref C) = true
/-- the error of the class C at a, with these fields -/
def ErrAt (G : Hp) (a C : Addr) (fs : List (Str × V)) : Prop := ∃ d, G a = some (exo a C (some d)) ∧ G d = some (exd d fs)
theorem ErrAt.same {G G' : Hp} {a C : Addr} {fs : List (Str × V)} (e : ErrAt G a C fs) (s : Same G G') : ErrAt G' a C fs := by
  obtain ⟨d, h1, h2⟩ := e
  exact ⟨d, s _ _ h1, s _ _ h2⟩
/-- C.__init__(self, f, ..): self.f = f, .. -/
def spErrG (C : Addr) (fields : List Str) : Sp := fun vs G Q _ => ∃ (a : Addr) (ws : List V), vs = .ref a :: ws ∧ ws.length = fields.length ∧ G a = some (exo a C none) ∧
  ∀ d, G d = none → d ≠ a → Q .non (upd (upd G d (exd d (fields.zip ws).reverse)) a (exo a C (some d)))
section
variable {X : Cx} {pins : List (Addr × Obj)} {σ : L2.St} {H : Hp} {s : Shared} {a C dx : Addr} {f : Str} {y : V} {u : Value} {fs : List (Str × V)} {Q : Unit → Shared → Prop} {E : Value → Shared → Prop} {A : Around}
theorem OexG.data {K : PySem.W.Frag} {C : Addr} (T : OexG K C) : ∃ (B newId initId Bs : String) (bmN bmB : List Value) (nm q : Str) (N : Addr) (bs bm : List Value) (sn : List Str) (sub : List Value) (ab : Bool) (col : Option Bool) (dd : Option Addr) (k0 k1 k2 k3 k5 : Option Value) (cd : ClassData),
    K.lookup C = some (excClassObj nm q C N bs bm true sn sub ab col dd k0 k1 k2 k3 k5 newId) ∧ basesOk B bm = true ∧ ExcBaseFacts B newId initId bmN ∧ StoreFacts Bs bmB "object.__setattr__" "object" ∧ PySem.W.excOver K C bmB = true ∧ PySem.W.clsIn K C = some cd ∧ cd.hasDict = true := by
  obtain ⟨B, newId, initId, Bs, bmN, bmB, nm, q, N, bs, bm, sn, sub, ab, col, dd, k0, k1, k2, k3, k5, h1, h2, h3, h4, h5⟩ := T.cls
  exact ⟨B, newId, initId, Bs, bmN, bmB, nm, q, N, bs, bm, sn, sub, ab, col, dd, k0, k1, k2, k3, k5, { name := nm, bases := bs, mro := .ref C :: bm, ns := N, qualname := q, hasDict := true, slotNames := sn, subclasses := sub, abstract := ab, collection := col, hasDel := false },
    h1, h2, h3, h4, h5, by unfold PySem.W.clsIn; rw [h1] <;> rfl, rfl⟩
theorem taker_none {K : PySem.W.Frag} {C : Addr} {f : Str} (h : PySem.W.findIn K (.ref C) f = some none) : PySem.W.takerIn K C f = some none := by
  unfold PySem.W.takerIn
  rw [h]
  rfl
/-- self.f = y, the first one -/
theorem osg_new (T : OexG X.K C) (I : Inv X pins σ H s) (e : H a = some (exo a C none)) (hno : PySem.W.findIn X.K (.ref C) f = some none) (ry : RelV y u)
    (h : ∀ dx s', H dx = none → dx ≠ a → Inv X pins σ (upd (upd H dx (exd dx [(f, y)])) a (exo a C (some dx))) s' → Q () s') : wpAny (model X.prog X.w) A (setAttr (.ref a) f u) Q E s := by
  obtain ⟨_, _, _, _, _, _, _, _, _, _, _, _, _, _, _, _, _, _, _, _, _, cd, hC, _, _, SF, ov, hcl, hh⟩ := T.data
  obtain ⟨t1, ho⟩ := exo_at I.hok e
  obtain ⟨hp, g, d, t, os⟩ := s
  refine PySem.W.set_plain I.kIn (ox := { cls := .ref C, dict := none, data := .fields #[.ref t1, .none, .none, .none, .bool false, .none] }) (od := none) ⟨ho, rfl, rfl, trivial⟩ T.sa ?_
  refine put_first SF I.kIn ho ov hcl hh (taker_none hno) fun h' tk' dx k dn dne hx hn => ?_
  have free : H dx = none := I.hok.fresh dn
  have old : ∀ {b : Addr} {o : Obj}, hp.get? b = some o → b ≠ dx := fun {b o} z => Nat.ne_of_lt (Nat.lt_of_lt_of_le (Heap.lt_size z) dn)
  have nota : ∀ {b : Addr}, H b = none → b ≠ a := fun {b} n z => by
    rw [z, e] at n
    cases n
  have U : Un X.fs [] H (upd (upd H dx (exd dx [(f, y)])) a (exo a C (some dx))) hp h' := ⟨fun b o z n _ _ => k b o (nota n) z, fun b o z n _ _ => ⟨o.slots, k b o (nota n) z⟩,
    fun b o z n _ => by rw [upd_ne (nota n), upd_ne (old z)]; exact n,
    fun b o z _ => by
      by_cases hb : b = a
      · subst hb
        exact ⟨_, hx⟩
      · exact ⟨o, k b o hb z⟩,
    fun b xs z => by rw [upd_ne (at_ne e z exo_tup), upd_ne (ne_of_none z free)]; exact z,
    fun b o v z => by rw [upd_ne (at_ne e z exo_frz), upd_ne (ne_of_none z free)]; exact z,
    fun b ps z => ⟨#[], by rw [upd_ne (at_ne e z exo_tbl), upd_ne (ne_of_none z free), z]; simp⟩⟩
  refine h dx _ free dne (I.un (t' := tk') U fun b o z => ?_)
  by_cases hb : b = a
  · subst hb
    rw [upd_same] at z
    cases z
    exact exo_ok hx
  by_cases hd : b = dx
  · subst hd
    rw [upd_ne hb, upd_same] at z
    cases z
    exact exd_ok hn (relO_put (fs := []) ry fun g => True.intro)
  rw [upd_ne hb, upd_ne hd] at z
  refine (I.hok b o z).stay (fun c v hc q => k c v ?_ q) (fun c hc => ?_) (fun c xs hc => ?_)
  · rcases hc with rfl | hc
    · exact hb
    · exact at_ne e hc exo_own
  · rw [upd_ne (at_ne e hc exo_own), upd_ne (ne_of_none hc free)]
    exact hc
  · rw [upd_ne (at_ne e hc exo_tup), upd_ne (ne_of_none hc free)]
    exact hc
/-- .. a further one -/
theorem osg_old (T : OexG X.K C) (I : Inv X pins σ H s) (e : H a = some (exo a C (some dx))) (ed : H dx = some (exd dx fs)) (hl : fs.length ≤ 900) (hno : PySem.W.findIn X.K (.ref C) f = some none) (ry : RelV y u)
    (h : ∀ s', Inv X pins σ (upd H dx (exd dx ((f, y) :: fs))) s' → Q () s') : wpAny (model X.prog X.w) A (setAttr (.ref a) f u) Q E s := by
  obtain ⟨_, _, _, _, _, _, _, _, _, _, _, _, _, _, _, _, _, _, _, _, _, cd, hC, _, _, SF, ov, hcl, hh⟩ := T.data
  obtain ⟨t1, ho⟩ := exo_at I.hok e
  obtain ⟨mA, hns, rel⟩ := exd_at I.hok ed
  obtain ⟨hp, g, d, t, os⟩ := s
  obtain ⟨oD, _, _, hoD, _, _⟩ := hns.count (within_of rel)
  refine PySem.W.set_plain I.kIn (ox := { cls := .ref C, dict := some dx, data := .fields #[.ref t1, .none, .none, .none, .bool false, .none] }) (od := some oD) ⟨ho, rfl, rfl, hoD⟩ T.sa ?_
  refine put_more SF I.kIn ho hns (within_of rel) (by rw [List.length_map]; omega) ov hcl hh (taker_none hno) fun h' tk' k hn => ?_
  have there : ∃ o, h'.get? dx = some o := by
    obtain ⟨o, _, _, z, _⟩ := hn
    exact ⟨o, z⟩
  exact h _ (I.write (t' := tk') (x := dx) (e := dx) (o := exd dx ((f, y) :: fs)) (by rw [ed]; exact True.intro) (.inl rfl) k there (exd_ok hn (relO_put ry rel)))
end
/-- self.f = e in such an __init__ -/
def tOsg (K : PySem.W.Frag) (f : Str) (to te : TE) : TS := fun D σ H => te σ H fun y H1 => to σ H1 fun x H2 => ∃ a C : Addr, x = .ref a ∧ OexG K C ∧ PySem.W.findIn K (.ref C) f = some none ∧
  ((H2 a = some (exo a C none) ∧ ∀ dx, H2 dx = none → dx ≠ a → D.nx σ (upd (upd H2 dx (exd dx [(f, y)])) a (exo a C (some dx)))) ∨
    ∃ (dx : Addr) (fs : List (Str × V)), H2 a = some (exo a C (some dx)) ∧ H2 dx = some (exd dx fs) ∧ fs.length ≤ 900 ∧ D.nx σ (upd H2 dx (exd dx ((f, y) :: fs))))
section
variable {X : Cx} {o e : Expr} {es : List Expr} {kws : List Keyword} {to te : TE} {ta : TA} {f x : Str} {p p' pos : Pos} {C : Addr} {fields : List Str}
theorem ps_osg (ho : PE X o to) (he : PE X e te) (hs : swapsWith e (some (.Attribute o f p')) pos.line X.env = pure false := by rfl) : PS X (.Assign [.Attribute o f p'] e pos) (tOsg X.K f to te) := by
  constructor
  intro pins s σ H D I h
  refine plainObj_wpAny_Assign_Attribute (thn (he.run pins s σ H _ I h) ?_) hs
  rintro v s1 ⟨y, H1, I1, r1, q1⟩
  refine thn (ho.run pins s1 σ H1 _ I1 q1) ?_
  rintro u s2 ⟨x, H2, I2, r2, a, C, rfl, T, hno, q⟩
  obtain rfl : u = Value.ref a := r2
  rcases q with ⟨ea, q⟩ | ⟨dx, fs, ea, ed, hl, q⟩
  · exact osg_new T I2 ea hno r1 fun dx s' n ne J => ⟨σ, _, J, q dx n ne⟩
  · exact osg_old T I2 ea ed hl hno r1 fun s' J => ⟨σ, _, J, q⟩
end
end Qv
set_option Elab.async false
set_option linter.all false
set_option maxRecDepth 100000
set_option maxHeartbeats 4000000
/-! Own errors as plain values: made, read, told apart. -/
namespace Qv
open PySem PySem.Spec PyProof.Rows L2 Qh
/-- an own error class with this __init__ -/
structure ErrK (P : Program) (w : World) (K : PySem.W.Frag) (mg : Str → Option Value) (base : Heap) (x qn : Str) (pa : Arguments) (fields : List Str) (C : Addr) : Prop where
  g : mg x = some (.ref C)
  o : OexG K C
  xf : XfC K C
  ec : ExcC K C
  no : ∀ f ∈ fields, PySem.W.findIn K (.ref C) f = some none
  init : ∃ (fI : Addr) (body : List Stmt) (scope : Scope) (kV doc pm : Value) (an : Option Addr) (cdv ct : Value), PySem.W.findIn K (.ref C) "__init__" = some (some (.ref fI)) ∧ PySem.W.typeIn K (.ref fI) = some (.type "function") ∧
    (∀ us : List Value, us.length = fields.length + 1 → bindArgs (PySem.W.fnOf "__init__" qn pa body scope .none kV doc pm an cdv ct) ⟨us, []⟩ = pure ((("self" : Str) :: fields).zip us)) ∧
    FnOk P w K mg base (L2.CX P w) 1 fI (PySem.W.fnOf "__init__" qn pa body scope .none kV doc pm an cdv ct) (("self" : Str) :: fields) (spErrG C fields)
section
variable {X : Cx} {pins : List (Addr × Obj)} {σ : L2.St} {H1 : Hp} {s : Shared} {C fI : Addr} {fd : FuncData} {ps : List Str} {sp : Sp} {rest us : List Value} {kw : List (Str × Value)} {vs : List V} {Q : VK}
theorem run_err (T : OexG X.K C) (iC : PySem.W.findIn X.K (.ref C) "__init__" = some (some (.ref fI))) (tI : PySem.W.typeIn X.K (.ref fI) = some (.type "function")) (F : FnOk X.prog X.w X.K X.mg X.base (L2.CX X.prog X.w) 1 fI fd ps sp)
    (hr : Room 2 X.A) (hb : ∀ (t : Shared) (a : Addr), BindsTo t fd ⟨.ref a :: rest, kw⟩ (ps.zip (.ref a :: us))) (hrest : rest.length ≤ sizeLine) (I : Inv X pins σ H1 s) (r : Vals vs us)
    (hq : ∀ a, H1 a = none → sp (.ref a :: vs) (upd H1 a (exo a C none)) (fun v H2 => v = .non ∧ Q (.ref a) H2) (fun _ _ _ => False)) : wpAny (model X.prog X.w) X.A (call (.ref C) rest kw) (EP X pins σ Q) X.xe s := by
  obtain ⟨_, _, _, _, _, _, _, _, _, bm, _, _, _, _, _, _, _, _, _, _, _, _, hC, bo, FB, _⟩ := T.data
  obtain ⟨hp, g, dr, tk, os⟩ := s
  have le : hp.objs.size ≤ hp.objs.size + 1 := Nat.le_succ _
  have free : H1 (hp.objs.size + 1) = none := I.hok.fresh le
  have want := hq (hp.objs.size + 1) free
  have grow : ∀ b o, hp.get? b = some o → ((hp.push (PySem.W.kdv_tup rest)).push (PySem.HandSPX.excO C hp.objs.size)).get? b = some o := fun b o e => Heap.get?_push_of_some _ (Heap.get?_push_of_some _ e)
  have here : ((hp.push (PySem.W.kdv_tup rest)).push (PySem.HandSPX.excO C hp.objs.size)).get? (hp.objs.size + 1) = some (PySem.HandSPX.excO C hp.objs.size) := by heap_get
  have J : Inv X pins σ (upd H1 (hp.objs.size + 1) (exo (hp.objs.size + 1) C none)) ⟨(hp.push (PySem.W.kdv_tup rest)).push (PySem.HandSPX.excO C hp.objs.size), g, dr, tk, os⟩ :=
    I.laid (t' := tk) grow le (exo_ok here)
  have r2 : Vals (V.ref (hp.objs.size + 1) :: vs) (Value.ref (hp.objs.size + 1) :: us) := .cons rfl r
  refine wpAny_call (call_kw FB bo (I.kIn _ _ hC) (PySem.W.looks_findIn I.kIn iC) (fun self => PySem.W.bind_fn I.kIn self tI) hrest ?_)
  refine codeAny_mono (F.run _ X.stack _ _ ⟨Value.ref (hp.objs.size + 1) :: rest, kw⟩ (Value.ref (hp.objs.size + 1) :: us) _ _ (fun _ _ _ => False) (hr.make C rest kw) (J.env0.make C rest kw) (hb _ _) r2 want) ?_
  rintro (er | fl) s' h
  · exact passL pins σ _ _ er s' J h
  · cases fl with
    | next => exact h.elim
    | brk => exact h.elim
    | cont => exact h.elim
    | ret u =>
      obtain ⟨v, σv, Jv, rv, ev, q⟩ := J.after h
      subst ev
      exact ⟨rv, .ref (hp.objs.size + 1), _, Jv, rfl, q⟩
end
/-- C(e, ..) or C(f = e, ..) as a value; g: the values in the parameters' order -/
def tErrV (C : Addr) (fields : List Str) (g : List V → List V) (ta : TA) : TE := fun σ G Q => ta σ G fun vs G1 => vs.length = fields.length ∧ ∀ a G', G1 a = none → Same G1 G' → ErrAt G' a C (fields.zip (g vs)).reverse → Q (.ref a) G'
section
variable {X : Cx} {o e : Expr} {es : List Expr} {kws : List Keyword} {to te : TE} {ta : TA} {f x qn : Str} {pa : Arguments} {p pos : Pos} {C : Addr} {fields : List Str}
theorem errV_want {H1 : Hp} {ws : List V} {Q : VK} (hl : ws.length = fields.length) (q : ∀ a G', H1 a = none → Same H1 G' → ErrAt G' a C (fields.zip ws).reverse → Q (.ref a) G') (a : Addr) (ha : H1 a = none) :
    spErrG C fields (.ref a :: ws) (upd H1 a (exo a C none)) (fun v H2 => v = .non ∧ Q (.ref a) H2) (fun _ _ _ => False) := by
  refine ⟨a, ws, rfl, hl, upd_same, fun d hd da => ⟨rfl, q a _ ha (fun b o z => ?_) ⟨d, upd_same, ?_⟩⟩⟩
  · rw [upd_ne da] at hd
    rw [upd_ne (ne_of_none z ha), upd_ne (ne_of_none z hd), upd_ne (ne_of_none z ha)]
    exact z
  · rw [upd_ne da, upd_same]
theorem pe_errV (T : ErrK X.prog X.w X.K X.mg X.base x qn pa fields C) (hr : Room 2 X.A) (hlen : fields.length ≤ 1000) (ha : PA X (e :: es) ta) (hg : Gl X x := by rfl) (hdb : (x == ("__debug__" : Str)) = false := by decide)
    (he : starEach (e :: es) X.env = (false, eval e X.env) :: starEach es X.env := by rfl) (hpl : (backTo pos (starEach es X.env)).any (·.1) = false := by rfl) :
    PE X (.Call (.Name x p) (e :: es) [] pos) (tErrV C fields (fun l => l) ta) := by
  obtain ⟨fI, body, scope, kV, doc, pm, an, cdv, ct, iC, tI, hb, F⟩ := T.init
  constructor
  intro pins s σ G Q I h
  refine wpAny_Call_Name_kw (ld_glob I hg T.g ?_ hdb)
  refine PySem.W.callWith_K (h₀ := X.base) I.ok.mod.kin T.o.kC (thn (ha.run pos pins s σ G _ I h) ?_) he hpl
  rintro us s1 ⟨vs, G1, I1, r, hl, q⟩
  have hu : us.length = fields.length := r.length ▸ hl
  exact ⟨I1.kIn, run_err T.o iC tI F hr (fun t a => .of_eq (hb (.ref a :: us) (by rw [List.length_cons, hu]))) (by show us.length ≤ sizeLine; rw [hu]; exact Nat.le_trans hlen (by decide)) I1 r (errV_want hl q)⟩
theorem pe_errK (g : {α : Type} → List α → List α) (T : ErrK X.prog X.w X.K X.mg X.base x qn pa fields C) (hr : Room 2 X.A) (hkw : PK X kws ta) {ks : List Str}
    (hbk : ∀ (body : List Stmt) (scope : Scope) (kV doc pm : Value) (an : Option Addr) (cdv ct self : Value) (ws : List Value), ws.length = fields.length → bindArgs (PySem.W.fnOf "__init__" qn pa body scope .none kV doc pm an cdv ct) ⟨[self], ks.zip ws⟩ = pure ((("self" : Str) :: fields).zip (self :: g ws)))
    (hrel : ∀ {zs : List V} {ws : List Value}, Vals zs ws → Vals (g zs) (g ws)) (hlen : ∀ ws : List V, (g ws).length = ws.length) (hg : Gl X x := by rfl) (hdb : (x == ("__debug__" : Str)) = false := by decide)
    (hall : (backToKw pos (keywordEach kws X.env)).all (·.1.isSome) = true := by rfl) (hks : (backToKw pos (keywordEach kws X.env)).filterMap (·.1) = ks := by rfl)
    (hpl : ((backTo pos (starEach [] X.env)).any (·.1) || (backToKw pos (keywordEach kws X.env)).any (·.1.isNone)) = false := by rfl) :
    PE X (.Call (.Name x p) [] kws pos) (tErrV C fields (fun l => g l) ta) := by
  obtain ⟨fI, body, scope, kV, doc, pm, an, cdv, ct, iC, tI, hb, F⟩ := T.init
  constructor
  intro pins s σ G Q I h
  refine wpAny_Call_Name_kw (ld_glob I hg T.g ?_ hdb)
  refine PySem.W.callWith_KW0 (h₀ := X.base) I.ok.mod.kin T.o.kC hall ?_ hpl
  refine thn (hkw.run pos pins s σ G _ I h) ?_
  rintro ws s2 ⟨zs, G2, I2, rz, hl, q⟩
  have hu : ws.length = fields.length := rz.length ▸ hl
  rw [hks]
  exact ⟨I2.kIn, run_err (rest := []) T.o iC tI F hr (fun t a => .of_eq (hbk body scope kV doc pm an cdv ct (.ref a) ws hu)) (Nat.zero_le _) I2 (hrel rz) (errV_want ((hlen zs).trans hl) q)⟩
/-- e.f, e such an error -/
def tErrG (K : PySem.W.Frag) (f : Str) (te : TE) : TE := fun σ G Q => te σ G fun x G1 => ∃ (a C : Addr) (fs : List (Str × V)) (v : V), x = .ref a ∧ ErrAt G1 a C fs ∧ XfC K C ∧ PySem.W.findIn K (.ref C) f = some none ∧ fs.lookup f = some v ∧ Q v G1
theorem pe_errG (he : PE X e te) (hb : attributeBase e f X.env (eval e X.env) = eval e X.env := by rfl) : PE X (.Attribute e f pos) (tErrG X.K f te) := by
  constructor
  intro pins s σ G Q I h
  refine attr_of hb (thn (he.run pins s σ G _ I h) ?_)
  rintro u s1 ⟨x, G1, I1, rx, a, C, fs, v, rfl, ⟨d, e1, e2⟩, T, hno, l, q⟩
  obtain rfl : u = Value.ref a := rx
  obtain ⟨t1, ha⟩ := exo_at I1.hok e1
  obtain ⟨mA, hns, hr⟩ := exd_at I1.hok e2
  obtain ⟨od, ho, hl⟩ := lookIn_ns hns
  obtain ⟨u, hu, ru⟩ := RelO.some_of (v := v) (o := mA f) (by rw [← l]; exact hr f)
  have J : PySem.W.InstAt s1.heap a _ C (some od) := ⟨ha, rfl, rfl, ho⟩
  exact HandSPX.exc_get I1.kIn J T.ga T.gg T.exC (PySem.W.findObj_own T.hdC hno rfl (by rw [hl, hu])) (handed_of ru) ⟨v, G1, I1.tok _, ru, q⟩
/-- isinstance(e, c) -/
def rErrIsG (K : PySem.W.Frag) : List V → Hp → VK → Prop := fun xs G Q => ∃ (a C : Addr) (fs : List (Str × V)) (c : V) (cv : Value) (b : Bool), xs = [.ref a, c] ∧ ErrAt G a C fs ∧ ExcC K C ∧ (∀ u, RelV c u → u = cv) ∧ PySem.W.kitOne K (.ref C) cv = some b ∧ Q (.bl b) G
theorem call_errIsG : CallR X (.builtin "isinstance") (rErrIsG X.K) := by
  rintro pins s σ G xs us Q I r ⟨a, D, fs, c, cv, b, rfl, ⟨d, e1, e2⟩, C, hcv, e, q⟩
  obtain ⟨u1, u2, rfl, r1, r2⟩ := vals2 r
  obtain rfl : u1 = Value.ref a := r1
  obtain rfl := hcv _ r2
  obtain ⟨t1, ha⟩ := exo_at I.hok e1
  obtain ⟨mA, hns, hr⟩ := exd_at I.hok e2
  obtain ⟨od, ho, hl⟩ := lookIn_ns hns
  have J : PySem.W.InstAt s.heap a _ D (some od) := ⟨ha, rfl, rfl, ho⟩
  have hcl : (PySem.W.clsIn X.K D).isSome = true := by
    obtain ⟨cd, hc, _⟩ := PySem.W.any_some C.hd
    rw [hc]
    rfl
  exact PySem.W.kia_one (PySem.W.kitx_exc hcl C.hg C.hk C.hs C.ha C.hn C.ht C.hm) I.kIn J e (fun z => nomatch z) fun tk => ⟨.bl b, G, I.kept (t' := tk) fun _ _ z => z, rfl, q⟩
end
end Qv
set_option Elab.async false
set_option linter.all false
set_option maxRecDepth 100000
set_option maxHeartbeats 4000000
/-! Data with small dicts: what is read, repr of it; new lists apart from sys.modules. -/
namespace Qv
open PySem PySem.Spec PyProof.Rows L2 Qh
mutual
inductive Dw (G : Hp) : V → PyData → Prop
  | non : Dw G .non .none
  | bl (b : Bool) : Dw G (.bl b) (.bool b)
  | int (i : Int) : Dw G (.int i) (.int i)
  | str (x : Str) : Dw G (.str x) (.str x)
  | lst {a : Addr} {xs : List V} {ds : List PyData} : a ≠ sysModules → G a = some (.lst xs) → DwAll G xs ds → Dw G (.ref a) (.list ds)
  | tup {a : Addr} {xs : List V} {ds : List PyData} : G a = some (.tup xs) → DwAll G xs ds → Dw G (.ref a) (.tuple ds)
  | dct {a : Addr} {k : Str} {i : Int} : G a = some (.dK [(.inr k, .int i)]) → Dw G (.ref a) (.dict [(.str k, .int i)])
inductive DwAll (G : Hp) : List V → List PyData → Prop
  | nil : DwAll G [] []
  | cons {v : V} {vs : List V} {d : PyData} {ds : List PyData} : Dw G v d → DwAll G vs ds → DwAll G (v :: vs) (d :: ds)
end
mutual
theorem Dw.same {G G' : Hp} (s : Same G G') : ∀ {v : V} {d : PyData}, Dw G v d → Dw G' v d
  | _, _, .non => .non
  | _, _, .bl b => .bl b
  | _, _, .int i => .int i
  | _, _, .str x => .str x
  | _, _, .lst n h r => .lst n (s _ _ h) (DwAll.same s r)
  | _, _, .tup h r => .tup (s _ _ h) (DwAll.same s r)
  | _, _, .dct h => .dct (s _ _ h)
theorem DwAll.same {G G' : Hp} (s : Same G G') : ∀ {vs : List V} {ds : List PyData}, DwAll G vs ds → DwAll G' vs ds
  | _, _, .nil => .nil
  | _, _, .cons h r => .cons (Dw.same s h) (DwAll.same s r)
end
section
variable {X : Cx} {pins : List (Addr × Obj)} {σ : L2.St} {G : Hp} {s : Shared}
mutual
theorem Dw.reads (I : Inv X pins σ G s) : ∀ {v : V} {d : PyData} (u : Value), Dw G v d → RelV v u → ∃ as, Reads s.heap u d as ∧ sysModules ∉ as
  | _, _, u, .non, r => by
    cases r
    exact ⟨_, .none, fun h => nomatch h⟩
  | _, _, u, .bl b, r => by
    cases r
    exact ⟨_, .bool b, fun h => nomatch h⟩
  | _, _, u, .int i, r => by
    obtain ⟨t, rfl⟩ := r
    exact ⟨_, .int i t, fun h => nomatch h⟩
  | _, _, u, .str x, r => by
    obtain ⟨t, rfl⟩ := r
    exact ⟨_, .str x t, fun h => nomatch h⟩
  | _, _, u, .lst (a := a) n h rr, r => by
    cases r
    obtain ⟨z, its, m, rv, hl, e⟩ := I.lstM h
    obtain ⟨as, hr, hs⟩ := DwAll.reads I its rr rv
    refine ⟨_, .list e rfl rfl hr, fun hm => ?_⟩
    rcases List.mem_cons.mp hm with hm | hm
    · exact n hm.symm
    · exact hs hm
  | _, _, u, .tup h rr, r => by
    cases r
    obtain ⟨its, rv, ⟨o, ho, hc, n, hd⟩, _⟩ := I.tuple (SqT.of h)
    obtain ⟨as, hr, hs⟩ := DwAll.reads I _ rr rv
    exact ⟨_, .tuple ho hc hd hr, hs⟩
  | _, _, u, .dct (a := a) (k := k) (i := i) h, r => by
    cases r
    obtain ⟨z, hsm, vs, kv, o, es, ep, ho, ex, hd, ko, pr, nd⟩ := I.hok a _ h
    have hna : a ≠ sysModules := fun e => by
      rw [e] at hsm
      exact absurd hsm (by decide)
    cases kv with
    | @cons _ q _ qs h1 h2 =>
      cases h2
      obtain ⟨qk, qv⟩ := q
      obtain ⟨e1, t, e2⟩ := h1
      have e1 : Sum.inr k = qk := e1
      have e2 : qv = Value.int i t := e2
      subst e1 e2
      generalize hes : es.toList = l at pr
      cases pr with
      | @cons e _ es' _ p1 p2 p3 =>
        cases p3
        have p1 : keyIs (Sum.inr k) e.key = true := p1
        rcases keyIs_shape p1 with ⟨_, _, z1, _⟩ | ⟨x, t2, z1, z2⟩
        · cases z1
        · cases z1
          refine ⟨_, .dict (kvs := [(.str k, .int i)]) ho ex.1 hd (as := [] ++ []) (bs := [] ++ []) ?_ ?_, ?_⟩
          · rw [hes]
            show ReadsAll s.heap [e.key] [.str k] ([] ++ [])
            rw [z2]
            exact .cons (.str k t2) .nil
          · rw [hes]
            show ReadsAll s.heap [e.val] [.int i] ([] ++ [])
            have p2 : e.val = Value.int i t := p2
            rw [p2]
            exact .cons (.int i t) .nil
          · intro hm
            simp at hm
            exact hna hm.symm
theorem DwAll.reads (I : Inv X pins σ G s) : ∀ {vs : List V} {ds : List PyData} (us : List Value), DwAll G vs ds → Vals vs us → ∃ as, ReadsAll s.heap us ds as ∧ sysModules ∉ as
  | _, _, us, .nil, r => by
    cases r
    exact ⟨_, .nil, fun h => nomatch h⟩
  | _, _, us, .cons h rr, r => by
    cases r with
    | cons r1 r2 =>
      obtain ⟨as, h1, s1⟩ := Dw.reads I _ h r1
      obtain ⟨bs, h2, s2⟩ := DwAll.reads I _ rr r2
      exact ⟨_, .cons h1 h2, fun hm => (List.mem_append.mp hm).elim s1 s2⟩
end
end
section
variable {X : Cx} {es : List Expr} {t : TA} {pos : Pos}
def rReprW : List V → Hp → VK → Prop := fun xs G Q => ∃ (a : Addr) (d : PyData), xs = [.ref a] ∧ Dw G (.ref a) d ∧ d.showable = true ∧ d.depth ≤ 40 ∧ d.shown.length ≤ sizeLine ∧ Q (.str d.shown) G
theorem call_reprW (gu : X.A.guards = some []) (hu : X.A.units + 64 < cLine) : CallR X (.builtin "repr") rReprW := by
  rintro pins s σ G xs us Q I r ⟨a, d, rfl, hd, hs, hk, hz, q⟩
  obtain ⟨u, rfl, ru⟩ := vals1 r
  obtain rfl : u = Value.ref a := ru
  obtain ⟨as, rd, ns⟩ := Dw.reads I _ hd rfl
  exact repr_of_reads' rd hs (fun _ => ns) gu (by omega) (fun _ _ z => z) (fun h' u tk k => ⟨.str d.shown, G, I.kept k, ⟨u, rfl⟩, q⟩) hz
def nLstS (t : TA) : TE := fun σ G Q => t σ G fun xs G1 => xs.length ≤ sizeLine ∧ ∀ p G', G1 p = none → p ≠ sysModules → Same G1 G' → G' p = some (.lst xs) → Q (.ref p) G'
theorem pn_lstS (h : PA X es t) : PE X (.List es pos) (nLstS t) := by
  constructor
  intro pins s σ G Q I hq
  refine wpAny_List_spliced (thn (h.run pos pins s σ G _ I hq) ?_)
  rintro us s1 ⟨xs, G1, I1, r, z, q⟩
  refine ⟨r.length ▸ z, ?_⟩
  have J := I1.lnew (t' := s1.toks) r z
  exact ⟨.ref s1.heap.objs.size, _, J, rfl, q _ _ I1.fresh (Nat.ne_of_gt I1.big) (Same.new I1.fresh) upd_same⟩
def nCatS : R2 := fun x y G Q => ∃ l b xs zs, x = .ref l ∧ y = .ref b ∧ G l = some (.lst xs) ∧ G b = some (.lst zs) ∧ xs.length + zs.length ≤ sizeLine ∧ ∀ p G', G p = none → p ≠ sysModules → Same G G' → G' p = some (.lst (xs ++ zs)) → Q (.ref p) G'
theorem on_catS : OpR X (binaryOp .Add) nCatS := by
  rintro pins s σ G x y v u Q I rx ry ⟨l, b, xs, zs, rfl, rfl, hl, hb, hz, q⟩
  cases rx
  cases ry
  obtain ⟨_, its, n, r, z1, e⟩ := I.lstM hl
  obtain ⟨_, its2, n2, r2, z2, e2⟩ := I.lstM hb
  refine PySem.P.add_list e e2 ?_ (by rw [List.size_toArray, List.size_toArray]; omega)
  rw [show its.toArray ++ its2.toArray = (its ++ its2).toArray by simp]
  exact ⟨.ref _, _, I.lnew (t' := s.toks) (r.append r2) (by rw [List.length_append]; omega), rfl, q _ _ I.fresh (Nat.ne_of_gt I.big) (Same.new I.fresh) upd_same⟩
end
end Qv
set_option Elab.async false
set_option linter.all false
set_option maxRecDepth 100000
set_option maxHeartbeats 16000000
namespace K01
open PySem PySem.Spec PyProof.Rows L2 Qh Qv

theorem one_of {l : List V} (h : l.length = 1) : ∃ a, l = [a] := match l, h with
  | [a], _ => ⟨a, rfl⟩
theorem two_of {l : List V} (h : l.length = 2) : ∃ a b, l = [a, b] := match l, h with
  | [a, b], _ => ⟨a, b, rfl⟩
theorem three_of {l : List V} (h : l.length = 3) : ∃ a b c, l = [a, b, c] := match l, h with
  | [a, b, c], _ => ⟨a, b, c, rfl⟩
theorem heap2 {G : Hp} {a d : Addr} {x y z : HO} (n : d ≠ a) : upd (upd (upd G d x) a y) d z = upd (upd G d z) a y := by
  funext b
  by_cases hb : b = d
  · subst hb
    rw [upd_same, upd_ne n, upd_same]
  · rw [upd_ne hb]
    by_cases ha : b = a
    · subst ha
      rw [upd_same, upd_same]
    · rw [upd_ne ha, upd_ne hb, upd_ne ha, upd_ne hb]
theorem vals_rev : ∀ {zs : List V} {ws : List Value}, Vals zs ws → Vals zs.reverse ws.reverse
  | _, _, .nil => .nil
  | _, _, .cons h r => by
    rw [List.reverse_cons, List.reverse_cons]
    exact (vals_rev r).append (.cons h .nil)
section
variable {P : Program} {w : World} {K : PySem.W.Frag} {mg : Str → Option Value} {base : Heap}

abbrev i1 : Stmt := inClass (top 2) 0
theorem sc1 : FnScope ["self", "value"] ["self", "value"] (defScope i1) := ⟨rfl, rfl, rfl, by decide +kernel, rfl, by decide +kernel, by decide +kernel⟩
theorem in1 {C f : Addr} {fd : FuncData} (F : Fun K "__init__" "InvalidWord.__init__" i1 f fd) (T : OexG K C) (no : ∀ x ∈ (["value"] : List Str), PySem.W.findIn K (.ref C) x = some none) : FnOk P w K mg base (L2.CX P w) 1 f fd ["self", "value"] (spErrG C ["value"]) := by
  refine F.okX sc1 (fun vs G Q E h => ?_) (fun cdv A out t G vs Q E hr h => ?_)
  · obtain ⟨a, ws, rfl, hl, _⟩ := h
    rw [List.length_cons, hl]
    rfl
  · obtain ⟨a, ws, rfl, hl, ha, k⟩ := h
    obtain ⟨y1, rfl⟩ := one_of hl
    refine ⟨_, pss_one (ps_osg (pv 0) (pv 1)), ?_⟩
    exact ⟨_, rfl, _, rfl, a, C, rfl, T, no _ List.mem_cons_self, .inl ⟨ha, fun dx hd da => k dx hd da⟩⟩
abbrev i2 : Stmt := inClass (top 3) 0
theorem sc2 : FnScope ["self", "index"] ["self", "index"] (defScope i2) := ⟨rfl, rfl, rfl, by decide +kernel, rfl, by decide +kernel, by decide +kernel⟩
theorem in2 {C f : Addr} {fd : FuncData} (F : Fun K "__init__" "InvalidText.__init__" i2 f fd) (T : OexG K C) (no : ∀ x ∈ (["index"] : List Str), PySem.W.findIn K (.ref C) x = some none) : FnOk P w K mg base (L2.CX P w) 1 f fd ["self", "index"] (spErrG C ["index"]) := by
  refine F.okX sc2 (fun vs G Q E h => ?_) (fun cdv A out t G vs Q E hr h => ?_)
  · obtain ⟨a, ws, rfl, hl, _⟩ := h
    rw [List.length_cons, hl]
    rfl
  · obtain ⟨a, ws, rfl, hl, ha, k⟩ := h
    obtain ⟨y1, rfl⟩ := one_of hl
    refine ⟨_, pss_one (ps_osg (pv 0) (pv 1)), ?_⟩
    exact ⟨_, rfl, _, rfl, a, C, rfl, T, no _ List.mem_cons_self, .inl ⟨ha, fun dx hd da => k dx hd da⟩⟩
abbrev i3 : Stmt := inClass (top 4) 0
theorem sc3 : FnScope ["self", "reason", "index"] ["self", "reason", "index"] (defScope i3) := ⟨rfl, rfl, rfl, by decide +kernel, rfl, by decide +kernel, by decide +kernel⟩
theorem in3 {C f : Addr} {fd : FuncData} (F : Fun K "__init__" "InvalidStep.__init__" i3 f fd) (T : OexG K C) (no : ∀ x ∈ (["reason", "index"] : List Str), PySem.W.findIn K (.ref C) x = some none) : FnOk P w K mg base (L2.CX P w) 1 f fd ["self", "reason", "index"] (spErrG C ["reason", "index"]) := by
  refine F.okX sc3 (fun vs G Q E h => ?_) (fun cdv A out t G vs Q E hr h => ?_)
  · obtain ⟨a, ws, rfl, hl, _⟩ := h
    rw [List.length_cons, hl]
    rfl
  · obtain ⟨a, ws, rfl, hl, ha, k⟩ := h
    obtain ⟨y1, y2, rfl⟩ := two_of hl
    refine ⟨_, pss_cons (ps_osg (pv 0) (pv 1)) (pss_one (ps_osg (pv 0) (pv 2))), ?_⟩
    refine ⟨_, rfl, _, rfl, a, C, rfl, T, no _ List.mem_cons_self, .inl ⟨ha, fun dx hd da => ?_⟩⟩
    refine ⟨_, rfl, _, rfl, a, C, rfl, T, no _ (List.mem_cons_of_mem _ List.mem_cons_self), .inr ⟨dx, _, upd_same, by rw [upd_ne da, upd_same], by show 1 ≤ 900; decide, ?_⟩⟩
    rw [heap2 da]
    exact k dx hd da
abbrev i4 : Stmt := inClass (top 5) 0
theorem sc4 : FnScope ["self", "reason", "index"] ["self", "reason", "index"] (defScope i4) := ⟨rfl, rfl, rfl, by decide +kernel, rfl, by decide +kernel, by decide +kernel⟩
theorem in4 {C f : Addr} {fd : FuncData} (F : Fun K "__init__" "InvalidChain.__init__" i4 f fd) (T : OexG K C) (no : ∀ x ∈ (["reason", "index"] : List Str), PySem.W.findIn K (.ref C) x = some none) : FnOk P w K mg base (L2.CX P w) 1 f fd ["self", "reason", "index"] (spErrG C ["reason", "index"]) := by
  refine F.okX sc4 (fun vs G Q E h => ?_) (fun cdv A out t G vs Q E hr h => ?_)
  · obtain ⟨a, ws, rfl, hl, _⟩ := h
    rw [List.length_cons, hl]
    rfl
  · obtain ⟨a, ws, rfl, hl, ha, k⟩ := h
    obtain ⟨y1, y2, rfl⟩ := two_of hl
    refine ⟨_, pss_cons (ps_osg (pv 0) (pv 1)) (pss_one (ps_osg (pv 0) (pv 2))), ?_⟩
    refine ⟨_, rfl, _, rfl, a, C, rfl, T, no _ List.mem_cons_self, .inl ⟨ha, fun dx hd da => ?_⟩⟩
    refine ⟨_, rfl, _, rfl, a, C, rfl, T, no _ (List.mem_cons_of_mem _ List.mem_cons_self), .inr ⟨dx, _, upd_same, by rw [upd_ne da, upd_same], by show 1 ≤ 900; decide, ?_⟩⟩
    rw [heap2 da]
    exact k dx hd da
abbrev i5 : Stmt := inClass (top 6) 0
theorem sc5 : FnScope ["self", "line", "word"] ["self", "line", "word"] (defScope i5) := ⟨rfl, rfl, rfl, by decide +kernel, rfl, by decide +kernel, by decide +kernel⟩
theorem in5 {C f : Addr} {fd : FuncData} (F : Fun K "__init__" "InvalidLine.__init__" i5 f fd) (T : OexG K C) (no : ∀ x ∈ (["line", "word"] : List Str), PySem.W.findIn K (.ref C) x = some none) : FnOk P w K mg base (L2.CX P w) 1 f fd ["self", "line", "word"] (spErrG C ["line", "word"]) := by
  refine F.okX sc5 (fun vs G Q E h => ?_) (fun cdv A out t G vs Q E hr h => ?_)
  · obtain ⟨a, ws, rfl, hl, _⟩ := h
    rw [List.length_cons, hl]
    rfl
  · obtain ⟨a, ws, rfl, hl, ha, k⟩ := h
    obtain ⟨y1, y2, rfl⟩ := two_of hl
    refine ⟨_, pss_cons (ps_osg (pv 0) (pv 1)) (pss_one (ps_osg (pv 0) (pv 2))), ?_⟩
    refine ⟨_, rfl, _, rfl, a, C, rfl, T, no _ List.mem_cons_self, .inl ⟨ha, fun dx hd da => ?_⟩⟩
    refine ⟨_, rfl, _, rfl, a, C, rfl, T, no _ (List.mem_cons_of_mem _ List.mem_cons_self), .inr ⟨dx, _, upd_same, by rw [upd_ne da, upd_same], by show 1 ≤ 900; decide, ?_⟩⟩
    rw [heap2 da]
    exact k dx hd da
abbrev i6 : Stmt := inClass (top 7) 0
theorem sc6 : FnScope ["self", "line"] ["self", "line"] (defScope i6) := ⟨rfl, rfl, rfl, by decide +kernel, rfl, by decide +kernel, by decide +kernel⟩
theorem in6 {C f : Addr} {fd : FuncData} (F : Fun K "__init__" "UnknownCommand.__init__" i6 f fd) (T : OexG K C) (no : ∀ x ∈ (["line"] : List Str), PySem.W.findIn K (.ref C) x = some none) : FnOk P w K mg base (L2.CX P w) 1 f fd ["self", "line"] (spErrG C ["line"]) := by
  refine F.okX sc6 (fun vs G Q E h => ?_) (fun cdv A out t G vs Q E hr h => ?_)
  · obtain ⟨a, ws, rfl, hl, _⟩ := h
    rw [List.length_cons, hl]
    rfl
  · obtain ⟨a, ws, rfl, hl, ha, k⟩ := h
    obtain ⟨y1, rfl⟩ := one_of hl
    refine ⟨_, pss_one (ps_osg (pv 0) (pv 1)), ?_⟩
    exact ⟨_, rfl, _, rfl, a, C, rfl, T, no _ List.mem_cons_self, .inl ⟨ha, fun dx hd da => k dx hd da⟩⟩
abbrev i7 : Stmt := inClass (top 8) 0
theorem sc7 : FnScope ["self", "text", "first", "last"] ["self", "text", "first", "last"] (defScope i7) := ⟨rfl, rfl, rfl, by decide +kernel, rfl, by decide +kernel, by decide +kernel⟩
theorem in7 {C f : Addr} {fd : FuncData} (F : Fun K "__init__" "Missed.__init__" i7 f fd) (T : OexG K C) (no : ∀ x ∈ (["text", "first", "last"] : List Str), PySem.W.findIn K (.ref C) x = some none) : FnOk P w K mg base (L2.CX P w) 1 f fd ["self", "text", "first", "last"] (spErrG C ["text", "first", "last"]) := by
  refine F.okX sc7 (fun vs G Q E h => ?_) (fun cdv A out t G vs Q E hr h => ?_)
  · obtain ⟨a, ws, rfl, hl, _⟩ := h
    rw [List.length_cons, hl]
    rfl
  · obtain ⟨a, ws, rfl, hl, ha, k⟩ := h
    obtain ⟨y1, y2, y3, rfl⟩ := three_of hl
    refine ⟨_, pss_cons (ps_osg (pv 0) (pv 1)) (pss_cons (ps_osg (pv 0) (pv 2)) (pss_one (ps_osg (pv 0) (pv 3)))), ?_⟩
    refine ⟨_, rfl, _, rfl, a, C, rfl, T, no _ List.mem_cons_self, .inl ⟨ha, fun dx hd da => ?_⟩⟩
    refine ⟨_, rfl, _, rfl, a, C, rfl, T, no _ (List.mem_cons_of_mem _ List.mem_cons_self), .inr ⟨dx, _, upd_same, by rw [upd_ne da, upd_same], by show 1 ≤ 900; decide, ?_⟩⟩
    rw [heap2 da]
    refine ⟨_, rfl, _, rfl, a, C, rfl, T, no _ (List.mem_cons_of_mem _ (List.mem_cons_of_mem _ List.mem_cons_self)), .inr ⟨dx, _, upd_same, by rw [upd_ne da, upd_same], by show 2 ≤ 900; decide, ?_⟩⟩
    rw [heap2 da]
    exact k dx hd da
abbrev i8 : Stmt := inClass (top 9) 0
theorem sc8 : FnScope ["self", "name"] ["self", "name"] (defScope i8) := ⟨rfl, rfl, rfl, by decide +kernel, rfl, by decide +kernel, by decide +kernel⟩
theorem in8 {C f : Addr} {fd : FuncData} (F : Fun K "__init__" "NoText.__init__" i8 f fd) (T : OexG K C) (no : ∀ x ∈ (["name"] : List Str), PySem.W.findIn K (.ref C) x = some none) : FnOk P w K mg base (L2.CX P w) 1 f fd ["self", "name"] (spErrG C ["name"]) := by
  refine F.okX sc8 (fun vs G Q E h => ?_) (fun cdv A out t G vs Q E hr h => ?_)
  · obtain ⟨a, ws, rfl, hl, _⟩ := h
    rw [List.length_cons, hl]
    rfl
  · obtain ⟨a, ws, rfl, hl, ha, k⟩ := h
    obtain ⟨y1, rfl⟩ := one_of hl
    refine ⟨_, pss_one (ps_osg (pv 0) (pv 1)), ?_⟩
    exact ⟨_, rfl, _, rfl, a, C, rfl, T, no _ List.mem_cons_self, .inl ⟨ha, fun dx hd da => k dx hd da⟩⟩
abbrev i9 : Stmt := inClass (top 10) 0
theorem sc9 : FnScope ["self", "begun"] ["self", "begun"] (defScope i9) := ⟨rfl, rfl, rfl, by decide +kernel, rfl, by decide +kernel, by decide +kernel⟩
theorem in9 {C f : Addr} {fd : FuncData} (F : Fun K "__init__" "NoBeginning.__init__" i9 f fd) (T : OexG K C) (no : ∀ x ∈ (["begun"] : List Str), PySem.W.findIn K (.ref C) x = some none) : FnOk P w K mg base (L2.CX P w) 1 f fd ["self", "begun"] (spErrG C ["begun"]) := by
  refine F.okX sc9 (fun vs G Q E h => ?_) (fun cdv A out t G vs Q E hr h => ?_)
  · obtain ⟨a, ws, rfl, hl, _⟩ := h
    rw [List.length_cons, hl]
    rfl
  · obtain ⟨a, ws, rfl, hl, ha, k⟩ := h
    obtain ⟨y1, rfl⟩ := one_of hl
    refine ⟨_, pss_one (ps_osg (pv 0) (pv 1)), ?_⟩
    exact ⟨_, rfl, _, rfl, a, C, rfl, T, no _ List.mem_cons_self, .inl ⟨ha, fun dx hd da => k dx hd da⟩⟩
abbrev i10 : Stmt := inClass (top 11) 0
theorem sc10 : FnScope ["self", "index"] ["self", "index"] (defScope i10) := ⟨rfl, rfl, rfl, by decide +kernel, rfl, by decide +kernel, by decide +kernel⟩
theorem in10 {C f : Addr} {fd : FuncData} (F : Fun K "__init__" "NoWord.__init__" i10 f fd) (T : OexG K C) (no : ∀ x ∈ (["index"] : List Str), PySem.W.findIn K (.ref C) x = some none) : FnOk P w K mg base (L2.CX P w) 1 f fd ["self", "index"] (spErrG C ["index"]) := by
  refine F.okX sc10 (fun vs G Q E h => ?_) (fun cdv A out t G vs Q E hr h => ?_)
  · obtain ⟨a, ws, rfl, hl, _⟩ := h
    rw [List.length_cons, hl]
    rfl
  · obtain ⟨a, ws, rfl, hl, ha, k⟩ := h
    obtain ⟨y1, rfl⟩ := one_of hl
    refine ⟨_, pss_one (ps_osg (pv 0) (pv 1)), ?_⟩
    exact ⟨_, rfl, _, rfl, a, C, rfl, T, no _ List.mem_cons_self, .inl ⟨ha, fun dx hd da => k dx hd da⟩⟩
abbrev i11 : Stmt := inClass (top 12) 0
theorem sc11 : FnScope ["self", "index"] ["self", "index"] (defScope i11) := ⟨rfl, rfl, rfl, by decide +kernel, rfl, by decide +kernel, by decide +kernel⟩
theorem in11 {C f : Addr} {fd : FuncData} (F : Fun K "__init__" "NoBlock.__init__" i11 f fd) (T : OexG K C) (no : ∀ x ∈ (["index"] : List Str), PySem.W.findIn K (.ref C) x = some none) : FnOk P w K mg base (L2.CX P w) 1 f fd ["self", "index"] (spErrG C ["index"]) := by
  refine F.okX sc11 (fun vs G Q E h => ?_) (fun cdv A out t G vs Q E hr h => ?_)
  · obtain ⟨a, ws, rfl, hl, _⟩ := h
    rw [List.length_cons, hl]
    rfl
  · obtain ⟨a, ws, rfl, hl, ha, k⟩ := h
    obtain ⟨y1, rfl⟩ := one_of hl
    refine ⟨_, pss_one (ps_osg (pv 0) (pv 1)), ?_⟩
    exact ⟨_, rfl, _, rfl, a, C, rfl, T, no _ List.mem_cons_self, .inl ⟨ha, fun dx hd da => k dx hd da⟩⟩
abbrev i12 : Stmt := inClass (top 13) 0
theorem sc12 : FnScope ["self", "limit"] ["self", "limit"] (defScope i12) := ⟨rfl, rfl, rfl, by decide +kernel, rfl, by decide +kernel, by decide +kernel⟩
theorem in12 {C f : Addr} {fd : FuncData} (F : Fun K "__init__" "TooMany.__init__" i12 f fd) (T : OexG K C) (no : ∀ x ∈ (["limit"] : List Str), PySem.W.findIn K (.ref C) x = some none) : FnOk P w K mg base (L2.CX P w) 1 f fd ["self", "limit"] (spErrG C ["limit"]) := by
  refine F.okX sc12 (fun vs G Q E h => ?_) (fun cdv A out t G vs Q E hr h => ?_)
  · obtain ⟨a, ws, rfl, hl, _⟩ := h
    rw [List.length_cons, hl]
    rfl
  · obtain ⟨a, ws, rfl, hl, ha, k⟩ := h
    obtain ⟨y1, rfl⟩ := one_of hl
    refine ⟨_, pss_one (ps_osg (pv 0) (pv 1)), ?_⟩
    exact ⟨_, rfl, _, rfl, a, C, rfl, T, no _ List.mem_cons_self, .inl ⟨ha, fun dx hd da => k dx hd da⟩⟩
abbrev i13 : Stmt := inClass (top 14) 0
theorem sc13 : FnScope ["self", "count"] ["self", "count"] (defScope i13) := ⟨rfl, rfl, rfl, by decide +kernel, rfl, by decide +kernel, by decide +kernel⟩
theorem in13 {C f : Addr} {fd : FuncData} (F : Fun K "__init__" "NothingToUndo.__init__" i13 f fd) (T : OexG K C) (no : ∀ x ∈ (["count"] : List Str), PySem.W.findIn K (.ref C) x = some none) : FnOk P w K mg base (L2.CX P w) 1 f fd ["self", "count"] (spErrG C ["count"]) := by
  refine F.okX sc13 (fun vs G Q E h => ?_) (fun cdv A out t G vs Q E hr h => ?_)
  · obtain ⟨a, ws, rfl, hl, _⟩ := h
    rw [List.length_cons, hl]
    rfl
  · obtain ⟨a, ws, rfl, hl, ha, k⟩ := h
    obtain ⟨y1, rfl⟩ := one_of hl
    refine ⟨_, pss_one (ps_osg (pv 0) (pv 1)), ?_⟩
    exact ⟨_, rfl, _, rfl, a, C, rfl, T, no _ List.mem_cons_self, .inl ⟨ha, fun dx hd da => k dx hd da⟩⟩
end
/-- the errors at as, of these classes, with these fields -/
inductive Errs (G : Hp) : List Addr → List Addr → List (List (Str × V)) → Prop
  | nil : Errs G [] [] []
  | cons {a C : Addr} {fs : List (Str × V)} {as Cs : List Addr} {r : List (List (Str × V))} : ErrAt G a C fs → Errs G as Cs r → Errs G (a :: as) (C :: Cs) (fs :: r)
theorem Errs.same {G G' : Hp} (s : Same G G') : ∀ {as Cs : List Addr} {r : List (List (Str × V))}, Errs G as Cs r → Errs G' as Cs r
  | _, _, _, .nil => .nil
  | _, _, _, .cons h t => .cons (h.same s) (Errs.same s t)
def fsOf (v1 v2 v3 : V) : List (List (Str × V)) := [[("value", v1)], [("index", v1)], [("index", v2), ("reason", v1)], [("index", v2), ("reason", v1)], [("word", v2), ("line", v1)], [("line", v1)], [("last", v3), ("first", v2), ("text", v1)], [("name", v1)], [("begun", v1)], [("index", v1)], [("index", v1)], [("limit", v1)], [("count", v1)]]
theorem Errs.out {G : Hp} {as : List Addr} {C : Addr} {Cs : List Addr} {fs : List (Str × V)} {r : List (List (Str × V))} (h : Errs G as (C :: Cs) (fs :: r)) : ∃ a as', as = a :: as' ∧ ErrAt G a C fs ∧ Errs G as' Cs r := by
  cases h with
  | cons h t => exact ⟨_, _, rfl, h, t⟩
/-- what the top says of the thirteen classes -/
structure Tops (P : Program) (w : World) (K : PySem.W.Frag) (mg : Str → Option Value) (base : Heap) (CQ C1 C2 C3 C4 C5 C6 C7 C8 C9 C10 C11 C12 C13 : Addr) : Prop where
  e1 : ErrK P w K mg base "InvalidWord" "InvalidWord.__init__" (defArgs i1) ["value"] C1
  e2 : ErrK P w K mg base "InvalidText" "InvalidText.__init__" (defArgs i2) ["index"] C2
  e3 : ErrK P w K mg base "InvalidStep" "InvalidStep.__init__" (defArgs i3) ["reason", "index"] C3
  e4 : ErrK P w K mg base "InvalidChain" "InvalidChain.__init__" (defArgs i4) ["reason", "index"] C4
  e5 : ErrK P w K mg base "InvalidLine" "InvalidLine.__init__" (defArgs i5) ["line", "word"] C5
  e6 : ErrK P w K mg base "UnknownCommand" "UnknownCommand.__init__" (defArgs i6) ["line"] C6
  e7 : ErrK P w K mg base "Missed" "Missed.__init__" (defArgs i7) ["text", "first", "last"] C7
  e8 : ErrK P w K mg base "NoText" "NoText.__init__" (defArgs i8) ["name"] C8
  e9 : ErrK P w K mg base "NoBeginning" "NoBeginning.__init__" (defArgs i9) ["begun"] C9
  e10 : ErrK P w K mg base "NoWord" "NoWord.__init__" (defArgs i10) ["index"] C10
  e11 : ErrK P w K mg base "NoBlock" "NoBlock.__init__" (defArgs i11) ["index"] C11
  e12 : ErrK P w K mg base "TooMany" "TooMany.__init__" (defArgs i12) ["limit"] C12
  e13 : ErrK P w K mg base "NothingToUndo" "NothingToUndo.__init__" (defArgs i13) ["count"] C13
  gQ : mg "QuoteError" = some (.ref CQ)
def spErrs (Cs : List Addr) : Sp := fun vs G Q _ => ∃ v1 v2 v3, vs = [v1, v2, v3] ∧ ∀ (q : Addr) (as : List Addr) (G' : Hp), Same G G' → G' q = some (.lst (as.map V.ref)) → Errs G' as Cs (fsOf v1 v2 v3) → Q (.ref q) G'
abbrev sErrors : Stmt := top 20
abbrev sNamed : Stmt := top 21
abbrev sFields : Stmt := top 22
section
variable {P : Program} {w : World} {K : PySem.W.Frag} {mg : Str → Option Value} {base : Heap}
variable {CQ C1 C2 C3 C4 C5 C6 C7 C8 C9 C10 C11 C12 C13 : Addr}
theorem scErrors : FnScope ["_law_one", "_law_other", "_law_third"] ["_law_one", "_law_other", "_law_third"] (defScope sErrors) := ⟨rfl, rfl, rfl, by decide +kernel, rfl, by decide +kernel, by decide +kernel⟩
theorem ok_Errors (D : DefIn K mg "_law_errors" sErrors) (T : Tops P w K mg base CQ C1 C2 C3 C4 C5 C6 C7 C8 C9 C10 C11 C12 C13) : Ok P w K mg base "_law_errors" (defArgs sErrors) ["_law_one", "_law_other", "_law_third"] 3 (spErrs [C1, C2, C3, C4, C5, C6, C7, C8, C9, C10, C11, C12, C13]) := by
  refine D.ok scErrors (fun vs G Q E h => ?_) (fun _ _ _ _ _ _ us hl => match us, hl with | [_, _, _], _ => rfl) (fun f cdv A out t G vs Q E hr h => ?_)
  · obtain ⟨v1, v2, v3, rfl, _⟩ := h
    rfl
  · obtain ⟨v1, v2, v3, rfl, k⟩ := h
    refine ⟨_, pss_one (ps_ret (pn_lstS (pa_cons (pe_errV T.e1 hr (by show 1 ≤ 1000; decide) (pa_cons (pv 0) pa_nil)) (pa_cons (pe_errV T.e2 hr (by show 1 ≤ 1000; decide) (pa_cons (pv 0) pa_nil)) (pa_cons (pe_errV T.e3 hr (by show 2 ≤ 1000; decide) (pa_cons (pv 0) (pa_cons (pv 1) pa_nil))) (pa_cons (pe_errV T.e4 hr (by show 2 ≤ 1000; decide) (pa_cons (pv 0) (pa_cons (pv 1) pa_nil))) (pa_cons (pe_errV T.e5 hr (by show 2 ≤ 1000; decide) (pa_cons (pv 0) (pa_cons (pv 1) pa_nil))) (pa_cons (pe_errV T.e6 hr (by show 1 ≤ 1000; decide) (pa_cons (pv 0) pa_nil)) (pa_cons (pe_errV T.e7 hr (by show 3 ≤ 1000; decide) (pa_cons (pv 0) (pa_cons (pv 1) (pa_cons (pv 2) pa_nil)))) (pa_cons (pe_errV T.e8 hr (by show 1 ≤ 1000; decide) (pa_cons (pv 0) pa_nil)) (pa_cons (pe_errV T.e9 hr (by show 1 ≤ 1000; decide) (pa_cons (pv 0) pa_nil)) (pa_cons (pe_errV T.e10 hr (by show 1 ≤ 1000; decide) (pa_cons (pv 0) pa_nil)) (pa_cons (pe_errV T.e11 hr (by show 1 ≤ 1000; decide) (pa_cons (pv 0) pa_nil)) (pa_cons (pe_errV T.e12 hr (by show 1 ≤ 1000; decide) (pa_cons (pv 0) pa_nil)) (pa_cons (pe_errV T.e13 hr (by show 1 ≤ 1000; decide) (pa_cons (pv 0) pa_nil)) pa_nil))))))))))))))), ?_⟩
    refine ⟨_, rfl, rfl, fun a1 G1 n1 s1 e1 => ?_⟩
    refine ⟨_, rfl, rfl, fun a2 G2 n2 s2 e2 => ?_⟩
    refine ⟨_, rfl, _, rfl, rfl, fun a3 G3 n3 s3 e3 => ?_⟩
    refine ⟨_, rfl, _, rfl, rfl, fun a4 G4 n4 s4 e4 => ?_⟩
    refine ⟨_, rfl, _, rfl, rfl, fun a5 G5 n5 s5 e5 => ?_⟩
    refine ⟨_, rfl, rfl, fun a6 G6 n6 s6 e6 => ?_⟩
    refine ⟨_, rfl, _, rfl, _, rfl, rfl, fun a7 G7 n7 s7 e7 => ?_⟩
    refine ⟨_, rfl, rfl, fun a8 G8 n8 s8 e8 => ?_⟩
    refine ⟨_, rfl, rfl, fun a9 G9 n9 s9 e9 => ?_⟩
    refine ⟨_, rfl, rfl, fun a10 G10 n10 s10 e10 => ?_⟩
    refine ⟨_, rfl, rfl, fun a11 G11 n11 s11 e11 => ?_⟩
    refine ⟨_, rfl, rfl, fun a12 G12 n12 s12 e12 => ?_⟩
    refine ⟨_, rfl, rfl, fun a13 G13 n13 s13 e13 => ?_⟩
    refine ⟨by show 13 ≤ sizeLine; decide, fun q G14 nq nS s14 l14 => ?_⟩
    have u13 := s14
    have u12 := s13.trans u13
    have u11 := s12.trans u12
    have u10 := s11.trans u11
    have u9 := s10.trans u10
    have u8 := s9.trans u9
    have u7 := s8.trans u8
    have u6 := s7.trans u7
    have u5 := s6.trans u6
    have u4 := s5.trans u5
    have u3 := s4.trans u4
    have u2 := s3.trans u3
    have u1 := s2.trans u2
    exact k q [a1, a2, a3, a4, a5, a6, a7, a8, a9, a10, a11, a12, a13] G14 (s1.trans u1) l14 (.cons (e1.same u1) (.cons (e2.same u2) (.cons (e3.same u3) (.cons (e4.same u4) (.cons (e5.same u5) (.cons (e6.same u6) (.cons (e7.same u7) (.cons (e8.same u8) (.cons (e9.same u9) (.cons (e10.same u10) (.cons (e11.same u11) (.cons (e12.same u12) (.cons (e13.same u13) Errs.nil)))))))))))))
theorem scNamed : FnScope ["_law_one", "_law_other", "_law_third"] ["_law_one", "_law_other", "_law_third"] (defScope sNamed) := ⟨rfl, rfl, rfl, by decide +kernel, rfl, by decide +kernel, by decide +kernel⟩
theorem ok_Named (D : DefIn K mg "_law_named_errors" sNamed) (T : Tops P w K mg base CQ C1 C2 C3 C4 C5 C6 C7 C8 C9 C10 C11 C12 C13) : Ok P w K mg base "_law_named_errors" (defArgs sNamed) ["_law_one", "_law_other", "_law_third"] 3 (spErrs [C1, C2, C3, C4, C5, C6, C7, C8, C9, C10, C11, C12, C13]) := by
  refine D.ok scNamed (fun vs G Q E h => ?_) (fun _ _ _ _ _ _ us hl => match us, hl with | [_, _, _], _ => rfl) (fun f cdv A out t G vs Q E hr h => ?_)
  · obtain ⟨v1, v2, v3, rfl, _⟩ := h
    rfl
  · obtain ⟨v1, v2, v3, rfl, k⟩ := h
    refine ⟨_, pss_one (ps_ret (pn_lstS (pa_cons (pe_errK (fun l => l) T.e1 hr (pk_cons (pv 0) pk_nil) (fun _ _ _ _ _ _ _ _ _ ws hl => match ws, hl with | [_], _ => rfl) (fun r => r) (fun _ => rfl)) (pa_cons (pe_errK (fun l => l) T.e2 hr (pk_cons (pv 0) pk_nil) (fun _ _ _ _ _ _ _ _ _ ws hl => match ws, hl with | [_], _ => rfl) (fun r => r) (fun _ => rfl)) (pa_cons (pe_errK (fun l => l.reverse) T.e3 hr (pk_cons (pv 1) (pk_cons (pv 0) pk_nil)) (fun _ _ _ _ _ _ _ _ _ ws hl => match ws, hl with | [_, _], _ => rfl) vals_rev (fun _ => List.length_reverse)) (pa_cons (pe_errK (fun l => l.reverse) T.e4 hr (pk_cons (pv 1) (pk_cons (pv 0) pk_nil)) (fun _ _ _ _ _ _ _ _ _ ws hl => match ws, hl with | [_, _], _ => rfl) vals_rev (fun _ => List.length_reverse)) (pa_cons (pe_errK (fun l => l.reverse) T.e5 hr (pk_cons (pv 1) (pk_cons (pv 0) pk_nil)) (fun _ _ _ _ _ _ _ _ _ ws hl => match ws, hl with | [_, _], _ => rfl) vals_rev (fun _ => List.length_reverse)) (pa_cons (pe_errK (fun l => l) T.e6 hr (pk_cons (pv 0) pk_nil) (fun _ _ _ _ _ _ _ _ _ ws hl => match ws, hl with | [_], _ => rfl) (fun r => r) (fun _ => rfl)) (pa_cons (pe_errK (fun l => l.reverse) T.e7 hr (pk_cons (pv 2) (pk_cons (pv 1) (pk_cons (pv 0) pk_nil))) (fun _ _ _ _ _ _ _ _ _ ws hl => match ws, hl with | [_, _, _], _ => rfl) vals_rev (fun _ => List.length_reverse)) (pa_cons (pe_errK (fun l => l) T.e8 hr (pk_cons (pv 0) pk_nil) (fun _ _ _ _ _ _ _ _ _ ws hl => match ws, hl with | [_], _ => rfl) (fun r => r) (fun _ => rfl)) (pa_cons (pe_errK (fun l => l) T.e9 hr (pk_cons (pv 0) pk_nil) (fun _ _ _ _ _ _ _ _ _ ws hl => match ws, hl with | [_], _ => rfl) (fun r => r) (fun _ => rfl)) (pa_cons (pe_errK (fun l => l) T.e10 hr (pk_cons (pv 0) pk_nil) (fun _ _ _ _ _ _ _ _ _ ws hl => match ws, hl with | [_], _ => rfl) (fun r => r) (fun _ => rfl)) (pa_cons (pe_errK (fun l => l) T.e11 hr (pk_cons (pv 0) pk_nil) (fun _ _ _ _ _ _ _ _ _ ws hl => match ws, hl with | [_], _ => rfl) (fun r => r) (fun _ => rfl)) (pa_cons (pe_errK (fun l => l) T.e12 hr (pk_cons (pv 0) pk_nil) (fun _ _ _ _ _ _ _ _ _ ws hl => match ws, hl with | [_], _ => rfl) (fun r => r) (fun _ => rfl)) (pa_cons (pe_errK (fun l => l) T.e13 hr (pk_cons (pv 0) pk_nil) (fun _ _ _ _ _ _ _ _ _ ws hl => match ws, hl with | [_], _ => rfl) (fun r => r) (fun _ => rfl)) pa_nil))))))))))))))), ?_⟩
    refine ⟨_, rfl, rfl, fun a1 G1 n1 s1 e1 => ?_⟩
    refine ⟨_, rfl, rfl, fun a2 G2 n2 s2 e2 => ?_⟩
    refine ⟨_, rfl, _, rfl, rfl, fun a3 G3 n3 s3 e3 => ?_⟩
    refine ⟨_, rfl, _, rfl, rfl, fun a4 G4 n4 s4 e4 => ?_⟩
    refine ⟨_, rfl, _, rfl, rfl, fun a5 G5 n5 s5 e5 => ?_⟩
    refine ⟨_, rfl, rfl, fun a6 G6 n6 s6 e6 => ?_⟩
    refine ⟨_, rfl, _, rfl, _, rfl, rfl, fun a7 G7 n7 s7 e7 => ?_⟩
    refine ⟨_, rfl, rfl, fun a8 G8 n8 s8 e8 => ?_⟩
    refine ⟨_, rfl, rfl, fun a9 G9 n9 s9 e9 => ?_⟩
    refine ⟨_, rfl, rfl, fun a10 G10 n10 s10 e10 => ?_⟩
    refine ⟨_, rfl, rfl, fun a11 G11 n11 s11 e11 => ?_⟩
    refine ⟨_, rfl, rfl, fun a12 G12 n12 s12 e12 => ?_⟩
    refine ⟨_, rfl, rfl, fun a13 G13 n13 s13 e13 => ?_⟩
    refine ⟨by show 13 ≤ sizeLine; decide, fun q G14 nq nS s14 l14 => ?_⟩
    have u13 := s14
    have u12 := s13.trans u13
    have u11 := s12.trans u12
    have u10 := s11.trans u11
    have u9 := s10.trans u10
    have u8 := s9.trans u9
    have u7 := s8.trans u8
    have u6 := s7.trans u7
    have u5 := s6.trans u6
    have u4 := s5.trans u5
    have u3 := s4.trans u4
    have u2 := s3.trans u3
    have u1 := s2.trans u2
    exact k q [a1, a2, a3, a4, a5, a6, a7, a8, a9, a10, a11, a12, a13] G14 (s1.trans u1) l14 (.cons (e1.same u1) (.cons (e2.same u2) (.cons (e3.same u3) (.cons (e4.same u4) (.cons (e5.same u5) (.cons (e6.same u6) (.cons (e7.same u7) (.cons (e8.same u8) (.cons (e9.same u9) (.cons (e10.same u10) (.cons (e11.same u11) (.cons (e12.same u12) (.cons (e13.same u13) Errs.nil)))))))))))))
def fieldsD (d1 d2 d3 : PyData) : PyData := .list [.list [d1], .list [d1], .list [d1, d2], .list [d1, d2], .list [d1, d2], .list [d1], .list [d1, d2, d3], .list [d1], .list [d1], .list [d1], .list [d1], .list [d1], .list [d1]]
def spFields (Cs : List Addr) : Sp := fun vs G Q _ => ∃ (q : Addr) (v1 v2 v3 : V) (d1 d2 d3 : PyData) (as : List Addr), vs = [.ref q] ∧ G q = some (.lst (as.map V.ref)) ∧ Errs G as Cs (fsOf v1 v2 v3) ∧ Dw G v1 d1 ∧ Dw G v2 d2 ∧ Dw G v3 d3 ∧
  ∀ (p : Addr) (G' : Hp), Same G G' → Dw G' (.ref p) (fieldsD d1 d2 d3) → Q (.ref p) G'
theorem scFields : FnScope ["_law_some"] ["_law_some"] (defScope sFields) := ⟨rfl, rfl, rfl, by decide +kernel, rfl, by decide +kernel, by decide +kernel⟩
theorem ok_Fields (D : DefIn K mg "_law_fields" sFields) (T : Tops P w K mg base CQ C1 C2 C3 C4 C5 C6 C7 C8 C9 C10 C11 C12 C13) : Ok P w K mg base "_law_fields" (defArgs sFields) ["_law_some"] 1 (spFields [C1, C2, C3, C4, C5, C6, C7, C8, C9, C10, C11, C12, C13]) := by
  refine D.ok scFields (fun vs G Q E h => ?_) (fun _ _ _ _ _ _ us hl => match us, hl with | [_], _ => rfl) (fun f cdv A out t G vs Q E hr h => ?_)
  · obtain ⟨q, v1, v2, v3, d1, d2, d3, as, rfl, _⟩ := h
    rfl
  · obtain ⟨q, v1, v2, v3, d1, d2, d3, as, rfl, hq, es, D1, D2, D3, k⟩ := h
    refine ⟨_, pss_one (ps_ret (pn_lstS (pa_cons (pn_lstS (pa_cons (pe_errG (pe_ix ix_list (pv 0) pe_int (fun _ _ => rfl))) pa_nil)) (pa_cons (pn_lstS (pa_cons (pe_errG (pe_ix ix_list (pv 0) pe_int (fun _ _ => rfl))) pa_nil)) (pa_cons (pn_lstS (pa_cons (pe_errG (pe_ix ix_list (pv 0) pe_int (fun _ _ => rfl))) (pa_cons (pe_errG (pe_ix ix_list (pv 0) pe_int (fun _ _ => rfl))) pa_nil))) (pa_cons (pn_lstS (pa_cons (pe_errG (pe_ix ix_list (pv 0) pe_int (fun _ _ => rfl))) (pa_cons (pe_errG (pe_ix ix_list (pv 0) pe_int (fun _ _ => rfl))) pa_nil))) (pa_cons (pn_lstS (pa_cons (pe_errG (pe_ix ix_list (pv 0) pe_int (fun _ _ => rfl))) (pa_cons (pe_errG (pe_ix ix_list (pv 0) pe_int (fun _ _ => rfl))) pa_nil))) (pa_cons (pn_lstS (pa_cons (pe_errG (pe_ix ix_list (pv 0) pe_int (fun _ _ => rfl))) pa_nil)) (pa_cons (pn_lstS (pa_cons (pe_errG (pe_ix ix_list (pv 0) pe_int (fun _ _ => rfl))) (pa_cons (pe_errG (pe_ix ix_list (pv 0) pe_int (fun _ _ => rfl))) (pa_cons (pe_errG (pe_ix ix_list (pv 0) pe_int (fun _ _ => rfl))) pa_nil)))) (pa_cons (pn_lstS (pa_cons (pe_errG (pe_ix ix_list (pv 0) pe_int (fun _ _ => rfl))) pa_nil)) (pa_cons (pn_lstS (pa_cons (pe_errG (pe_ix ix_list (pv 0) pe_int (fun _ _ => rfl))) pa_nil)) (pa_cons (pn_lstS (pa_cons (pe_errG (pe_ix ix_list (pv 0) pe_int (fun _ _ => rfl))) pa_nil)) (pa_cons (pn_lstS (pa_cons (pe_errG (pe_ix ix_list (pv 0) pe_int (fun _ _ => rfl))) pa_nil)) (pa_cons (pn_lstS (pa_cons (pe_errG (pe_ix ix_list (pv 0) pe_int (fun _ _ => rfl))) pa_nil)) (pa_cons (pn_lstS (pa_cons (pe_errG (pe_ix ix_list (pv 0) pe_int (fun _ _ => rfl))) pa_nil)) pa_nil))))))))))))))), ?_⟩
    obtain ⟨a1, as1, rfl, E1, es⟩ := Errs.out es
    obtain ⟨a2, as2, rfl, E2, es⟩ := Errs.out es
    obtain ⟨a3, as3, rfl, E3, es⟩ := Errs.out es
    obtain ⟨a4, as4, rfl, E4, es⟩ := Errs.out es
    obtain ⟨a5, as5, rfl, E5, es⟩ := Errs.out es
    obtain ⟨a6, as6, rfl, E6, es⟩ := Errs.out es
    obtain ⟨a7, as7, rfl, E7, es⟩ := Errs.out es
    obtain ⟨a8, as8, rfl, E8, es⟩ := Errs.out es
    obtain ⟨a9, as9, rfl, E9, es⟩ := Errs.out es
    obtain ⟨a10, as10, rfl, E10, es⟩ := Errs.out es
    obtain ⟨a11, as11, rfl, E11, es⟩ := Errs.out es
    obtain ⟨a12, as12, rfl, E12, es⟩ := Errs.out es
    obtain ⟨a13, as13, rfl, E13, es⟩ := Errs.out es
    cases es
    have S0 := Same.refl G
    refine ⟨_, rfl, q, _, 0, .ref a1, rfl, rfl, SqL.of (S0 _ _ hq), atI_nat (j := 0) rfl, a1, C1, _, v1, rfl, E1.same S0, T.e1.xf, T.e1.no _ List.mem_cons_self, rfl, by show 1 ≤ sizeLine; decide, fun b1 G1 nb1 m1 s1 l1 => ?_⟩
    have S1 := S0.trans s1
    have F1 : Dw G1 (.ref b1) (.list [d1]) := .lst m1 l1 (.cons (D1.same S1) .nil)
    refine ⟨_, rfl, q, _, 1, .ref a2, rfl, rfl, SqL.of (S1 _ _ hq), atI_nat (j := 1) rfl, a2, C2, _, v1, rfl, E2.same S1, T.e2.xf, T.e2.no _ List.mem_cons_self, rfl, by show 1 ≤ sizeLine; decide, fun b2 G2 nb2 m2 s2 l2 => ?_⟩
    have S2 := S1.trans s2
    have F2 : Dw G2 (.ref b2) (.list [d1]) := .lst m2 l2 (.cons (D1.same S2) .nil)
    refine ⟨_, rfl, q, _, 2, .ref a3, rfl, rfl, SqL.of (S2 _ _ hq), atI_nat (j := 2) rfl, a3, C3, _, v1, rfl, E3.same S2, T.e3.xf, T.e3.no _ List.mem_cons_self, rfl, _, rfl, q, _, 2, .ref a3, rfl, rfl, SqL.of (S2 _ _ hq), atI_nat (j := 2) rfl, a3, C3, _, v2, rfl, E3.same S2, T.e3.xf, T.e3.no _ (List.mem_cons_of_mem _ List.mem_cons_self), rfl, by show 2 ≤ sizeLine; decide, fun b3 G3 nb3 m3 s3 l3 => ?_⟩
    have S3 := S2.trans s3
    have F3 : Dw G3 (.ref b3) (.list [d1, d2]) := .lst m3 l3 (.cons (D1.same S3) (.cons (D2.same S3) .nil))
    refine ⟨_, rfl, q, _, 3, .ref a4, rfl, rfl, SqL.of (S3 _ _ hq), atI_nat (j := 3) rfl, a4, C4, _, v1, rfl, E4.same S3, T.e4.xf, T.e4.no _ List.mem_cons_self, rfl, _, rfl, q, _, 3, .ref a4, rfl, rfl, SqL.of (S3 _ _ hq), atI_nat (j := 3) rfl, a4, C4, _, v2, rfl, E4.same S3, T.e4.xf, T.e4.no _ (List.mem_cons_of_mem _ List.mem_cons_self), rfl, by show 2 ≤ sizeLine; decide, fun b4 G4 nb4 m4 s4 l4 => ?_⟩
    have S4 := S3.trans s4
    have F4 : Dw G4 (.ref b4) (.list [d1, d2]) := .lst m4 l4 (.cons (D1.same S4) (.cons (D2.same S4) .nil))
    refine ⟨_, rfl, q, _, 4, .ref a5, rfl, rfl, SqL.of (S4 _ _ hq), atI_nat (j := 4) rfl, a5, C5, _, v1, rfl, E5.same S4, T.e5.xf, T.e5.no _ List.mem_cons_self, rfl, _, rfl, q, _, 4, .ref a5, rfl, rfl, SqL.of (S4 _ _ hq), atI_nat (j := 4) rfl, a5, C5, _, v2, rfl, E5.same S4, T.e5.xf, T.e5.no _ (List.mem_cons_of_mem _ List.mem_cons_self), rfl, by show 2 ≤ sizeLine; decide, fun b5 G5 nb5 m5 s5 l5 => ?_⟩
    have S5 := S4.trans s5
    have F5 : Dw G5 (.ref b5) (.list [d1, d2]) := .lst m5 l5 (.cons (D1.same S5) (.cons (D2.same S5) .nil))
    refine ⟨_, rfl, q, _, 5, .ref a6, rfl, rfl, SqL.of (S5 _ _ hq), atI_nat (j := 5) rfl, a6, C6, _, v1, rfl, E6.same S5, T.e6.xf, T.e6.no _ List.mem_cons_self, rfl, by show 1 ≤ sizeLine; decide, fun b6 G6 nb6 m6 s6 l6 => ?_⟩
    have S6 := S5.trans s6
    have F6 : Dw G6 (.ref b6) (.list [d1]) := .lst m6 l6 (.cons (D1.same S6) .nil)
    refine ⟨_, rfl, q, _, 6, .ref a7, rfl, rfl, SqL.of (S6 _ _ hq), atI_nat (j := 6) rfl, a7, C7, _, v1, rfl, E7.same S6, T.e7.xf, T.e7.no _ List.mem_cons_self, rfl, _, rfl, q, _, 6, .ref a7, rfl, rfl, SqL.of (S6 _ _ hq), atI_nat (j := 6) rfl, a7, C7, _, v2, rfl, E7.same S6, T.e7.xf, T.e7.no _ (List.mem_cons_of_mem _ List.mem_cons_self), rfl, _, rfl, q, _, 6, .ref a7, rfl, rfl, SqL.of (S6 _ _ hq), atI_nat (j := 6) rfl, a7, C7, _, v3, rfl, E7.same S6, T.e7.xf, T.e7.no _ (List.mem_cons_of_mem _ (List.mem_cons_of_mem _ List.mem_cons_self)), rfl, by show 3 ≤ sizeLine; decide, fun b7 G7 nb7 m7 s7 l7 => ?_⟩
    have S7 := S6.trans s7
    have F7 : Dw G7 (.ref b7) (.list [d1, d2, d3]) := .lst m7 l7 (.cons (D1.same S7) (.cons (D2.same S7) (.cons (D3.same S7) .nil)))
    refine ⟨_, rfl, q, _, 7, .ref a8, rfl, rfl, SqL.of (S7 _ _ hq), atI_nat (j := 7) rfl, a8, C8, _, v1, rfl, E8.same S7, T.e8.xf, T.e8.no _ List.mem_cons_self, rfl, by show 1 ≤ sizeLine; decide, fun b8 G8 nb8 m8 s8 l8 => ?_⟩
    have S8 := S7.trans s8
    have F8 : Dw G8 (.ref b8) (.list [d1]) := .lst m8 l8 (.cons (D1.same S8) .nil)
    refine ⟨_, rfl, q, _, 8, .ref a9, rfl, rfl, SqL.of (S8 _ _ hq), atI_nat (j := 8) rfl, a9, C9, _, v1, rfl, E9.same S8, T.e9.xf, T.e9.no _ List.mem_cons_self, rfl, by show 1 ≤ sizeLine; decide, fun b9 G9 nb9 m9 s9 l9 => ?_⟩
    have S9 := S8.trans s9
    have F9 : Dw G9 (.ref b9) (.list [d1]) := .lst m9 l9 (.cons (D1.same S9) .nil)
    refine ⟨_, rfl, q, _, 9, .ref a10, rfl, rfl, SqL.of (S9 _ _ hq), atI_nat (j := 9) rfl, a10, C10, _, v1, rfl, E10.same S9, T.e10.xf, T.e10.no _ List.mem_cons_self, rfl, by show 1 ≤ sizeLine; decide, fun b10 G10 nb10 m10 s10 l10 => ?_⟩
    have S10 := S9.trans s10
    have F10 : Dw G10 (.ref b10) (.list [d1]) := .lst m10 l10 (.cons (D1.same S10) .nil)
    refine ⟨_, rfl, q, _, 10, .ref a11, rfl, rfl, SqL.of (S10 _ _ hq), atI_nat (j := 10) rfl, a11, C11, _, v1, rfl, E11.same S10, T.e11.xf, T.e11.no _ List.mem_cons_self, rfl, by show 1 ≤ sizeLine; decide, fun b11 G11 nb11 m11 s11 l11 => ?_⟩
    have S11 := S10.trans s11
    have F11 : Dw G11 (.ref b11) (.list [d1]) := .lst m11 l11 (.cons (D1.same S11) .nil)
    refine ⟨_, rfl, q, _, 11, .ref a12, rfl, rfl, SqL.of (S11 _ _ hq), atI_nat (j := 11) rfl, a12, C12, _, v1, rfl, E12.same S11, T.e12.xf, T.e12.no _ List.mem_cons_self, rfl, by show 1 ≤ sizeLine; decide, fun b12 G12 nb12 m12 s12 l12 => ?_⟩
    have S12 := S11.trans s12
    have F12 : Dw G12 (.ref b12) (.list [d1]) := .lst m12 l12 (.cons (D1.same S12) .nil)
    refine ⟨_, rfl, q, _, 12, .ref a13, rfl, rfl, SqL.of (S12 _ _ hq), atI_nat (j := 12) rfl, a13, C13, _, v1, rfl, E13.same S12, T.e13.xf, T.e13.no _ List.mem_cons_self, rfl, by show 1 ≤ sizeLine; decide, fun b13 G13 nb13 m13 s13 l13 => ?_⟩
    have S13 := S12.trans s13
    have F13 : Dw G13 (.ref b13) (.list [d1]) := .lst m13 l13 (.cons (D1.same S13) .nil)
    refine ⟨by show 13 ≤ sizeLine; decide, fun p G14 np nS s14 l14 => ?_⟩
    have u13 := s14
    have u12 := s13.trans u13
    have u11 := s12.trans u12
    have u10 := s11.trans u11
    have u9 := s10.trans u10
    have u8 := s9.trans u9
    have u7 := s8.trans u8
    have u6 := s7.trans u7
    have u5 := s6.trans u6
    have u4 := s5.trans u5
    have u3 := s4.trans u4
    have u2 := s3.trans u3
    have u1 := s2.trans u2
    exact k p G14 (s1.trans u1) (.lst nS l14 (.cons (F1.same u1) (.cons (F2.same u2) (.cons (F3.same u3) (.cons (F4.same u4) (.cons (F5.same u5) (.cons (F6.same u6) (.cons (F7.same u7) (.cons (F8.same u8) (.cons (F9.same u9) (.cons (F10.same u10) (.cons (F11.same u11) (.cons (F12.same u12) (.cons (F13.same u13) .nil))))))))))))))
end
end K01
set_option Elab.async false
set_option linter.all false
set_option maxRecDepth 100000
set_option maxHeartbeats 16000000
namespace K01
open PySem PySem.Spec PyProof.Rows L2 Qh Qv

/-- what isinstance tells of the thirteen among themselves -/
def ownB (K : PySem.W.Frag) (Cs : List Addr) : Bool := (List.range 13).all fun i => (List.range 13).all fun j => decide (PySem.W.kitOne K (.ref (Cs.getD i 0)) (.ref (Cs.getD j 0)) = some (j == i))
def dueL (i : Nat) : List Bool := if i < 7 then [true, true, false, false, false, false] else if i < 9 then [false, false, true, false, true, false] else if i < 11 then [false, false, false, true, true, false] else [false, false, false, false, i == 12, i == 11]
def baseVals (CQ : Addr) : List Value := [.ref CQ, .type "ValueError", .type "KeyError", .type "IndexError", .type "LookupError", .type "OverflowError"]
def basB (K : PySem.W.Frag) (CQ : Addr) (Cs : List Addr) : Bool := (List.range 13).all fun i => (List.range 6).all fun j => decide (PySem.W.kitOne K (.ref (Cs.getD i 0)) ((baseVals CQ).getD j .none) = some ((dueL i).getD j false))
theorem ownB_ok {K : PySem.W.Frag} {Cs : List Addr} (h : ownB K Cs = true) {i j : Nat} {C D : Addr} (hi : i < 13) (hj : j < 13) (h1 : Cs.getD i 0 = C) (h2 : Cs.getD j 0 = D) : PySem.W.kitOne K (.ref C) (.ref D) = some (j == i) := by
  have h := List.all_eq_true.mp (List.all_eq_true.mp h i (List.mem_range.mpr hi)) j (List.mem_range.mpr hj)
  subst h1 h2
  exact of_decide_eq_true h
theorem basB_ok {K : PySem.W.Frag} {CQ : Addr} {Cs : List Addr} (h : basB K CQ Cs = true) {i : Nat} (j : Nat) {C : Addr} {v : Value} {b : Bool} (hi : i < 13) (hj : j < 6) (h1 : Cs.getD i 0 = C) (h2 : (baseVals CQ).getD j .none = v) (h3 : (dueL i).getD j false = b) : PySem.W.kitOne K (.ref C) v = some b := by
  have h := List.all_eq_true.mp (List.all_eq_true.mp h i (List.mem_range.mpr hi)) j (List.mem_range.mpr hj)
  subst h1 h2 h3
  exact of_decide_eq_true h
/-- the built-in error names that the module leaves alone -/
structure BltE (mg : Str → Option Value) : Prop where
  v : mg "ValueError" = none
  k : mg "KeyError" = none
  i : mg "IndexError" = none
  l : mg "LookupError" = none
  o : mg "OverflowError" = none
theorem bt_VE : bootBuiltins "ValueError" = some (.type "ValueError") := by decide +kernel
theorem bt_KE : bootBuiltins "KeyError" = some (.type "KeyError") := by decide +kernel
theorem bt_IE : bootBuiltins "IndexError" = some (.type "IndexError") := by decide +kernel
theorem bt_LE : bootBuiltins "LookupError" = some (.type "LookupError") := by decide +kernel
theorem bt_OE : bootBuiltins "OverflowError" = some (.type "OverflowError") := by decide +kernel
def spOwn (K : PySem.W.Frag) (Cs : List Addr) : Sp := fun vs G Q _ => ∃ (a C : Addr) (fs : List (Str × V)) (i : Nat), vs = [.ref a] ∧ ErrAt G a C fs ∧ i < 13 ∧ Cs.getD i 0 = C ∧ ExcC K C ∧ ∀ (p : Addr) (G' : Hp), Same G G' → G' p = some (.lst ((List.range 13).map fun j => V.bl (j == i))) → Q (.ref p) G'
def spBases (K : PySem.W.Frag) (Cs : List Addr) : Sp := fun vs G Q _ => ∃ (a C : Addr) (fs : List (Str × V)) (i : Nat), vs = [.ref a] ∧ ErrAt G a C fs ∧ i < 13 ∧ Cs.getD i 0 = C ∧ ExcC K C ∧ ∀ (p : Addr) (G' : Hp), Same G G' → G' p = some (.lst ((dueL i).map V.bl)) → Q (.ref p) G'
def spDueB : Sp := fun vs G Q _ => ∃ i : Nat, vs = [.int (i : Int)] ∧ ∀ (p : Addr) (G' : Hp), Same G G' → G' p = some (.lst ((dueL i).map V.bl)) → Q (.ref p) G'
theorem dueL_six (i : Nat) : (dueL i).map V.bl = [.bl ((dueL i).getD 0 false), .bl ((dueL i).getD 1 false), .bl ((dueL i).getD 2 false), .bl ((dueL i).getD 3 false), .bl ((dueL i).getD 4 false), .bl ((dueL i).getD 5 false)] := by
  unfold dueL
  split
  · rfl
  · split
    · rfl
    · split
      · rfl
      · rfl
abbrev sOwn : Stmt := top 23
abbrev sBases : Stmt := top 24
abbrev sDueB : Stmt := top 25
section
variable {P : Program} {w : World} {K : PySem.W.Frag} {mg : Str → Option Value} {base : Heap}
variable {CQ C1 C2 C3 C4 C5 C6 C7 C8 C9 C10 C11 C12 C13 : Addr}
theorem scOwn : FnScope ["_law_error"] ["_law_error"] (defScope sOwn) := ⟨rfl, rfl, rfl, by decide +kernel, rfl, by decide +kernel, by decide +kernel⟩
theorem scBases : FnScope ["_law_error"] ["_law_error"] (defScope sBases) := ⟨rfl, rfl, rfl, by decide +kernel, rfl, by decide +kernel, by decide +kernel⟩
theorem scDueB : FnScope ["_law_k"] ["_law_k"] (defScope sDueB) := ⟨rfl, rfl, rfl, by decide +kernel, rfl, by decide +kernel, by decide +kernel⟩
theorem ok_Own (D : DefIn K mg "_law_own" sOwn) (B : Blt mg) (T : Tops P w K mg base CQ C1 C2 C3 C4 C5 C6 C7 C8 C9 C10 C11 C12 C13) (W : ownB K [C1, C2, C3, C4, C5, C6, C7, C8, C9, C10, C11, C12, C13] = true) : Ok P w K mg base "_law_own" (defArgs sOwn) ["_law_error"] 1 (spOwn K [C1, C2, C3, C4, C5, C6, C7, C8, C9, C10, C11, C12, C13]) := by
  refine D.ok scOwn (fun vs G Q E h => ?_) (fun _ _ _ _ _ _ us hl => match us, hl with | [_], _ => rfl) (fun f cdv A out t G vs Q E hr h => ?_)
  · obtain ⟨a, C, fs, i, rfl, _⟩ := h
    rfl
  · obtain ⟨a, C, fs, i, rfl, e, hi, hC, ec, k⟩ := h
    refine ⟨_, pss_one (ps_ret (pn_lst (pa_cons (pe_callB call_errIsG (by rfl) B.n_isinstance bt_isinstance (pa_cons (pv 0) (pa_cons (pe_glob (v := .ref C1) rfl T.e1.g rfl) pa_nil))) (pa_cons (pe_callB call_errIsG (by rfl) B.n_isinstance bt_isinstance (pa_cons (pv 0) (pa_cons (pe_glob (v := .ref C2) rfl T.e2.g rfl) pa_nil))) (pa_cons (pe_callB call_errIsG (by rfl) B.n_isinstance bt_isinstance (pa_cons (pv 0) (pa_cons (pe_glob (v := .ref C3) rfl T.e3.g rfl) pa_nil))) (pa_cons (pe_callB call_errIsG (by rfl) B.n_isinstance bt_isinstance (pa_cons (pv 0) (pa_cons (pe_glob (v := .ref C4) rfl T.e4.g rfl) pa_nil))) (pa_cons (pe_callB call_errIsG (by rfl) B.n_isinstance bt_isinstance (pa_cons (pv 0) (pa_cons (pe_glob (v := .ref C5) rfl T.e5.g rfl) pa_nil))) (pa_cons (pe_callB call_errIsG (by rfl) B.n_isinstance bt_isinstance (pa_cons (pv 0) (pa_cons (pe_glob (v := .ref C6) rfl T.e6.g rfl) pa_nil))) (pa_cons (pe_callB call_errIsG (by rfl) B.n_isinstance bt_isinstance (pa_cons (pv 0) (pa_cons (pe_glob (v := .ref C7) rfl T.e7.g rfl) pa_nil))) (pa_cons (pe_callB call_errIsG (by rfl) B.n_isinstance bt_isinstance (pa_cons (pv 0) (pa_cons (pe_glob (v := .ref C8) rfl T.e8.g rfl) pa_nil))) (pa_cons (pe_callB call_errIsG (by rfl) B.n_isinstance bt_isinstance (pa_cons (pv 0) (pa_cons (pe_glob (v := .ref C9) rfl T.e9.g rfl) pa_nil))) (pa_cons (pe_callB call_errIsG (by rfl) B.n_isinstance bt_isinstance (pa_cons (pv 0) (pa_cons (pe_glob (v := .ref C10) rfl T.e10.g rfl) pa_nil))) (pa_cons (pe_callB call_errIsG (by rfl) B.n_isinstance bt_isinstance (pa_cons (pv 0) (pa_cons (pe_glob (v := .ref C11) rfl T.e11.g rfl) pa_nil))) (pa_cons (pe_callB call_errIsG (by rfl) B.n_isinstance bt_isinstance (pa_cons (pv 0) (pa_cons (pe_glob (v := .ref C12) rfl T.e12.g rfl) pa_nil))) (pa_cons (pe_callB call_errIsG (by rfl) B.n_isinstance bt_isinstance (pa_cons (pv 0) (pa_cons (pe_glob (v := .ref C13) rfl T.e13.g rfl) pa_nil))) pa_nil))))))))))))))), ?_⟩
    refine ⟨_, rfl, a, C, fs, .ref C1, .ref C1, (0 == i), rfl, e, ec, fun _ h => h, ownB_ok W hi (by decide) hC rfl, ?_⟩
    refine ⟨_, rfl, a, C, fs, .ref C2, .ref C2, (1 == i), rfl, e, ec, fun _ h => h, ownB_ok W hi (by decide) hC rfl, ?_⟩
    refine ⟨_, rfl, a, C, fs, .ref C3, .ref C3, (2 == i), rfl, e, ec, fun _ h => h, ownB_ok W hi (by decide) hC rfl, ?_⟩
    refine ⟨_, rfl, a, C, fs, .ref C4, .ref C4, (3 == i), rfl, e, ec, fun _ h => h, ownB_ok W hi (by decide) hC rfl, ?_⟩
    refine ⟨_, rfl, a, C, fs, .ref C5, .ref C5, (4 == i), rfl, e, ec, fun _ h => h, ownB_ok W hi (by decide) hC rfl, ?_⟩
    refine ⟨_, rfl, a, C, fs, .ref C6, .ref C6, (5 == i), rfl, e, ec, fun _ h => h, ownB_ok W hi (by decide) hC rfl, ?_⟩
    refine ⟨_, rfl, a, C, fs, .ref C7, .ref C7, (6 == i), rfl, e, ec, fun _ h => h, ownB_ok W hi (by decide) hC rfl, ?_⟩
    refine ⟨_, rfl, a, C, fs, .ref C8, .ref C8, (7 == i), rfl, e, ec, fun _ h => h, ownB_ok W hi (by decide) hC rfl, ?_⟩
    refine ⟨_, rfl, a, C, fs, .ref C9, .ref C9, (8 == i), rfl, e, ec, fun _ h => h, ownB_ok W hi (by decide) hC rfl, ?_⟩
    refine ⟨_, rfl, a, C, fs, .ref C10, .ref C10, (9 == i), rfl, e, ec, fun _ h => h, ownB_ok W hi (by decide) hC rfl, ?_⟩
    refine ⟨_, rfl, a, C, fs, .ref C11, .ref C11, (10 == i), rfl, e, ec, fun _ h => h, ownB_ok W hi (by decide) hC rfl, ?_⟩
    refine ⟨_, rfl, a, C, fs, .ref C12, .ref C12, (11 == i), rfl, e, ec, fun _ h => h, ownB_ok W hi (by decide) hC rfl, ?_⟩
    refine ⟨_, rfl, a, C, fs, .ref C13, .ref C13, (12 == i), rfl, e, ec, fun _ h => h, ownB_ok W hi (by decide) hC rfl, ?_⟩
    exact ⟨by show 13 ≤ sizeLine; decide, fun p G' np s l => k p G' s l⟩
theorem ok_Bases (D : DefIn K mg "_law_bases" sBases) (B : Blt mg) (BE : BltE mg) (T : Tops P w K mg base CQ C1 C2 C3 C4 C5 C6 C7 C8 C9 C10 C11 C12 C13) (W : basB K CQ [C1, C2, C3, C4, C5, C6, C7, C8, C9, C10, C11, C12, C13] = true) : Ok P w K mg base "_law_bases" (defArgs sBases) ["_law_error"] 1 (spBases K [C1, C2, C3, C4, C5, C6, C7, C8, C9, C10, C11, C12, C13]) := by
  refine D.ok scBases (fun vs G Q E h => ?_) (fun _ _ _ _ _ _ us hl => match us, hl with | [_], _ => rfl) (fun f cdv A out t G vs Q E hr h => ?_)
  · obtain ⟨a, C, fs, i, rfl, _⟩ := h
    rfl
  · obtain ⟨a, C, fs, i, rfl, e, hi, hC, ec, k⟩ := h
    refine ⟨_, pss_one (ps_ret (pn_lst (pa_cons (pe_callB call_errIsG (by rfl) B.n_isinstance bt_isinstance (pa_cons (pv 0) (pa_cons (pe_glob (v := .ref CQ) rfl T.gQ rfl) pa_nil))) (pa_cons (pe_callB call_errIsG (by rfl) B.n_isinstance bt_isinstance (pa_cons (pv 0) (pa_cons (pe_bltn (v := .ty "ValueError") (by rfl) BE.v bt_VE rfl) pa_nil))) (pa_cons (pe_callB call_errIsG (by rfl) B.n_isinstance bt_isinstance (pa_cons (pv 0) (pa_cons (pe_bltn (v := .ty "KeyError") (by rfl) BE.k bt_KE rfl) pa_nil))) (pa_cons (pe_callB call_errIsG (by rfl) B.n_isinstance bt_isinstance (pa_cons (pv 0) (pa_cons (pe_bltn (v := .ty "IndexError") (by rfl) BE.i bt_IE rfl) pa_nil))) (pa_cons (pe_callB call_errIsG (by rfl) B.n_isinstance bt_isinstance (pa_cons (pv 0) (pa_cons (pe_bltn (v := .ty "LookupError") (by rfl) BE.l bt_LE rfl) pa_nil))) (pa_cons (pe_callB call_errIsG (by rfl) B.n_isinstance bt_isinstance (pa_cons (pv 0) (pa_cons (pe_bltn (v := .ty "OverflowError") (by rfl) BE.o bt_OE rfl) pa_nil))) pa_nil)))))))), ?_⟩
    refine ⟨_, rfl, a, C, fs, .ref CQ, .ref CQ, _, rfl, e, ec, fun _ h => h, basB_ok W 0 hi (by decide) hC rfl rfl, ?_⟩
    refine ⟨_, rfl, a, C, fs, .ty "ValueError", .type "ValueError", _, rfl, e, ec, fun _ h => h, basB_ok W 1 hi (by decide) hC rfl rfl, ?_⟩
    refine ⟨_, rfl, a, C, fs, .ty "KeyError", .type "KeyError", _, rfl, e, ec, fun _ h => h, basB_ok W 2 hi (by decide) hC rfl rfl, ?_⟩
    refine ⟨_, rfl, a, C, fs, .ty "IndexError", .type "IndexError", _, rfl, e, ec, fun _ h => h, basB_ok W 3 hi (by decide) hC rfl rfl, ?_⟩
    refine ⟨_, rfl, a, C, fs, .ty "LookupError", .type "LookupError", _, rfl, e, ec, fun _ h => h, basB_ok W 4 hi (by decide) hC rfl rfl, ?_⟩
    refine ⟨_, rfl, a, C, fs, .ty "OverflowError", .type "OverflowError", _, rfl, e, ec, fun _ h => h, basB_ok W 5 hi (by decide) hC rfl rfl, ?_⟩
    exact ⟨by show 6 ≤ sizeLine; decide, fun p G' np s l => k p G' s (by rw [dueL_six]; exact l)⟩
theorem ok_DueB (D : DefIn K mg "_law_due_bases" sDueB) : Ok P w K mg base "_law_due_bases" (defArgs sDueB) ["_law_k"] 1 spDueB := by
  refine D.ok scDueB (fun vs G Q E h => ?_) (fun _ _ _ _ _ _ us hl => match us, hl with | [_], _ => rfl) (fun f cdv A out t G vs Q E hr h => ?_)
  · obtain ⟨i, rfl, _⟩ := h
    rfl
  · obtain ⟨i, rfl, k⟩ := h
    refine ⟨_, (pss_cons (ps_if (pt_cmpR op_lt (pv 0) pe_int (nomark _)) (pss_one (ps_ret (pn_lst (pa_cons pe_bl (pa_cons pe_bl (pa_cons pe_bl (pa_cons pe_bl (pa_cons pe_bl (pa_cons pe_bl pa_nil))))))))) pss_nil)
      (pss_cons (ps_if (pt_cmpR op_lt (pv 0) pe_int (nomark _)) (pss_one (ps_ret (pn_lst (pa_cons pe_bl (pa_cons pe_bl (pa_cons pe_bl (pa_cons pe_bl (pa_cons pe_bl (pa_cons pe_bl pa_nil))))))))) pss_nil)
      (pss_cons (ps_if (pt_cmpR op_lt (pv 0) pe_int (nomark _)) (pss_one (ps_ret (pn_lst (pa_cons pe_bl (pa_cons pe_bl (pa_cons pe_bl (pa_cons pe_bl (pa_cons pe_bl (pa_cons pe_bl pa_nil))))))))) pss_nil)
      (pss_one (ps_ret (pn_lst (pa_cons pe_bl (pa_cons pe_bl (pa_cons pe_bl (pa_cons pe_bl (pa_cons (pe_cmpR op_eq (pv 0) pe_int (nomark _)) (pa_cons (pe_cmpR op_eq (pv 0) pe_int (nomark _)) pa_nil)))))))))))), ?_⟩
    unfold dueL at k
    refine ⟨_, rfl, _, _, rfl, rfl, _, rfl, ?_⟩
    refine ite2 (fun h => ?_) (fun h => ?_)
    · have h := of_decide_eq_true h
      rw [if_pos (show i < 7 by omega)] at k
      exact ⟨by show 6 ≤ sizeLine; decide, fun p G' np s l => k p G' s l⟩
    have h := of_decide_eq_false (Bool.eq_false_iff.mpr h)
    rw [if_neg (show ¬ i < 7 by omega)] at k
    refine ⟨_, rfl, _, _, rfl, rfl, _, rfl, ?_⟩
    refine ite2 (fun h => ?_) (fun h => ?_)
    · have h := of_decide_eq_true h
      rw [if_pos (show i < 9 by omega)] at k
      exact ⟨by show 6 ≤ sizeLine; decide, fun p G' np s l => k p G' s l⟩
    have h := of_decide_eq_false (Bool.eq_false_iff.mpr h)
    rw [if_neg (show ¬ i < 9 by omega)] at k
    refine ⟨_, rfl, _, _, rfl, rfl, _, rfl, ?_⟩
    refine ite2 (fun h => ?_) (fun h => ?_)
    · have h := of_decide_eq_true h
      rw [if_pos (show i < 11 by omega)] at k
      exact ⟨by show 6 ≤ sizeLine; decide, fun p G' np s l => k p G' s l⟩
    have h := of_decide_eq_false (Bool.eq_false_iff.mpr h)
    rw [if_neg (show ¬ i < 11 by omega)] at k
    refine ⟨_, rfl, rfl, _, rfl, rfl, ?_⟩
    refine ⟨by show 6 ≤ sizeLine; decide, fun p G' np s l => k p G' s ?_⟩
    rw [l]
    have e1 : decide (V.int (i : Int) = V.int 12) = (i == 12) := by
      rw [Bool.eq_iff_iff]
      simp
      omega
    have e2 : decide (V.int (i : Int) = V.int 11) = (i == 11) := by
      rw [Bool.eq_iff_iff]
      simp
      omega
    rw [e1, e2]
    rfl
end
end K01
set_option Elab.async false
set_option linter.all false
set_option maxRecDepth 100000
set_option maxHeartbeats 16000000
namespace K01
open PySem PySem.Spec PyProof.Rows L2 Qh Qv
/-! ### the menu of values -/
def menuD : List PyData := [.none, .bool true, .int 0, .int (-1), .int (10 ^ (59 : Int).toNat), .str (Str.ofString ""), .str (Str.ofString "a b"), .str (Str.ofString "x"), .tuple [.str (Str.ofString "x"), .int 1], .list [.str (Str.ofString "x")], .dict [(.str (Str.ofString "k"), .int 1)], .tuple [], .str (Str.ofString "*"), .int 3, .list [.list [], .tuple []]]
def okD (d : PyData) : Bool := d.showable && (decide (d.depth ≤ 5) && decide (d.shown.length ≤ 200))
theorem menu_ok {d : PyData} (h : d ∈ menuD) : d.showable = true ∧ d.depth ≤ 5 ∧ d.shown.length ≤ 200 := by
  have all : menuD.all okD = true := by decide +kernel
  have h := List.all_eq_true.mp all d h
  unfold okD at h
  obtain ⟨h1, h2⟩ := Bool.and_eq_true_iff.mp h
  obtain ⟨h2, h3⟩ := Bool.and_eq_true_iff.mp h2
  exact ⟨h1, of_decide_eq_true h2, of_decide_eq_true h3⟩
theorem listText_le (ts : List Str) : (listText ts).length ≤ piled ts + 2 := by
  have e1 : (("]" : String) : Str).length = 1 := rfl
  have e2 : (("[" : String) : Str).length = 1 := rfl
  unfold listText
  rw [strLen_append, e1]
  cases ts with
  | nil =>
    show (Str.ofString "[").length + 1 ≤ _
    have : (Str.ofString "[").length = 1 := rfl
    omega
  | cons t r =>
    have h : (textFrom 0 "[" (t :: r)) = textFrom 1 ((("[" : String) : Str) ++ (("" : String) : Str) ++ t) r := rfl
    have e3 : ((("" : String) : Str)).length = 0 := rfl
    rw [h, textFrom_length_pos r 1 _ (by decide), strLen_append, strLen_append, e2, e3, piled_cons]
    omega
theorem fields_ok {d1 d2 d3 : PyData} (h1 : d1 ∈ menuD) (h2 : d2 ∈ menuD) (h3 : d3 ∈ menuD) : (fieldsD d1 d2 d3).showable = true ∧ (fieldsD d1 d2 d3).depth ≤ 40 ∧ (fieldsD d1 d2 d3).shown.length ≤ sizeLine := by
  obtain ⟨a1, a2, a3⟩ := menu_ok h1
  obtain ⟨b1, b2, b3⟩ := menu_ok h2
  obtain ⟨c1, c2, c3⟩ := menu_ok h3
  refine ⟨?_, ?_, ?_⟩
  · simp [fieldsD, PyData.showable, PyData.showableAll, a1, b1, c1]
  · simp only [fieldsD, PyData.depth, PyData.depthAll]
    omega
  · have L1 := listText_le [d1.shown]
    have L2 := listText_le [d1.shown, d2.shown]
    have L3 := listText_le [d1.shown, d2.shown, d3.shown]
    simp only [piled_cons, piled_nil] at L1 L2 L3
    simp only [fieldsD, PyData.shown, PyData.shownAll]
    refine Nat.le_trans (listText_le _) ?_
    simp only [piled_cons, piled_nil]
    unfold sizeLine
    omega
/-! ### values whose data outlives the pen's moves -/
def DwK (p : Addr) (G : Hp) (v : V) (d : PyData) : Prop := ∀ G', Kp p G G' → Dw G' v d
theorem DwK.kp {p : Addr} {G G' : Hp} {v : V} {d : PyData} (h : DwK p G v d) (k : Kp p G G') : DwK p G' v d := fun G2 k2 => h G2 (k.trans k2)
theorem DwK.now {p : Addr} {G : Hp} {v : V} {d : PyData} (h : DwK p G v d) : Dw G v d := h G (Kp.refl p G)
def spValue : Sp := fun vs G Q _ => ∃ (p l : Addr) (c : Int), vs = [.ref p] ∧ Pen G p l c ∧ c ≤ 900000 ∧ ∀ (v : V) (d : PyData) (G' : Hp), d ∈ menuD → DwK p G' v d → Kp p G G' → Pen G' p l (c + 1) → Q v G'
abbrev sValue : Stmt := top 19
/-- {'k': an int} -/
def nDictI (k : Str) (i : Int) : TE := fun _ G Q => ∀ p G', G p = none → Same G G' → G' p = some (.dK [(.inr k, .int i)]) → Q (.ref p) G'
theorem pn_dictI {X : Cx} {pos : Pos} {k : Str} {i : Int} {j1 j2 : Nat} {p1 p2 : Pos} : PE X (.Dict [some (.Constant (.str k) j1 p1)] [.Constant (.int i) j2 p2] pos) (nDictI k i) := by
  refine pe_imp (pe_disp (pps_cons pe_str pe_int pps_nil) rfl rfl (by simp) (by show 1 ≤ 15; decide)) fun σ G Q q p hp => ?_
  refine ⟨upd_same, [(.inr k, .int i)], rfl, by show 1 ≤ 15; decide, ?_⟩
  rw [upd_upd]
  exact q p _ hp (Same.new hp) upd_same
section
variable {P : Program} {w : World} {K : PySem.W.Frag} {mg : Str → Option Value} {base : Heap}
theorem scValue : FnScope ["_law_pen_here", "_law_some"] ["_law_pen_here"] (defScope sValue) := ⟨rfl, rfl, rfl, by decide +kernel, rfl, by decide +kernel, by decide +kernel⟩
theorem ok_Value (D : DefIn K mg "_law_value" sValue) (F : Ok P w K mg base "_law_pick" (defArgs sPick) ["_law_pen_here", "_law_some"] 2 (spPick K)) : Ok P w K mg base "_law_value" (defArgs sValue) ["_law_pen_here"] 3 spValue := by
  refine D.ok scValue (fun vs G Q E h => ?_) (fun _ _ _ _ _ _ us hl => match us, hl with | [_], _ => rfl) (fun f cdv A out t G vs Q E hr h => ?_)
  · obtain ⟨p, l, c, rfl, _⟩ := h
    rfl
  · obtain ⟨p, l, c, rfl, P0, hc, k⟩ := h
    refine ⟨_, pss_cons (ps_set (i := 1) scValue.nd rfl (by first | exact Or.inl rfl | exact Or.inr rfl) (pn_lst (pa_cons pe_non (pa_cons pe_bl (pa_cons pe_int (pa_cons (pe_un un_neg pe_int) (pa_cons (pe_op op_pow pe_int pe_int) (pa_cons pe_str (pa_cons pe_str (pa_cons pe_str (pa_cons (pn_tup (pa_cons pe_str (pa_cons pe_int pa_nil))) (pa_cons (pn_lstS (pa_cons pe_str pa_nil)) (pa_cons pn_dictI (pa_cons (pn_tup pa_nil) (pa_cons pe_str (pa_cons pe_int (pa_cons (pn_lstS (pa_cons (pn_lstS pa_nil) (pa_cons (pn_tup pa_nil) pa_nil))) pa_nil)))))))))))))))))
      (pss_one (ps_ret (pe_own F hr takes0 (pa_cons (pv 0) (pa_cons (pv 1) pa_nil))))), ?_⟩
    refine ⟨_, rfl, _, _, rfl, rfl, ⟨by decide, by decide, by decide⟩, ?_⟩
    refine ⟨by show 2 ≤ sizeLine; decide, fun q1 G1 n1 s1 l1 => ?_⟩
    refine ⟨by show 1 ≤ sizeLine; decide, fun q2 G2 n2 m2 s2 l2 => ?_⟩
    refine fun q3 G3 n3 s3 l3 => ?_
    refine ⟨by show 0 ≤ sizeLine; decide, fun q4 G4 n4 s4 l4 => ?_⟩
    refine ⟨by show 0 ≤ sizeLine; decide, fun q5 G5 n5 m5 s5 l5 => ?_⟩
    refine ⟨by show 0 ≤ sizeLine; decide, fun q6 G6 n6 s6 l6 => ?_⟩
    refine ⟨by show 2 ≤ sizeLine; decide, fun q7 G7 n7 m7 s7 l7 => ?_⟩
    refine ⟨by show 15 ≤ sizeLine; decide, fun q8 G8 n8 s8 l8 => ?_⟩
    have P1 := P0.same s1
    have P2 := P1.same s2
    have P3 := P2.same s3
    have P4 := P3.same s4
    have P5 := P4.same s5
    have P6 := P5.same s6
    have P7 := P6.same s7
    have P8 := P7.same s8
    have u7 := s8
    have u6 := s7.trans u7
    have u5 := s6.trans u6
    have u4 := s5.trans u5
    have u3 := s4.trans u4
    have u2 := s3.trans u3
    have u1 := s2.trans u2
    refine ⟨_, rfl, _, rfl, p, l, q8, c, _, rfl, P8, by omega, P7.ne n8, SqL.of l8, by show 0 < 15; decide, by show 15 ≤ 1000000; decide, fun v G9 hv k9 P9 => ?_⟩
    have kAll : Kp p G G9 := (Kp.same (s1.trans u1)).trans k9
    have put : ∀ d, d ∈ menuD → DwK p G9 v d → Q v G9 := fun d hd hw => k v d G9 hd hw kAll P9
    simp only [List.mem_cons, List.not_mem_nil, or_false] at hv
    have go : ∀ {q : Addr} {o : HO}, q ≠ p → G8 q = some o → ∀ G', Kp p G9 G' → G' q = some o := fun n e G' k' => k' _ _ n (k9 _ _ n e)
    have g1 := go (P0.ne n1) (u1 _ _ l1)
    have g2 := go (P1.ne n2) (u2 _ _ l2)
    have g3 := go (P2.ne n3) (u3 _ _ l3)
    have g4 := go (P3.ne n4) (u4 _ _ l4)
    have g5 := go (P4.ne n5) (u5 _ _ l5)
    have g6 := go (P5.ne n6) (u6 _ _ l6)
    have g7 := go (P6.ne n7) (u7 _ _ l7)
    rcases hv with rfl | rfl | rfl | rfl | rfl | rfl | rfl | rfl | rfl | rfl | rfl | rfl | rfl | rfl | rfl
    · exact put .none (by simp [menuD]) fun _ _ => .non
    · exact put (.bool true) (by simp [menuD]) fun _ _ => .bl _
    · exact put (.int 0) (by simp [menuD]) fun _ _ => .int _
    · exact put (.int (-1)) (by simp [menuD]) fun _ _ => .int _
    · exact put (.int (10 ^ (59 : Int).toNat)) (by simp [menuD]) fun _ _ => .int _
    · exact put (.str (Str.ofString "")) (by simp [menuD]) fun _ _ => .str _
    · exact put (.str (Str.ofString "a b")) (by simp [menuD]) fun _ _ => .str _
    · exact put (.str (Str.ofString "x")) (by simp [menuD]) fun _ _ => .str _
    · exact put (.tuple [.str (Str.ofString "x"), .int 1]) (by simp [menuD]) fun G' k' => .tup (g1 G' k') (.cons (.str _) (.cons (.int _) .nil))
    · exact put (.list [.str (Str.ofString "x")]) (by simp [menuD]) fun G' k' => .lst m2 (g2 G' k') (.cons (.str _) .nil)
    · exact put (.dict [(.str (Str.ofString "k"), .int 1)]) (by simp [menuD]) fun G' k' => .dct (g3 G' k')
    · exact put (.tuple []) (by simp [menuD]) fun G' k' => .tup (g4 G' k') .nil
    · exact put (.str (Str.ofString "*")) (by simp [menuD]) fun _ _ => .str _
    · exact put (.int 3) (by simp [menuD]) fun _ _ => .int _
    · exact put (.list [.list [], .tuple []]) (by simp [menuD]) fun G' k' => .lst m7 (g7 G' k') (.cons (.lst m5 (g5 G' k') .nil) (.cons (.tup (g6 G' k') .nil) .nil))
end
/-! ### QuoteError() -/
section
variable {X : Cx} {C : Addr} {bmB : List Value} {B newId initId : String} {x : Str} {p pos : Pos}
theorem pe_exc0 (F : ExcBaseFacts B newId initId bmB) (q : PySem.W.excIn X.K C bmB newId = true) (gC : X.mg x = some (.ref C)) (kC : PySem.W.keepIn X.K (.ref C) = true) (hg : Gl X x := by rfl) (hdb : (x == ("__debug__" : Str)) = false := by decide) :
    PE X (.Call (.Name x p) [] [] pos) (fun σ H Q => ∀ a, H a = none → Q (.ref a) (upd H a (ExO (.ref C) a))) := by
  constructor
  intro pins s σ H Q I h
  refine wpAny_Call_Name_kw (ld_glob I hg gC ?_ hdb)
  refine PySem.W.callWith_K0 I.kIn kC ?_
  show wpAny _ _ (call (.ref C) []) _ _ _
  obtain ⟨bm, N, nm, qn, bs, hdct, sn, sub, ab, col, dd, k0, k1, k2, k3, k5, mN, hC, hN, hni, T⟩ := exc_obj I.kIn q
  refine wpAny_call_exc_subT F T hC hN hni (fun h' a hm => ?_) (Nat.zero_le _)
  have hn : H a = none := I.hok.gone hm.new
  obtain ⟨t, ht, _, _⟩ := hm.there
  exact ⟨.ref a, _, I.laidN hm.keeps hm.new hn (exO_ok ht ⟨rfl, rfl⟩ rfl rfl rfl (show 4 < 6 by decide)), rfl, h a hn⟩
/-- isinstance(e, c), e such an object -/
def rExIs (K : PySem.W.Frag) : List V → Hp → VK → Prop := fun xs G Q => ∃ (a C : Addr) (c : V) (cv : Value) (b : Bool), xs = [.ref a, c] ∧ G a = some (ExO (.ref C) a) ∧ ExcC K C ∧ (∀ u, RelV c u → u = cv) ∧ PySem.W.kitOne K (.ref C) cv = some b ∧ Q (.bl b) G
theorem call_exIs : CallR X (.builtin "isinstance") (rExIs X.K) := by
  rintro pins s σ G xs us Q I r ⟨a, D, c, cv, b, rfl, ek, C, hcv, e, q⟩
  obtain ⟨u1, u2, rfl, r1, r2⟩ := vals2 r
  obtain rfl : u1 = Value.ref a := r1
  obtain rfl := hcv _ r2
  obtain ⟨⟨oe, vs, ha, hz, hdata, _⟩, _⟩ := I.hok a _ ek
  have J : PySem.W.InstAt s.heap a oe D none := ⟨ha, hz.1, by unfold PySem.W.notCls; rw [hdata] <;> rfl, by rw [hz.2]; trivial⟩
  have hcl : (PySem.W.clsIn X.K D).isSome = true := by
    obtain ⟨cd, hc, _⟩ := PySem.W.any_some C.hd
    rw [hc]
    rfl
  exact PySem.W.kia_one (PySem.W.kitx_exc hcl C.hg C.hk C.hs C.ha C.hn C.ht C.hm) I.kIn J e (fun z => nomatch z) fun tk => ⟨.bl b, G, I.kept (t' := tk) fun _ _ z => z, rfl, q⟩
end
theorem lay_bools : ∀ bs : List Bool, PyData.canLayAll0 (bs.map PyData.bool) = true ∧ PyData.depthAll (bs.map PyData.bool) = 0
  | [] => ⟨rfl, rfl⟩
  | a :: r => ⟨by show (true && PyData.canLayAll0 (r.map PyData.bool)) = true; rw [(lay_bools r).1]; rfl, by show max 0 (PyData.depthAll (r.map PyData.bool)) = 0; rw [(lay_bools r).2]; rfl⟩
theorem shaped_bools (bs : List Bool) : SeqAt.shaped (.list (bs.map PyData.bool)) = true := by
  show (PyData.canLayAll0 (bs.map PyData.bool) && decide (PyData.depthAll (bs.map PyData.bool) + 1 ≤ 64)) = true
  rw [(lay_bools bs).1, (lay_bools bs).2]
  rfl
theorem dp_bools {K : PySem.W.Frag} {G : Hp} : ∀ bs : List Bool, DpAll K G (bs.map V.bl) (bs.map PyData.bool)
  | [] => .nil
  | a :: r => .cons (.bl a) (dp_bools r)
end K01
set_option Elab.async false
set_option linter.all false
set_option maxRecDepth 100000
set_option maxHeartbeats 16000000
namespace K01
open PySem PySem.Spec PyProof.Rows L2 Qh Qv

abbrev sLaw : Stmt := top 26
abbrev lawN : List Str := ["_law_script", "_law_pen_here", "_law_turn", "_law_one", "_law_other", "_law_third", "_law_two", "_law_due", "_law_some", "_law_k", "_law_error", "_law_j"]
theorem iteE {b : Bool} {A B : Prop} (hb : b = true) (h : B) : if (!b) = true then A else B := by
  subst hb
  exact h
def spLaw (K : PySem.W.Frag) : Sp := fun vs G Q _ => ∃ (a : Addr) (ns : List Int), vs = [.ref a] ∧ SqL K G a (ns.map V.int) ∧ ∀ G', Q (.bl true) G'
theorem Errs.at {G : Hp} : ∀ {as Cs : List Addr} {r : List (List (Str × V))} {i : Nat} {a : Addr}, Errs G as Cs r → as[i]? = some a → ∃ fs, ErrAt G a (Cs.getD i 0) fs
  | _, _, _, 0, a, .cons h t, e => by
    cases e
    exact ⟨_, h⟩
  | _, _, _, i + 1, a, .cons h t, e => by
    have q := Errs.at (i := i) t e
    exact q
theorem Errs.len {G : Hp} : ∀ {as Cs : List Addr} {r : List (List (Str × V))}, Errs G as Cs r → as.length = Cs.length
  | _, _, _, .nil => rfl
  | _, _, _, .cons h t => by rw [List.length_cons, List.length_cons, Errs.len t]
section
variable {P : Program} {w : World} {K : PySem.W.Frag} {mg : Str → Option Value} {base : Heap}
variable {CQ C1 C2 C3 C4 C5 C6 C7 C8 C9 C10 C11 C12 C13 : Addr}
theorem scLaw : FnScope lawN ["_law_script"] (defScope sLaw) := ⟨rfl, rfl, rfl, by decide +kernel, rfl, by decide +kernel, by decide +kernel⟩
theorem ok_law {fl : Addr} {fdl : FuncData} (D : Fun K "law" "law" sLaw fl fdl) (B : Blt mg) (BE : BltE mg) (T : Tops P w K mg base CQ C1 C2 C3 C4 C5 C6 C7 C8 C9 C10 C11 C12 C13)
    (EC : ∀ i, i < 13 → ExcC K (([C1, C2, C3, C4, C5, C6, C7, C8, C9, C10, C11, C12, C13] : List Addr).getD i 0)) (qx : PySem.W.excIn K CQ [.type "ValueError", .type "Exception", .type "BaseException", .type "object"] "ValueError.__new__" = true) (kQ : PySem.W.keepIn K (.ref CQ) = true) (EQ : ExcC K CQ) (iQ : PySem.W.kitOne K (.ref CQ) (.type "ValueError") = some true)
    (Fpen : Ok P w K mg base "_law_pen" (defArgs sPen) ["_law_script"] 1 (spPen K))
    (Fval : Ok P w K mg base "_law_value" (defArgs sValue) ["_law_pen_here"] 3 spValue)
    (Ferr : Ok P w K mg base "_law_errors" (defArgs sErrors) ["_law_one", "_law_other", "_law_third"] 3 (spErrs [C1, C2, C3, C4, C5, C6, C7, C8, C9, C10, C11, C12, C13]))
    (Fnam : Ok P w K mg base "_law_named_errors" (defArgs sNamed) ["_law_one", "_law_other", "_law_third"] 3 (spErrs [C1, C2, C3, C4, C5, C6, C7, C8, C9, C10, C11, C12, C13]))
    (Ffld : Ok P w K mg base "_law_fields" (defArgs sFields) ["_law_some"] 1 (spFields [C1, C2, C3, C4, C5, C6, C7, C8, C9, C10, C11, C12, C13]))
    (Fown : Ok P w K mg base "_law_own" (defArgs sOwn) ["_law_error"] 1 (spOwn K [C1, C2, C3, C4, C5, C6, C7, C8, C9, C10, C11, C12, C13]))
    (Fbas : Ok P w K mg base "_law_bases" (defArgs sBases) ["_law_error"] 1 (spBases K [C1, C2, C3, C4, C5, C6, C7, C8, C9, C10, C11, C12, C13]))
    (Fdue : Ok P w K mg base "_law_due_bases" (defArgs sDueB) ["_law_k"] 1 spDueB) :
    FnG P w K mg base (L2.CX P w) 4 fl fdl ["_law_script"] (spLaw K) := by
  refine Qh.okG D scLaw (fun vs G Q E h => ?_) (fun cdv A out t G vs Q E gu hr h => ?_)
  · obtain ⟨a, ns, rfl, _⟩ := h
    rfl
  · obtain ⟨a, ns, rfl, hS, k⟩ := h
    have hu64 := hr.units
    have hgu : (A.deeper (envOfC (Str.ofString "law") (defScope sLaw) t.heap.objs.size fl cdv)).guards = some [] := gu
    refine ⟨_, (pss_cons (ps_set (i := 1) scLaw.nd rfl (by first | exact Or.inl rfl | exact Or.inr rfl) (pe_own Fpen (hr.mono (by decide)) takes0 (pa_cons (pv 0) pa_nil)))
    (pss_cons (ps_for (passes_of rfl) rfl (pi_range1 (by rfl) B.n_range (pa_cons pe_int pa_nil)) (pg_name (i := 2) scLaw.nd rfl (by first | exact Or.inl rfl | exact Or.inr rfl))
      (pss_cons (ps_par3 rfl scLaw.nd (i := 3) (j := 4) (l := 5) rfl rfl rfl (by decide) (by decide) (by decide) rfl rfl rfl (pa_cons (pe_own Fval (hr.mono (by decide)) takes0 (pa_cons (pv 1) pa_nil)) (pa_cons (pe_own Fval (hr.mono (by decide)) takes0 (pa_cons (pv 1) pa_nil)) (pa_cons (pe_own Fval (hr.mono (by decide)) takes0 (pa_cons (pv 1) pa_nil)) pa_nil))) (by rfl))
      (pss_cons (ps_set (i := 6) scLaw.nd rfl (by first | exact Or.inl rfl | exact Or.inr rfl) (pe_op on_rep (pn_lst (pa_cons (pn_lstS (pa_cons (pv 3) (pa_cons (pv 4) pa_nil))) pa_nil)) pe_int))
      (pss_cons (ps_set (i := 7) scLaw.nd rfl (by first | exact Or.inl rfl | exact Or.inr rfl) (pe_op on_catS (pe_op on_cat (pe_op on_cat (pn_lst (pa_cons (pn_lstS (pa_cons (pv 3) pa_nil)) (pa_cons (pn_lstS (pa_cons (pv 3) pa_nil)) pa_nil))) (pv 6)) (pn_lst (pa_cons (pn_lstS (pa_cons (pv 3) pa_nil)) (pa_cons (pn_lstS (pa_cons (pv 3) (pa_cons (pv 4) (pa_cons (pv 5) pa_nil)))) pa_nil)))) (pe_op on_rep (pn_lst (pa_cons (pn_lstS (pa_cons (pv 3) pa_nil)) pa_nil)) pe_int)))
      (pss_one (ps_for (passes_of rfl) rfl (pi_tup (pn_tup (pa_cons (pe_own Ferr (hr.mono (by decide)) takes0 (pa_cons (pv 3) (pa_cons (pv 4) (pa_cons (pv 5) pa_nil)))) (pa_cons (pe_own Fnam (hr.mono (by decide)) takes0 (pa_cons (pv 3) (pa_cons (pv 4) (pa_cons (pv 5) pa_nil)))) pa_nil)))) (pg_name (i := 8) scLaw.nd rfl (by first | exact Or.inl rfl | exact Or.inr rfl))
        (pss_cons (ps_if (pt_cmpR op_ne (pe_callB (call_reprW hgu hu64) (by rfl) B.n_repr bt_repr (pa_cons (pe_own Ffld (hr.mono (by decide)) takes0 (pa_cons (pv 8) pa_nil)) pa_nil)) (pe_callB (call_reprW hgu hu64) (by rfl) B.n_repr bt_repr (pa_cons (pv 7) pa_nil)) (nomark _)) (pss_one (ps_ret pe_bl)) pss_nil)
        (pss_one (ps_for (passes_of rfl) rfl (pi_enum (by rfl) B.n_enumerate (pa_cons (pv 8) pa_nil)) (pg_tup rfl (pgs_cons (pg_name (i := 9) scLaw.nd rfl (by first | exact Or.inl rfl | exact Or.inr rfl)) (pgs_cons (pg_name (i := 10) scLaw.nd rfl (by first | exact Or.inl rfl | exact Or.inr rfl)) pgs_nil)))
          (pss_one (ps_if (PW.pt (pw_or (pt_cmpR (op_neD hu64) (pe_own Fown (hr.mono (by decide)) takes0 (pa_cons (pv 10) pa_nil)) (pe_lc (own := [("_law_j", 11)]) (tt := tYes) rfl scLaw.nd (pi_range1 (by rfl) B.n_range (pa_cons pe_int pa_nil)) (blkOk_by (N := lawN) (sc := defScope sLaw) (by decide +kernel)) (fun _ _ _ _ _ => pg_name (i := 11) scLaw.nd rfl (by first | exact Or.inl rfl | exact Or.inr rfl)) (fun _ _ _ _ _ => pts_nil) (fun _ _ _ _ _ => (pe_cmpR op_eq (pv 11) (pv 9) (nomark _)))) (nomark _)) (pw_or1 (pt_cmpR (op_neD hu64) (pe_own Fbas (hr.mono (by decide)) takes0 (pa_cons (pv 10) pa_nil)) (pe_own Fdue (hr.mono (by decide)) takes0 (pa_cons (pv 9) pa_nil)) (nomark _))))) (pss_one (ps_ret pe_bl)) pss_nil)))))))))))
    (pss_one (ps_ret (pe_callB call_exIs (by rfl) B.n_isinstance bt_isinstance (pa_cons (pe_exc0 PySem.F.excBase_ValueError qx T.gQ kQ) (pa_cons (pe_bltn (v := .ty "ValueError") (by rfl) BE.v bt_VE rfl) pa_nil))))))), ?_⟩
    refine ⟨_, rfl, a, ns, rfl, hS, fun p l G1 hp1 s1 P1 => ?_⟩
    refine ⟨5, rfl, by decide, by decide, ?_⟩
    refine for_range (fun i σ' G' => ∃ (o2 o3 o4 o5 o6 o7 o8 o9 o10 : Option V), σ' = [some (.ref a), some (.ref p), o2, o3, o4, o5, o6, o7, o8, o9, o10, none] ∧ Pen G' p l (10 * i)) ⟨_, _, _, _, _, _, _, _, _, rfl, P1.mono (by omega)⟩ ?_ ?_
    · rintro i σ1 G2 hi ⟨o2, o3, o4, o5, o6, o7, o8, o9, o10, rfl, P2⟩
      have hi : i < 5 := hi
      refine ⟨_, rfl, p, l, _, rfl, P2, by omega, fun v1 d1 G3 m1 D1 kp3 P3 => ?_⟩
      refine ⟨_, rfl, p, l, _, rfl, P3, by omega, fun v2 d2 G4 m2 D2 kp4 P4 => ?_⟩
      refine ⟨_, rfl, p, l, _, rfl, P4, by omega, fun v3 d3 G5 m3 D3 kp5 P5 => ?_⟩
      refine ⟨v1, v2, v3, rfl, ?_⟩
      have W1 : Dw G5 v1 d1 := (D1.kp (kp4.trans kp5)).now
      have W2 : Dw G5 v2 d2 := (D2.kp kp5).now
      have W3 : Dw G5 v3 d3 := D3.now
      -- two
      refine ⟨_, rfl, _, rfl, by show 2 ≤ sizeLine; decide, fun b1 G6 n6 z6 s6 l6 => ?_⟩
      refine ⟨by show 1 ≤ sizeLine; decide, fun b2 G7 n7 s7 l7 => ?_⟩
      refine ⟨b2, 3, _, rfl, rfl, l7, by decide, by decide, by show 1 * 3 ≤ sizeLine; decide, fun b3 G8 n8 s8 l8 => ?_⟩
      -- due
      have S6 := s6
      have S7 := S6.trans s7
      have S8 := S7.trans s8
      refine ⟨_, rfl, by show 1 ≤ sizeLine; decide, fun c1 G9 n9 z9 s9 l9 => ?_⟩
      have S9 := S8.trans s9
      refine ⟨_, rfl, by show 1 ≤ sizeLine; decide, fun c2 G10 n10 z10 s10 l10 => ?_⟩
      have S10 := S9.trans s10
      refine ⟨by show 2 ≤ sizeLine; decide, fun c3 G11 n11 s11 l11 => ?_⟩
      have S11 := S10.trans s11
      refine ⟨_, rfl, c3, b3, _, _, rfl, rfl, l11, s11 _ _ (s10 _ _ (s9 _ _ l8)), by show 2 + 3 ≤ sizeLine; decide, fun c4 G12 n12 s12 l12 => ?_⟩
      have S12 := S11.trans s12
      refine ⟨_, rfl, by show 1 ≤ sizeLine; decide, fun c5 G13 n13 z13 s13 l13 => ?_⟩
      have S13 := S12.trans s13
      refine ⟨_, rfl, _, rfl, _, rfl, by show 3 ≤ sizeLine; decide, fun c6 G14 n14 z14 s14 l14 => ?_⟩
      have S14 := S13.trans s14
      refine ⟨by show 2 ≤ sizeLine; decide, fun c7 G15 n15 s15 l15 => ?_⟩
      have S15 := S14.trans s15
      refine ⟨c4, c7, _, _, rfl, rfl, s15 _ _ (s14 _ _ (s13 _ _ l12)), l15, by show 5 + 2 ≤ sizeLine; decide, fun c8 G16 n16 s16 l16 => ?_⟩
      have S16 := S15.trans s16
      refine ⟨_, rfl, by show 1 ≤ sizeLine; decide, fun c9 G17 n17 z17 s17 l17 => ?_⟩
      have S17 := S16.trans s17
      refine ⟨by show 1 ≤ sizeLine; decide, fun c10 G18 n18 s18 l18 => ?_⟩
      have S18 := S17.trans s18
      refine ⟨c10, 6, _, rfl, rfl, l18, by decide, by decide, by show 1 * 6 ≤ sizeLine; decide, fun c11 G19 n19 s19 l19 => ?_⟩
      have S19 := S18.trans s19
      refine ⟨c8, c11, _, _, rfl, rfl, s19 _ _ (s18 _ _ (s17 _ _ l16)), l19, by show 7 + 6 ≤ sizeLine; decide, fun c12 G20 n20 z20 s20 l20 => ?_⟩
      have S20 := S19.trans s20
      have t19 := s20
      have t18 := s19.trans t19
      have t17 := s18.trans t18
      have t16 := s17.trans t17
      have t15 := s16.trans t16
      have t14 := s15.trans t15
      have t13 := s14.trans t14
      have t12 := s13.trans t13
      have t11 := s12.trans t12
      have t10 := s11.trans t11
      have t9 := s10.trans t10
      have t8 := s9.trans t9
      have t7 := s8.trans t8
      have t6 := s7.trans t7
      have X1 : Dw G20 (.ref c1) (.list [d1]) := .lst z9 (t9 _ _ l9) (.cons (W1.same S20) .nil)
      have X2 : Dw G20 (.ref c2) (.list [d1]) := .lst z10 (t10 _ _ l10) (.cons (W1.same S20) .nil)
      have X3 : Dw G20 (.ref b1) (.list [d1, d2]) := .lst z6 (t6 _ _ l6) (.cons (W1.same S20) (.cons (W2.same S20) .nil))
      have X5 : Dw G20 (.ref c5) (.list [d1]) := .lst z13 (t13 _ _ l13) (.cons (W1.same S20) .nil)
      have X6 : Dw G20 (.ref c6) (.list [d1, d2, d3]) := .lst z14 (t14 _ _ l14) (.cons (W1.same S20) (.cons (W2.same S20) (.cons (W3.same S20) .nil)))
      have X9 : Dw G20 (.ref c9) (.list [d1]) := .lst z17 (t17 _ _ l17) (.cons (W1.same S20) .nil)
      have l20' : G20 c12 = some (.lst [.ref c1, .ref c2, .ref b1, .ref b1, .ref b1, .ref c5, .ref c6, .ref c9, .ref c9, .ref c9, .ref c9, .ref c9, .ref c9]) := l20
      have XD : Dw G20 (.ref c12) (fieldsD d1 d2 d3) := .lst z20 l20' (.cons X1 (.cons X2 (.cons X3 (.cons X3 (.cons X3 (.cons X5 (.cons X6 (.cons X9 (.cons X9 (.cons X9 (.cons X9 (.cons X9 (.cons X9 .nil)))))))))))))
      -- errors, made in both ways
      refine ⟨_, rfl, _, rfl, _, rfl, v1, v2, v3, rfl, fun e1 as1 G21 s21 l21 E1 => ?_⟩
      refine ⟨_, rfl, _, rfl, _, rfl, v1, v2, v3, rfl, fun e2 as2 G22 s22 l22 E2 => ?_⟩
      refine ⟨by show 2 ≤ sizeLine; decide, fun tp G23 n23 s23 l23 => ?_⟩
      have S23 := ((S20.trans s21).trans s22).trans s23
      have XD' := XD.same ((s21.trans s22).trans s23)
      obtain ⟨f1, f2, f3⟩ := fields_ok m1 m2 m3
      have hE : ∀ x ∈ [V.ref e1, .ref e2], ∃ e as, x = .ref e ∧ G23 e = some (.lst (as.map V.ref)) ∧ Errs G23 as [C1, C2, C3, C4, C5, C6, C7, C8, C9, C10, C11, C12, C13] (fsOf v1 v2 v3) := fun x hx => by
        simp only [List.mem_cons, List.not_mem_nil, or_false] at hx
        rcases hx with rfl | rfl
        · exact ⟨_, _, rfl, s23 _ _ (s22 _ _ l21), E1.same (s22.trans s23)⟩
        · exact ⟨_, _, rfl, s23 _ _ l22, E2.same s23⟩
      refine ⟨tp, rfl, ⟨_, SqT.of l23⟩, ?_⟩
      refine for_tup (fun j σ' G' => ∃ (o8 o9 o10 : Option V), σ' = [some (.ref a), some (.ref p), some (.int (0 + (i : Int))), some v1, some v2, some v3, some (.ref b3), some (.ref c12), o8, o9, o10, none] ∧ Same G23 G') ⟨_, _, _, rfl, Same.refl _⟩ (fun j σ' G' _ ⟨_, _, _, _, sm⟩ => SqT.of (sm _ _ l23)) ?_ ?_
      · rintro j x σ1 G24 hj ⟨o8, o9, o10, rfl, sm⟩
        obtain ⟨e, as, rfl, he, Er⟩ := hE x (List.mem_of_getElem? hj)
        have Sx := S23.trans sm
        refine ⟨_, rfl, e, v1, v2, v3, d1, d2, d3, as, rfl, sm _ _ he, Er.same sm, W1.same Sx, W2.same Sx, W3.same Sx, fun f G25 s25 Df => ?_⟩
        refine ⟨f, fieldsD d1 d2 d3, rfl, Df, f1, f2, f3, ?_⟩
        refine ⟨_, rfl, c12, fieldsD d1 d2 d3, rfl, XD'.same (sm.trans s25), f1, f2, f3, ?_⟩
        refine ⟨rfl, _, rfl, ?_⟩
        refine iteNS rfl ?_
        have he25 := s25 _ _ (sm _ _ he)
        have Er25 := Er.same (sm.trans s25)
        have alen : as.length = 13 := Er25.len
        refine ⟨_, rfl, e, _, rfl, SqL.of he25, for_it walk_enum (fun j σ' G' => ∃ o9 o10, σ' = [some (.ref a), some (.ref p), some (.int (0 + (i : Int))), some v1, some v2, some v3, some (.ref b3), some (.ref c12), some (.ref e), o9, o10, none] ∧ Same G25 G')
          ⟨_, _, rfl, Same.refl _⟩ (fun j σ' G' _ ⟨_, _, _, sm⟩ => SqL.of (sm _ _ he25)) ?_ ?_⟩
        · rintro m y σ2 G26 G27 hm ⟨o9, o10, rfl, sm2⟩ ⟨Tp, ya, yb, rfl, hT, rfl, ea, eb⟩
          obtain rfl : ya = V.int (m : Int) := (Option.some.inj ea).symm
          obtain ⟨am, ham, rfl⟩ := map_at eb
          have hm13 : m < 13 := by
            have := (List.getElem?_eq_some_iff.mp ham).1
            omega
          have sT : Same G25 (upd G26 Tp (.tup [V.int (m : Int), V.ref am])) := Same.fresh sm2 (sm2.free hT)
          obtain ⟨fs, EA⟩ := Er25.at ham
          refine ⟨Tp, _, rfl, SqT.of upd_same, rfl, _, _, rfl, _, _, rfl, rfl, ?_⟩
          refine ⟨_, rfl, am, _, fs, m, rfl, EA.same sT, hm13, rfl, EC m hm13, fun q1 G28 s28 l28 => ?_⟩
          refine ⟨13, rfl, by decide, by decide, fun DD hDD => ?_⟩
          refine lc_range (fun u G' => Same G28 G' ∧ G' DD = some (.lst ((List.range u).map fun z => V.bl (z == m)))) ⟨Same.new hDD, upd_same⟩ ?_ ?_
          · rintro u G29 hu ⟨sm3, l29⟩
            refine ⟨rfl, ?_⟩
            refine ⟨_, rfl, _, rfl, rfl, ?_⟩
            have eq1 : decide (V.int (0 + (u : Int)) = V.int (m : Int)) = (u == m) := by
              rw [Bool.eq_iff_iff]
              simp
              omega
            have hu : u < 13 := hu
            refine ⟨_, l29, by rw [List.length_map, List.length_range]; exact big_line' (by omega), Same.fresh sm3 hDD, ?_⟩
            rw [upd_same, List.range_succ, List.map_append, eq1]
            rfl
          · rintro G29 ⟨sm3, l29⟩
            have l29 : G29 DD = some (.lst ((List.range 13).map fun z => V.bl (z == m))) := l29
            have hb : (List.range 13).map (fun z => V.bl (z == m)) = ((List.range 13).map fun z => z == m).map V.bl := by
              rw [List.map_map]
              rfl
            rw [hb] at l28 l29
            refine ⟨.list (((List.range 13).map fun z => z == m).map PyData.bool), .list (((List.range 13).map fun z => z == m).map PyData.bool), .lst (SqL.of (sm3 _ _ l28)) (dp_bools _), .lst (SqL.of l29) (dp_bools _), shaped_bools _, shaped_bools _, _, rfl, ?_⟩
            refine iteE (eqv_same (shaped_bools _)) ?_
            have s29 := (sT.trans s28).trans sm3
            refine ⟨_, rfl, am, _, fs, m, rfl, EA.same s29, hm13, rfl, EC m hm13, fun q2 G30 s30 l30 => ?_⟩
            refine ⟨_, rfl, m, rfl, fun q3 G31 s31 l31 => ?_⟩
            refine ⟨.list ((dueL m).map PyData.bool), .list ((dueL m).map PyData.bool), .lst (SqL.of (s31 _ _ l30)) (dp_bools _), .lst (SqL.of l31) (dp_bools _), shaped_bools _, shaped_bools _, _, rfl, ?_⟩
            refine iteE (eqv_same (shaped_bools _)) ?_
            exact ⟨_, _, rfl, (s29.trans s30).trans s31⟩
        · rintro σ2 G26 ⟨o9, o10, rfl, sm2⟩
          exact ⟨_, _, _, rfl, (sm.trans s25).trans sm2⟩
      · rintro σ1 G24 ⟨o8, o9, o10, rfl, sm⟩
        exact ⟨_, _, _, _, _, _, _, _, _, rfl, (P5.same (S23.trans sm)).mono (by omega)⟩
    · rintro σ1 G2 ⟨o2, o3, o4, o5, o6, o7, o8, o9, o10, rfl, -⟩
      refine fun x hx => ?_
      refine ⟨_, _, .ty "ValueError", .type "ValueError", true, rfl, upd_same, EQ, fun _ h => h, iQ, ?_⟩
      exact k _
end
end K01
set_option Elab.async false
set_option linter.all false
set_option maxRecDepth 100000
set_option maxHeartbeats 4000000
/-! Facts about own error classes, by one bit each. -/
namespace Qh
open PySem PySem.Spec PyProof.Rows L2
def oex2B (K : PySem.W.Frag) (C : Addr) : Bool := decide (PySem.W.findIn K (.ref C) "__setattr__" = some (some (.builtin "object.__setattr__"))) && (decide (PySem.W.typeIn K (.ref C) = some (.type "type")) && PySem.W.keepIn K (.ref C))
def ecB (K : PySem.W.Frag) (C : Addr) : Bool := decide (PySem.W.findIn K (.ref C) "__class__" = some (some (.builtin "object.__class__"))) && (decide (PySem.W.specialIn K (.builtin "object.__class__") "__get__" = some (some (.builtin "getset_descriptor.__get__"))) && (decide (PySem.W.takesIn K (.builtin "object.__class__") = some true) && decide (PySem.W.mroIn K C (.type "object") = some true)))
/-- the module's names that are not bound by it -/
def freeB (K : PySem.W.Frag) (xs : List Str) : Bool := xs.all fun x => decide (PySem.W.nsIn K mainGlobals x = some none)
theorem freeB_ok {K : PySem.W.Frag} {h : Heap} {mg : Str → Option Value} (X : K.In h) (G : h.Ns mainGlobals mg) {xs : List Str} (c : freeB K xs = true) {x : Str} (hx : x ∈ xs) : mg x = none :=
  PySem.W.mg_none_of X G (of_decide_eq_true (List.all_eq_true.mp c x hx))
abbrev bltNames : List Str := ["len", "int", "abs", "list", "tuple", "range", "repr", "all", "any", "isinstance", "str", "bool", "dict", "set", "sorted", "enumerate", "zip", "max", "sum", "min", "reversed"]
theorem blt_of {K : PySem.W.Frag} {h : Heap} {mg : Str → Option Value} (X : K.In h) (G : h.Ns mainGlobals mg) (c : freeB K bltNames = true) : Blt mg := by
  have f := fun {x : Str} (hx : x ∈ bltNames) => freeB_ok X G c hx
  exact ⟨f (by decide +kernel), f (by decide +kernel), f (by decide +kernel), f (by decide +kernel), f (by decide +kernel), f (by decide +kernel), f (by decide +kernel), f (by decide +kernel), f (by decide +kernel), f (by decide +kernel), f (by decide +kernel), f (by decide +kernel), f (by decide +kernel), f (by decide +kernel), f (by decide +kernel), f (by decide +kernel), f (by decide +kernel), f (by decide +kernel), f (by decide +kernel), f (by decide +kernel), f (by decide +kernel)⟩
end Qh
set_option Elab.async false
set_option linter.all false
set_option maxRecDepth 100000
set_option maxHeartbeats 4000000
namespace K01
open PySem PySem.Spec PyProof.Rows L2 Qh Qv
abbrev veM : List Value := [.type "ValueError", .type "Exception", .type "BaseException", .type "object"]
abbrev ieM : List Value := [.type "IndexError", .type "LookupError", .type "Exception", .type "BaseException", .type "object"]
abbrev oeM : List Value := [.type "OverflowError", .type "ArithmeticError", .type "Exception", .type "BaseException", .type "object"]
abbrev leM : List Value := [.type "LookupError", .type "Exception", .type "BaseException", .type "object"]
abbrev errNames : List Str := ["ValueError", "KeyError", "IndexError", "LookupError", "OverflowError"]
def shapeB (K : PySem.W.Frag) (C : Addr) (B newId : String) : Bool := match K.lookup C with
  | some ⟨.type "type", _, .cls cd, sl⟩ => (match cd.mro, sl.toList with
    | .ref C' :: bm, [_, _, _, _, some (.builtin n), _] => ((C' == C && n == newId) && (!cd.hasDel && cd.hasDict)) && basesOk B bm
    | _, _ => false)
  | _ => false
theorem shapeB_ok {K : PySem.W.Frag} {C : Addr} {B newId : String} (z : shapeB K C B newId = true) : ∃ nm q N bs bm sn sub ab col dd k0 k1 k2 k3 k5, K.lookup C = some (excClassObj nm q C N bs bm true sn sub ab col dd k0 k1 k2 k3 k5 newId) ∧ basesOk B bm = true := by
  unfold shapeB at z
  split at z
  · rename_i dd cd sl ho
    split at z
    · rename_i C1 bm k0 k1 k2 k3 n k5 hm hs
      simp only [Bool.and_eq_true, beq_iff_eq, Bool.not_eq_true'] at z
      obtain ⟨⟨⟨rfl, rfl⟩, z1, z2⟩, z3⟩ := z
      obtain ⟨nm, bs, mro, ns, qn, hd, sn, sub, ab, col, del⟩ := cd
      dsimp only at hm z1 z2
      subst hm z1 z2
      have hsl : sl = #[k0, k1, k2, k3, some (.builtin n), k5] := by
        obtain ⟨l⟩ := sl
        simp only at hs
        rw [hs]
      subst hsl
      exact ⟨nm, qn, ns, bs, bm, sn, sub, ab, col, dd, k0, k1, k2, k3, k5, ho, z3⟩
    · cases z
  · cases z
def clsB (K : PySem.W.Frag) (C : Addr) (B newId : String) (bmB : List Value) (fields : List Str) : Bool := (shapeB K C B newId && PySem.W.excOver K C bmB) && ((oex2B K C && (xfB K C && ecB K C)) && fields.all fun f => decide (PySem.W.findIn K (.ref C) f = some none))
theorem exc_of {K : PySem.W.Frag} {C : Addr} (h3 : xfB K C = true) (h4 : ecB K C = true) : ExcC K C := by
  obtain ⟨b1, b2⟩ := Bool.and_eq_true_iff.mp h4
  obtain ⟨b2, b3⟩ := Bool.and_eq_true_iff.mp b2
  obtain ⟨b3, b4⟩ := Bool.and_eq_true_iff.mp b3
  have X := xfB_ok h3
  exact ⟨X.ga, X.gg, X.exC, X.hdC, of_decide_eq_true b1, of_decide_eq_true b2, of_decide_eq_true b3, of_decide_eq_true b4⟩
theorem cls_of {K : PySem.W.Frag} {C : Addr} {B newId initId Bs : String} {bmN bmB : List Value} {fields : List Str} (FB : ExcBaseFacts B newId initId bmN) (SF : StoreFacts Bs bmB "object.__setattr__" "object") (h : clsB K C B newId bmB fields = true) :
    OexG K C ∧ XfC K C ∧ ExcC K C ∧ ∀ f ∈ fields, PySem.W.findIn K (.ref C) f = some none := by
  obtain ⟨h1, h2⟩ := Bool.and_eq_true_iff.mp h
  obtain ⟨h1, h3⟩ := Bool.and_eq_true_iff.mp h1
  obtain ⟨h2, h4⟩ := Bool.and_eq_true_iff.mp h2
  obtain ⟨h2, h5⟩ := Bool.and_eq_true_iff.mp h2
  obtain ⟨h5, h6⟩ := Bool.and_eq_true_iff.mp h5
  obtain ⟨h2, h7⟩ := Bool.and_eq_true_iff.mp h2
  obtain ⟨h7, h8⟩ := Bool.and_eq_true_iff.mp h7
  obtain ⟨nm, q, N, bs, bm, sn, sub, ab, col, dd, k0, k1, k2, k3, k5, z1, z2⟩ := shapeB_ok h1
  exact ⟨⟨⟨B, newId, initId, Bs, bmN, bmB, nm, q, N, bs, bm, sn, sub, ab, col, dd, k0, k1, k2, k3, k5, z1, z2, FB, SF, h3⟩, of_decide_eq_true h2, h8⟩, xfB_ok h5, exc_of h5 h6, fun f hf => of_decide_eq_true (List.all_eq_true.mp h4 f hf)⟩
end K01
namespace K01
open PySem PySem.Spec PyProof.Rows L2 Qh Qv
theorem all_mk {l : PySem.W.OpenLaw} {w : World} {K : PySem.W.Frag} {h : Heap} {mg : Str → Option Value} {fa : Addr} (X : K.In h) (G : h.Ns mainGlobals mg) (hfa : mg "law" = some (.ref fa))
    {f1 : Addr} {oc1 kV1 dc1 pm1 cd1 ct1 : Value} {od1 an1 : Option Addr} {sl1 : Array (Option Value)}
    {f2 : Addr} {oc2 kV2 dc2 pm2 cd2 ct2 : Value} {od2 an2 : Option Addr} {sl2 : Array (Option Value)}
    {f3 : Addr} {oc3 kV3 dc3 pm3 cd3 ct3 : Value} {od3 an3 : Option Addr} {sl3 : Array (Option Value)}
    {f4 : Addr} {oc4 kV4 dc4 pm4 cd4 ct4 : Value} {od4 an4 : Option Addr} {sl4 : Array (Option Value)}
    {f5 : Addr} {oc5 kV5 dc5 pm5 cd5 ct5 : Value} {od5 an5 : Option Addr} {sl5 : Array (Option Value)}
    {f6 : Addr} {oc6 kV6 dc6 pm6 cd6 ct6 : Value} {od6 an6 : Option Addr} {sl6 : Array (Option Value)}
    {f7 : Addr} {oc7 kV7 dc7 pm7 cd7 ct7 : Value} {od7 an7 : Option Addr} {sl7 : Array (Option Value)}
    {f8 : Addr} {oc8 kV8 dc8 pm8 cd8 ct8 : Value} {od8 an8 : Option Addr} {sl8 : Array (Option Value)}
    {f9 : Addr} {oc9 kV9 dc9 pm9 cd9 ct9 : Value} {od9 an9 : Option Addr} {sl9 : Array (Option Value)}
    {f10 : Addr} {oc10 kV10 dc10 pm10 cd10 ct10 : Value} {od10 an10 : Option Addr} {sl10 : Array (Option Value)}
    {f11 : Addr} {oc11 kV11 dc11 pm11 cd11 ct11 : Value} {od11 an11 : Option Addr} {sl11 : Array (Option Value)}
    {CQ : Addr}
    {C1 : Addr}
    {f12 : Addr} {oc12 kV12 dc12 pm12 cd12 ct12 : Value} {od12 an12 : Option Addr} {sl12 : Array (Option Value)}
    {C2 : Addr}
    {f13 : Addr} {oc13 kV13 dc13 pm13 cd13 ct13 : Value} {od13 an13 : Option Addr} {sl13 : Array (Option Value)}
    {C3 : Addr}
    {f14 : Addr} {oc14 kV14 dc14 pm14 cd14 ct14 : Value} {od14 an14 : Option Addr} {sl14 : Array (Option Value)}
    {C4 : Addr}
    {f15 : Addr} {oc15 kV15 dc15 pm15 cd15 ct15 : Value} {od15 an15 : Option Addr} {sl15 : Array (Option Value)}
    {C5 : Addr}
    {f16 : Addr} {oc16 kV16 dc16 pm16 cd16 ct16 : Value} {od16 an16 : Option Addr} {sl16 : Array (Option Value)}
    {C6 : Addr}
    {f17 : Addr} {oc17 kV17 dc17 pm17 cd17 ct17 : Value} {od17 an17 : Option Addr} {sl17 : Array (Option Value)}
    {C7 : Addr}
    {f18 : Addr} {oc18 kV18 dc18 pm18 cd18 ct18 : Value} {od18 an18 : Option Addr} {sl18 : Array (Option Value)}
    {C8 : Addr}
    {f19 : Addr} {oc19 kV19 dc19 pm19 cd19 ct19 : Value} {od19 an19 : Option Addr} {sl19 : Array (Option Value)}
    {C9 : Addr}
    {f20 : Addr} {oc20 kV20 dc20 pm20 cd20 ct20 : Value} {od20 an20 : Option Addr} {sl20 : Array (Option Value)}
    {C10 : Addr}
    {f21 : Addr} {oc21 kV21 dc21 pm21 cd21 ct21 : Value} {od21 an21 : Option Addr} {sl21 : Array (Option Value)}
    {C11 : Addr}
    {f22 : Addr} {oc22 kV22 dc22 pm22 cd22 ct22 : Value} {od22 an22 : Option Addr} {sl22 : Array (Option Value)}
    {C12 : Addr}
    {f23 : Addr} {oc23 kV23 dc23 pm23 cd23 ct23 : Value} {od23 an23 : Option Addr} {sl23 : Array (Option Value)}
    {C13 : Addr}
    {f24 : Addr} {oc24 kV24 dc24 pm24 cd24 ct24 : Value} {od24 an24 : Option Addr} {sl24 : Array (Option Value)}
    (a1 : PySem.W.nsIn K mainGlobals "_law_pen" = some (some (.ref f1))) (l1 : K.lookup f1 = some ⟨oc1, od1, .func (PySem.W.fnOf "_law_pen" "_law_pen" (defArgs sPen) (defBody sPen) (defScope sPen) .none kV1 dc1 pm1 an1 cd1 ct1), sl1⟩) (c1 : PySem.W.codeIn K cd1 "_law_pen" = true) (k1 : PySem.W.keepIn K (.ref f1) = true)
    (a2 : PySem.W.nsIn K mainGlobals "_law_draw" = some (some (.ref f2))) (l2 : K.lookup f2 = some ⟨oc2, od2, .func (PySem.W.fnOf "_law_draw" "_law_draw" (defArgs sDraw) (defBody sDraw) (defScope sDraw) .none kV2 dc2 pm2 an2 cd2 ct2), sl2⟩) (c2 : PySem.W.codeIn K cd2 "_law_draw" = true) (k2 : PySem.W.keepIn K (.ref f2) = true)
    (a3 : PySem.W.nsIn K mainGlobals "_law_pick" = some (some (.ref f3))) (l3 : K.lookup f3 = some ⟨oc3, od3, .func (PySem.W.fnOf "_law_pick" "_law_pick" (defArgs sPick) (defBody sPick) (defScope sPick) .none kV3 dc3 pm3 an3 cd3 ct3), sl3⟩) (c3 : PySem.W.codeIn K cd3 "_law_pick" = true) (k3 : PySem.W.keepIn K (.ref f3) = true)
    (a4 : PySem.W.nsIn K mainGlobals "_law_value" = some (some (.ref f4))) (l4 : K.lookup f4 = some ⟨oc4, od4, .func (PySem.W.fnOf "_law_value" "_law_value" (defArgs sValue) (defBody sValue) (defScope sValue) .none kV4 dc4 pm4 an4 cd4 ct4), sl4⟩) (c4 : PySem.W.codeIn K cd4 "_law_value" = true) (k4 : PySem.W.keepIn K (.ref f4) = true)
    (a5 : PySem.W.nsIn K mainGlobals "_law_errors" = some (some (.ref f5))) (l5 : K.lookup f5 = some ⟨oc5, od5, .func (PySem.W.fnOf "_law_errors" "_law_errors" (defArgs sErrors) (defBody sErrors) (defScope sErrors) .none kV5 dc5 pm5 an5 cd5 ct5), sl5⟩) (c5 : PySem.W.codeIn K cd5 "_law_errors" = true) (k5 : PySem.W.keepIn K (.ref f5) = true)
    (a6 : PySem.W.nsIn K mainGlobals "_law_named_errors" = some (some (.ref f6))) (l6 : K.lookup f6 = some ⟨oc6, od6, .func (PySem.W.fnOf "_law_named_errors" "_law_named_errors" (defArgs sNamed) (defBody sNamed) (defScope sNamed) .none kV6 dc6 pm6 an6 cd6 ct6), sl6⟩) (c6 : PySem.W.codeIn K cd6 "_law_named_errors" = true) (k6 : PySem.W.keepIn K (.ref f6) = true)
    (a7 : PySem.W.nsIn K mainGlobals "_law_fields" = some (some (.ref f7))) (l7 : K.lookup f7 = some ⟨oc7, od7, .func (PySem.W.fnOf "_law_fields" "_law_fields" (defArgs sFields) (defBody sFields) (defScope sFields) .none kV7 dc7 pm7 an7 cd7 ct7), sl7⟩) (c7 : PySem.W.codeIn K cd7 "_law_fields" = true) (k7 : PySem.W.keepIn K (.ref f7) = true)
    (a8 : PySem.W.nsIn K mainGlobals "_law_own" = some (some (.ref f8))) (l8 : K.lookup f8 = some ⟨oc8, od8, .func (PySem.W.fnOf "_law_own" "_law_own" (defArgs sOwn) (defBody sOwn) (defScope sOwn) .none kV8 dc8 pm8 an8 cd8 ct8), sl8⟩) (c8 : PySem.W.codeIn K cd8 "_law_own" = true) (k8 : PySem.W.keepIn K (.ref f8) = true)
    (a9 : PySem.W.nsIn K mainGlobals "_law_bases" = some (some (.ref f9))) (l9 : K.lookup f9 = some ⟨oc9, od9, .func (PySem.W.fnOf "_law_bases" "_law_bases" (defArgs sBases) (defBody sBases) (defScope sBases) .none kV9 dc9 pm9 an9 cd9 ct9), sl9⟩) (c9 : PySem.W.codeIn K cd9 "_law_bases" = true) (k9 : PySem.W.keepIn K (.ref f9) = true)
    (a10 : PySem.W.nsIn K mainGlobals "_law_due_bases" = some (some (.ref f10))) (l10 : K.lookup f10 = some ⟨oc10, od10, .func (PySem.W.fnOf "_law_due_bases" "_law_due_bases" (defArgs sDueB) (defBody sDueB) (defScope sDueB) .none kV10 dc10 pm10 an10 cd10 ct10), sl10⟩) (c10 : PySem.W.codeIn K cd10 "_law_due_bases" = true) (k10 : PySem.W.keepIn K (.ref f10) = true)
    (a11 : PySem.W.nsIn K mainGlobals "law" = some (some (.ref f11))) (l11 : K.lookup f11 = some ⟨oc11, od11, .func (PySem.W.fnOf "law" "law" (defArgs sLaw) (defBody sLaw) (defScope sLaw) .none kV11 dc11 pm11 an11 cd11 ct11), sl11⟩) (c11 : PySem.W.codeIn K cd11 "law" = true) (k11 : PySem.W.keepIn K (.ref f11) = true)
    (gCQ : PySem.W.nsIn K mainGlobals "QuoteError" = some (some (.ref CQ)))
    (gC1 : PySem.W.nsIn K mainGlobals "InvalidWord" = some (some (.ref C1)))
    (a12 : PySem.W.findIn K (.ref C1) "__init__" = some (some (.ref f12))) (t12 : PySem.W.typeIn K (.ref f12) = some (.type "function")) (l12 : K.lookup f12 = some ⟨oc12, od12, .func (PySem.W.fnOf "__init__" "InvalidWord.__init__" (defArgs i1) (defBody i1) (defScope i1) .none kV12 dc12 pm12 an12 cd12 ct12), sl12⟩) (c12 : PySem.W.codeIn K cd12 "InvalidWord.__init__" = true) (k12 : PySem.W.keepIn K (.ref f12) = true)
    (wC1 : clsB K C1 "ValueError" "ValueError.__new__" veM ["value"] = true)
    (gC2 : PySem.W.nsIn K mainGlobals "InvalidText" = some (some (.ref C2)))
    (a13 : PySem.W.findIn K (.ref C2) "__init__" = some (some (.ref f13))) (t13 : PySem.W.typeIn K (.ref f13) = some (.type "function")) (l13 : K.lookup f13 = some ⟨oc13, od13, .func (PySem.W.fnOf "__init__" "InvalidText.__init__" (defArgs i2) (defBody i2) (defScope i2) .none kV13 dc13 pm13 an13 cd13 ct13), sl13⟩) (c13 : PySem.W.codeIn K cd13 "InvalidText.__init__" = true) (k13 : PySem.W.keepIn K (.ref f13) = true)
    (wC2 : clsB K C2 "ValueError" "ValueError.__new__" veM ["index"] = true)
    (gC3 : PySem.W.nsIn K mainGlobals "InvalidStep" = some (some (.ref C3)))
    (a14 : PySem.W.findIn K (.ref C3) "__init__" = some (some (.ref f14))) (t14 : PySem.W.typeIn K (.ref f14) = some (.type "function")) (l14 : K.lookup f14 = some ⟨oc14, od14, .func (PySem.W.fnOf "__init__" "InvalidStep.__init__" (defArgs i3) (defBody i3) (defScope i3) .none kV14 dc14 pm14 an14 cd14 ct14), sl14⟩) (c14 : PySem.W.codeIn K cd14 "InvalidStep.__init__" = true) (k14 : PySem.W.keepIn K (.ref f14) = true)
    (wC3 : clsB K C3 "ValueError" "ValueError.__new__" veM ["reason", "index"] = true)
    (gC4 : PySem.W.nsIn K mainGlobals "InvalidChain" = some (some (.ref C4)))
    (a15 : PySem.W.findIn K (.ref C4) "__init__" = some (some (.ref f15))) (t15 : PySem.W.typeIn K (.ref f15) = some (.type "function")) (l15 : K.lookup f15 = some ⟨oc15, od15, .func (PySem.W.fnOf "__init__" "InvalidChain.__init__" (defArgs i4) (defBody i4) (defScope i4) .none kV15 dc15 pm15 an15 cd15 ct15), sl15⟩) (c15 : PySem.W.codeIn K cd15 "InvalidChain.__init__" = true) (k15 : PySem.W.keepIn K (.ref f15) = true)
    (wC4 : clsB K C4 "ValueError" "ValueError.__new__" veM ["reason", "index"] = true)
    (gC5 : PySem.W.nsIn K mainGlobals "InvalidLine" = some (some (.ref C5)))
    (a16 : PySem.W.findIn K (.ref C5) "__init__" = some (some (.ref f16))) (t16 : PySem.W.typeIn K (.ref f16) = some (.type "function")) (l16 : K.lookup f16 = some ⟨oc16, od16, .func (PySem.W.fnOf "__init__" "InvalidLine.__init__" (defArgs i5) (defBody i5) (defScope i5) .none kV16 dc16 pm16 an16 cd16 ct16), sl16⟩) (c16 : PySem.W.codeIn K cd16 "InvalidLine.__init__" = true) (k16 : PySem.W.keepIn K (.ref f16) = true)
    (wC5 : clsB K C5 "ValueError" "ValueError.__new__" veM ["line", "word"] = true)
    (gC6 : PySem.W.nsIn K mainGlobals "UnknownCommand" = some (some (.ref C6)))
    (a17 : PySem.W.findIn K (.ref C6) "__init__" = some (some (.ref f17))) (t17 : PySem.W.typeIn K (.ref f17) = some (.type "function")) (l17 : K.lookup f17 = some ⟨oc17, od17, .func (PySem.W.fnOf "__init__" "UnknownCommand.__init__" (defArgs i6) (defBody i6) (defScope i6) .none kV17 dc17 pm17 an17 cd17 ct17), sl17⟩) (c17 : PySem.W.codeIn K cd17 "UnknownCommand.__init__" = true) (k17 : PySem.W.keepIn K (.ref f17) = true)
    (wC6 : clsB K C6 "ValueError" "ValueError.__new__" veM ["line"] = true)
    (gC7 : PySem.W.nsIn K mainGlobals "Missed" = some (some (.ref C7)))
    (a18 : PySem.W.findIn K (.ref C7) "__init__" = some (some (.ref f18))) (t18 : PySem.W.typeIn K (.ref f18) = some (.type "function")) (l18 : K.lookup f18 = some ⟨oc18, od18, .func (PySem.W.fnOf "__init__" "Missed.__init__" (defArgs i7) (defBody i7) (defScope i7) .none kV18 dc18 pm18 an18 cd18 ct18), sl18⟩) (c18 : PySem.W.codeIn K cd18 "Missed.__init__" = true) (k18 : PySem.W.keepIn K (.ref f18) = true)
    (wC7 : clsB K C7 "ValueError" "ValueError.__new__" veM ["text", "first", "last"] = true)
    (gC8 : PySem.W.nsIn K mainGlobals "NoText" = some (some (.ref C8)))
    (a19 : PySem.W.findIn K (.ref C8) "__init__" = some (some (.ref f19))) (t19 : PySem.W.typeIn K (.ref f19) = some (.type "function")) (l19 : K.lookup f19 = some ⟨oc19, od19, .func (PySem.W.fnOf "__init__" "NoText.__init__" (defArgs i8) (defBody i8) (defScope i8) .none kV19 dc19 pm19 an19 cd19 ct19), sl19⟩) (c19 : PySem.W.codeIn K cd19 "NoText.__init__" = true) (k19 : PySem.W.keepIn K (.ref f19) = true)
    (wC8 : clsB K C8 "LookupError" "LookupError.__new__" keyMro ["name"] = true)
    (gC9 : PySem.W.nsIn K mainGlobals "NoBeginning" = some (some (.ref C9)))
    (a20 : PySem.W.findIn K (.ref C9) "__init__" = some (some (.ref f20))) (t20 : PySem.W.typeIn K (.ref f20) = some (.type "function")) (l20 : K.lookup f20 = some ⟨oc20, od20, .func (PySem.W.fnOf "__init__" "NoBeginning.__init__" (defArgs i9) (defBody i9) (defScope i9) .none kV20 dc20 pm20 an20 cd20 ct20), sl20⟩) (c20 : PySem.W.codeIn K cd20 "NoBeginning.__init__" = true) (k20 : PySem.W.keepIn K (.ref f20) = true)
    (wC9 : clsB K C9 "LookupError" "LookupError.__new__" keyMro ["begun"] = true)
    (gC10 : PySem.W.nsIn K mainGlobals "NoWord" = some (some (.ref C10)))
    (a21 : PySem.W.findIn K (.ref C10) "__init__" = some (some (.ref f21))) (t21 : PySem.W.typeIn K (.ref f21) = some (.type "function")) (l21 : K.lookup f21 = some ⟨oc21, od21, .func (PySem.W.fnOf "__init__" "NoWord.__init__" (defArgs i10) (defBody i10) (defScope i10) .none kV21 dc21 pm21 an21 cd21 ct21), sl21⟩) (c21 : PySem.W.codeIn K cd21 "NoWord.__init__" = true) (k21 : PySem.W.keepIn K (.ref f21) = true)
    (wC10 : clsB K C10 "IndexError" "IndexError.__new__" ieM ["index"] = true)
    (gC11 : PySem.W.nsIn K mainGlobals "NoBlock" = some (some (.ref C11)))
    (a22 : PySem.W.findIn K (.ref C11) "__init__" = some (some (.ref f22))) (t22 : PySem.W.typeIn K (.ref f22) = some (.type "function")) (l22 : K.lookup f22 = some ⟨oc22, od22, .func (PySem.W.fnOf "__init__" "NoBlock.__init__" (defArgs i11) (defBody i11) (defScope i11) .none kV22 dc22 pm22 an22 cd22 ct22), sl22⟩) (c22 : PySem.W.codeIn K cd22 "NoBlock.__init__" = true) (k22 : PySem.W.keepIn K (.ref f22) = true)
    (wC11 : clsB K C11 "IndexError" "IndexError.__new__" ieM ["index"] = true)
    (gC12 : PySem.W.nsIn K mainGlobals "TooMany" = some (some (.ref C12)))
    (a23 : PySem.W.findIn K (.ref C12) "__init__" = some (some (.ref f23))) (t23 : PySem.W.typeIn K (.ref f23) = some (.type "function")) (l23 : K.lookup f23 = some ⟨oc23, od23, .func (PySem.W.fnOf "__init__" "TooMany.__init__" (defArgs i12) (defBody i12) (defScope i12) .none kV23 dc23 pm23 an23 cd23 ct23), sl23⟩) (c23 : PySem.W.codeIn K cd23 "TooMany.__init__" = true) (k23 : PySem.W.keepIn K (.ref f23) = true)
    (wC12 : clsB K C12 "OverflowError" "OverflowError.__new__" oeM ["limit"] = true)
    (gC13 : PySem.W.nsIn K mainGlobals "NothingToUndo" = some (some (.ref C13)))
    (a24 : PySem.W.findIn K (.ref C13) "__init__" = some (some (.ref f24))) (t24 : PySem.W.typeIn K (.ref f24) = some (.type "function")) (l24 : K.lookup f24 = some ⟨oc24, od24, .func (PySem.W.fnOf "__init__" "NothingToUndo.__init__" (defArgs i13) (defBody i13) (defScope i13) .none kV24 dc24 pm24 an24 cd24 ct24), sl24⟩) (c24 : PySem.W.codeIn K cd24 "NothingToUndo.__init__" = true) (k24 : PySem.W.keepIn K (.ref f24) = true)
    (wC13 : clsB K C13 "LookupError" "LookupError.__new__" leM ["count"] = true)
    (fr : freeB K bltNames = true)
    (fe : freeB K errNames = true)
    (wo : ownB K [C1, C2, C3, C4, C5, C6, C7, C8, C9, C10, C11, C12, C13] = true)
    (wb : basB K CQ [C1, C2, C3, C4, C5, C6, C7, C8, C9, C10, C11, C12, C13] = true)
    (qx : PySem.W.excIn K CQ [.type "ValueError", .type "Exception", .type "BaseException", .type "object"] "ValueError.__new__" = true)
    (qf : xfB K CQ = true)
    (qe : ecB K CQ = true)
    (iq : PySem.W.kitOne K (.ref CQ) (.type "ValueError") = some true)
    (kQ : PySem.W.keepIn K (.ref CQ) = true) :
    ∃ fd : FuncData, (∀ (s : Shared) (v : Value), BindsTo s fd ⟨[v], []⟩ [("_law_script", v)]) ∧ ∀ base : Heap, K.In base → base.Ns mainGlobals mg → FnG l.prog w K mg base (L2.CX l.prog w) 4 fa fd ["_law_script"] (spLaw K) := by
  have e := hfa.symm.trans (PySem.W.mg_of X G a11)
  cases e
  have Fn1 : Fun K "_law_pen" "_law_pen" sPen f1 _ := fun_mk (st := sPen) l1 c1 k1
  have D__law_pen : DefIn K mg "_law_pen" sPen := ⟨⟨f1, _, Fn1, PySem.W.mg_of X G a1⟩⟩
  have Fn2 : Fun K "_law_draw" "_law_draw" sDraw f2 _ := fun_mk (st := sDraw) l2 c2 k2
  have D__law_draw : DefIn K mg "_law_draw" sDraw := ⟨⟨f2, _, Fn2, PySem.W.mg_of X G a2⟩⟩
  have Fn3 : Fun K "_law_pick" "_law_pick" sPick f3 _ := fun_mk (st := sPick) l3 c3 k3
  have D__law_pick : DefIn K mg "_law_pick" sPick := ⟨⟨f3, _, Fn3, PySem.W.mg_of X G a3⟩⟩
  have Fn4 : Fun K "_law_value" "_law_value" sValue f4 _ := fun_mk (st := sValue) l4 c4 k4
  have D__law_value : DefIn K mg "_law_value" sValue := ⟨⟨f4, _, Fn4, PySem.W.mg_of X G a4⟩⟩
  have Fn5 : Fun K "_law_errors" "_law_errors" sErrors f5 _ := fun_mk (st := sErrors) l5 c5 k5
  have D__law_errors : DefIn K mg "_law_errors" sErrors := ⟨⟨f5, _, Fn5, PySem.W.mg_of X G a5⟩⟩
  have Fn6 : Fun K "_law_named_errors" "_law_named_errors" sNamed f6 _ := fun_mk (st := sNamed) l6 c6 k6
  have D__law_named_errors : DefIn K mg "_law_named_errors" sNamed := ⟨⟨f6, _, Fn6, PySem.W.mg_of X G a6⟩⟩
  have Fn7 : Fun K "_law_fields" "_law_fields" sFields f7 _ := fun_mk (st := sFields) l7 c7 k7
  have D__law_fields : DefIn K mg "_law_fields" sFields := ⟨⟨f7, _, Fn7, PySem.W.mg_of X G a7⟩⟩
  have Fn8 : Fun K "_law_own" "_law_own" sOwn f8 _ := fun_mk (st := sOwn) l8 c8 k8
  have D__law_own : DefIn K mg "_law_own" sOwn := ⟨⟨f8, _, Fn8, PySem.W.mg_of X G a8⟩⟩
  have Fn9 : Fun K "_law_bases" "_law_bases" sBases f9 _ := fun_mk (st := sBases) l9 c9 k9
  have D__law_bases : DefIn K mg "_law_bases" sBases := ⟨⟨f9, _, Fn9, PySem.W.mg_of X G a9⟩⟩
  have Fn10 : Fun K "_law_due_bases" "_law_due_bases" sDueB f10 _ := fun_mk (st := sDueB) l10 c10 k10
  have D__law_due_bases : DefIn K mg "_law_due_bases" sDueB := ⟨⟨f10, _, Fn10, PySem.W.mg_of X G a10⟩⟩
  have Fn11 : Fun K "law" "law" sLaw fa _ := fun_mk (st := sLaw) l11 c11 k11
  have mCQ : mg "QuoteError" = some (.ref CQ) := PySem.W.mg_of X G gCQ
  have mC1 : mg "InvalidWord" = some (.ref C1) := PySem.W.mg_of X G gC1
  have Fn12 : Fun K "__init__" "InvalidWord.__init__" i1 f12 _ := fun_mk (st := i1) l12 c12 k12
  have biC1 : Binds K _ ["self", "value"] [] := Fn12.binds (ps := ["self", "value"]) fun _ _ _ _ _ _ us hl => match us, hl with | [_, _], _ => rfl
  have mC2 : mg "InvalidText" = some (.ref C2) := PySem.W.mg_of X G gC2
  have Fn13 : Fun K "__init__" "InvalidText.__init__" i2 f13 _ := fun_mk (st := i2) l13 c13 k13
  have biC2 : Binds K _ ["self", "index"] [] := Fn13.binds (ps := ["self", "index"]) fun _ _ _ _ _ _ us hl => match us, hl with | [_, _], _ => rfl
  have mC3 : mg "InvalidStep" = some (.ref C3) := PySem.W.mg_of X G gC3
  have Fn14 : Fun K "__init__" "InvalidStep.__init__" i3 f14 _ := fun_mk (st := i3) l14 c14 k14
  have biC3 : Binds K _ ["self", "reason", "index"] [] := Fn14.binds (ps := ["self", "reason", "index"]) fun _ _ _ _ _ _ us hl => match us, hl with | [_, _, _], _ => rfl
  have mC4 : mg "InvalidChain" = some (.ref C4) := PySem.W.mg_of X G gC4
  have Fn15 : Fun K "__init__" "InvalidChain.__init__" i4 f15 _ := fun_mk (st := i4) l15 c15 k15
  have biC4 : Binds K _ ["self", "reason", "index"] [] := Fn15.binds (ps := ["self", "reason", "index"]) fun _ _ _ _ _ _ us hl => match us, hl with | [_, _, _], _ => rfl
  have mC5 : mg "InvalidLine" = some (.ref C5) := PySem.W.mg_of X G gC5
  have Fn16 : Fun K "__init__" "InvalidLine.__init__" i5 f16 _ := fun_mk (st := i5) l16 c16 k16
  have biC5 : Binds K _ ["self", "line", "word"] [] := Fn16.binds (ps := ["self", "line", "word"]) fun _ _ _ _ _ _ us hl => match us, hl with | [_, _, _], _ => rfl
  have mC6 : mg "UnknownCommand" = some (.ref C6) := PySem.W.mg_of X G gC6
  have Fn17 : Fun K "__init__" "UnknownCommand.__init__" i6 f17 _ := fun_mk (st := i6) l17 c17 k17
  have biC6 : Binds K _ ["self", "line"] [] := Fn17.binds (ps := ["self", "line"]) fun _ _ _ _ _ _ us hl => match us, hl with | [_, _], _ => rfl
  have mC7 : mg "Missed" = some (.ref C7) := PySem.W.mg_of X G gC7
  have Fn18 : Fun K "__init__" "Missed.__init__" i7 f18 _ := fun_mk (st := i7) l18 c18 k18
  have biC7 : Binds K _ ["self", "text", "first", "last"] [] := Fn18.binds (ps := ["self", "text", "first", "last"]) fun _ _ _ _ _ _ us hl => match us, hl with | [_, _, _, _], _ => rfl
  have mC8 : mg "NoText" = some (.ref C8) := PySem.W.mg_of X G gC8
  have Fn19 : Fun K "__init__" "NoText.__init__" i8 f19 _ := fun_mk (st := i8) l19 c19 k19
  have biC8 : Binds K _ ["self", "name"] [] := Fn19.binds (ps := ["self", "name"]) fun _ _ _ _ _ _ us hl => match us, hl with | [_, _], _ => rfl
  have mC9 : mg "NoBeginning" = some (.ref C9) := PySem.W.mg_of X G gC9
  have Fn20 : Fun K "__init__" "NoBeginning.__init__" i9 f20 _ := fun_mk (st := i9) l20 c20 k20
  have biC9 : Binds K _ ["self", "begun"] [] := Fn20.binds (ps := ["self", "begun"]) fun _ _ _ _ _ _ us hl => match us, hl with | [_, _], _ => rfl
  have mC10 : mg "NoWord" = some (.ref C10) := PySem.W.mg_of X G gC10
  have Fn21 : Fun K "__init__" "NoWord.__init__" i10 f21 _ := fun_mk (st := i10) l21 c21 k21
  have biC10 : Binds K _ ["self", "index"] [] := Fn21.binds (ps := ["self", "index"]) fun _ _ _ _ _ _ us hl => match us, hl with | [_, _], _ => rfl
  have mC11 : mg "NoBlock" = some (.ref C11) := PySem.W.mg_of X G gC11
  have Fn22 : Fun K "__init__" "NoBlock.__init__" i11 f22 _ := fun_mk (st := i11) l22 c22 k22
  have biC11 : Binds K _ ["self", "index"] [] := Fn22.binds (ps := ["self", "index"]) fun _ _ _ _ _ _ us hl => match us, hl with | [_, _], _ => rfl
  have mC12 : mg "TooMany" = some (.ref C12) := PySem.W.mg_of X G gC12
  have Fn23 : Fun K "__init__" "TooMany.__init__" i12 f23 _ := fun_mk (st := i12) l23 c23 k23
  have biC12 : Binds K _ ["self", "limit"] [] := Fn23.binds (ps := ["self", "limit"]) fun _ _ _ _ _ _ us hl => match us, hl with | [_, _], _ => rfl
  have mC13 : mg "NothingToUndo" = some (.ref C13) := PySem.W.mg_of X G gC13
  have Fn24 : Fun K "__init__" "NothingToUndo.__init__" i13 f24 _ := fun_mk (st := i13) l24 c24 k24
  have biC13 : Binds K _ ["self", "count"] [] := Fn24.binds (ps := ["self", "count"]) fun _ _ _ _ _ _ us hl => match us, hl with | [_, _], _ => rfl
  have B : Blt mg := blt_of X G fr
  refine ⟨PySem.W.fnOf "law" "law" (defArgs sLaw) (defBody sLaw) (defScope sLaw) .none kV11 dc11 pm11 an11 cd11 ct11, fun s v => .of_eq rfl, fun base _ _ => ?_⟩
  obtain ⟨o1, xf1, ec1, no1⟩ := cls_of PySem.F.excBase_ValueError PySem.F.store_ValueError wC1
  have e1 : ErrK l.prog w K mg base "InvalidWord" "InvalidWord.__init__" (defArgs i1) ["value"] C1 := ⟨mC1, o1, xf1, ec1, no1, ⟨f12, _, _, _, _, _, _, _, _, a12, t12, fun us hl => match us, hl with | [_, _], _ => rfl, in1 Fn12 o1 no1⟩⟩
  obtain ⟨o2, xf2, ec2, no2⟩ := cls_of PySem.F.excBase_ValueError PySem.F.store_ValueError wC2
  have e2 : ErrK l.prog w K mg base "InvalidText" "InvalidText.__init__" (defArgs i2) ["index"] C2 := ⟨mC2, o2, xf2, ec2, no2, ⟨f13, _, _, _, _, _, _, _, _, a13, t13, fun us hl => match us, hl with | [_, _], _ => rfl, in2 Fn13 o2 no2⟩⟩
  obtain ⟨o3, xf3, ec3, no3⟩ := cls_of PySem.F.excBase_ValueError PySem.F.store_ValueError wC3
  have e3 : ErrK l.prog w K mg base "InvalidStep" "InvalidStep.__init__" (defArgs i3) ["reason", "index"] C3 := ⟨mC3, o3, xf3, ec3, no3, ⟨f14, _, _, _, _, _, _, _, _, a14, t14, fun us hl => match us, hl with | [_, _, _], _ => rfl, in3 Fn14 o3 no3⟩⟩
  obtain ⟨o4, xf4, ec4, no4⟩ := cls_of PySem.F.excBase_ValueError PySem.F.store_ValueError wC4
  have e4 : ErrK l.prog w K mg base "InvalidChain" "InvalidChain.__init__" (defArgs i4) ["reason", "index"] C4 := ⟨mC4, o4, xf4, ec4, no4, ⟨f15, _, _, _, _, _, _, _, _, a15, t15, fun us hl => match us, hl with | [_, _, _], _ => rfl, in4 Fn15 o4 no4⟩⟩
  obtain ⟨o5, xf5, ec5, no5⟩ := cls_of PySem.F.excBase_ValueError PySem.F.store_ValueError wC5
  have e5 : ErrK l.prog w K mg base "InvalidLine" "InvalidLine.__init__" (defArgs i5) ["line", "word"] C5 := ⟨mC5, o5, xf5, ec5, no5, ⟨f16, _, _, _, _, _, _, _, _, a16, t16, fun us hl => match us, hl with | [_, _, _], _ => rfl, in5 Fn16 o5 no5⟩⟩
  obtain ⟨o6, xf6, ec6, no6⟩ := cls_of PySem.F.excBase_ValueError PySem.F.store_ValueError wC6
  have e6 : ErrK l.prog w K mg base "UnknownCommand" "UnknownCommand.__init__" (defArgs i6) ["line"] C6 := ⟨mC6, o6, xf6, ec6, no6, ⟨f17, _, _, _, _, _, _, _, _, a17, t17, fun us hl => match us, hl with | [_, _], _ => rfl, in6 Fn17 o6 no6⟩⟩
  obtain ⟨o7, xf7, ec7, no7⟩ := cls_of PySem.F.excBase_ValueError PySem.F.store_ValueError wC7
  have e7 : ErrK l.prog w K mg base "Missed" "Missed.__init__" (defArgs i7) ["text", "first", "last"] C7 := ⟨mC7, o7, xf7, ec7, no7, ⟨f18, _, _, _, _, _, _, _, _, a18, t18, fun us hl => match us, hl with | [_, _, _, _], _ => rfl, in7 Fn18 o7 no7⟩⟩
  obtain ⟨o8, xf8, ec8, no8⟩ := cls_of PySem.F.excBase_LookupError key_store wC8
  have e8 : ErrK l.prog w K mg base "NoText" "NoText.__init__" (defArgs i8) ["name"] C8 := ⟨mC8, o8, xf8, ec8, no8, ⟨f19, _, _, _, _, _, _, _, _, a19, t19, fun us hl => match us, hl with | [_, _], _ => rfl, in8 Fn19 o8 no8⟩⟩
  obtain ⟨o9, xf9, ec9, no9⟩ := cls_of PySem.F.excBase_LookupError key_store wC9
  have e9 : ErrK l.prog w K mg base "NoBeginning" "NoBeginning.__init__" (defArgs i9) ["begun"] C9 := ⟨mC9, o9, xf9, ec9, no9, ⟨f20, _, _, _, _, _, _, _, _, a20, t20, fun us hl => match us, hl with | [_, _], _ => rfl, in9 Fn20 o9 no9⟩⟩
  obtain ⟨o10, xf10, ec10, no10⟩ := cls_of PySem.F.excBase_IndexError PySem.F.store_IndexError wC10
  have e10 : ErrK l.prog w K mg base "NoWord" "NoWord.__init__" (defArgs i10) ["index"] C10 := ⟨mC10, o10, xf10, ec10, no10, ⟨f21, _, _, _, _, _, _, _, _, a21, t21, fun us hl => match us, hl with | [_, _], _ => rfl, in10 Fn21 o10 no10⟩⟩
  obtain ⟨o11, xf11, ec11, no11⟩ := cls_of PySem.F.excBase_IndexError PySem.F.store_IndexError wC11
  have e11 : ErrK l.prog w K mg base "NoBlock" "NoBlock.__init__" (defArgs i11) ["index"] C11 := ⟨mC11, o11, xf11, ec11, no11, ⟨f22, _, _, _, _, _, _, _, _, a22, t22, fun us hl => match us, hl with | [_, _], _ => rfl, in11 Fn22 o11 no11⟩⟩
  obtain ⟨o12, xf12, ec12, no12⟩ := cls_of PySem.F.excBase_OverflowError PySem.F.store_OverflowError wC12
  have e12 : ErrK l.prog w K mg base "TooMany" "TooMany.__init__" (defArgs i12) ["limit"] C12 := ⟨mC12, o12, xf12, ec12, no12, ⟨f23, _, _, _, _, _, _, _, _, a23, t23, fun us hl => match us, hl with | [_, _], _ => rfl, in12 Fn23 o12 no12⟩⟩
  obtain ⟨o13, xf13, ec13, no13⟩ := cls_of PySem.F.excBase_LookupError PySem.F.store_LookupError wC13
  have e13 : ErrK l.prog w K mg base "NothingToUndo" "NothingToUndo.__init__" (defArgs i13) ["count"] C13 := ⟨mC13, o13, xf13, ec13, no13, ⟨f24, _, _, _, _, _, _, _, _, a24, t24, fun us hl => match us, hl with | [_, _], _ => rfl, in13 Fn24 o13 no13⟩⟩
  have T : Tops l.prog w K mg base CQ C1 C2 C3 C4 C5 C6 C7 C8 C9 C10 C11 C12 C13 := ⟨e1, e2, e3, e4, e5, e6, e7, e8, e9, e10, e11, e12, e13, mCQ⟩
  have EC : ∀ i, i < 13 → ExcC K (([C1, C2, C3, C4, C5, C6, C7, C8, C9, C10, C11, C12, C13] : List Addr).getD i 0) := fun i hi => match i, hi with
    | 0, _ => ec1
    | 1, _ => ec2
    | 2, _ => ec3
    | 3, _ => ec4
    | 4, _ => ec5
    | 5, _ => ec6
    | 6, _ => ec7
    | 7, _ => ec8
    | 8, _ => ec9
    | 9, _ => ec10
    | 10, _ => ec11
    | 11, _ => ec12
    | 12, _ => ec13
    | n + 13, h => absurd h (by omega)
  have BE : BltE mg := ⟨freeB_ok X G fe (by decide +kernel), freeB_ok X G fe (by decide +kernel), freeB_ok X G fe (by decide +kernel), freeB_ok X G fe (by decide +kernel), freeB_ok X G fe (by decide +kernel)⟩
  have EQ : ExcC K CQ := exc_of qf qe
  have pen := ok_pen (P := l.prog) (w := w) (base := base) D__law_pen B
  have draw := ok_draw (P := l.prog) (w := w) (base := base) D__law_draw B
  have pick := ok_pick D__law_pick B draw
  have value := ok_Value D__law_value pick
  exact ok_law Fn11 B BE T EC qx kQ EQ iq pen value (ok_Errors D__law_errors T) (ok_Named D__law_named_errors T) (ok_Fields D__law_fields T) (ok_Own D__law_own B T wo) (ok_Bases D__law_bases B BE T wb) (ok_DueB D__law_due_bases)
theorem walk {l : PySem.W.OpenLaw} {q : Program} {loose : List Str} {XP : (Str → Option Value) → Heap → Prop} {YP : World → Heap → Prop} {d : DefRec} {K : Params → PySem.W.Frag} (hn : l.most = some 63) (hdf : d.params.defaults = [])
    (hY : ∀ (w : World) (h : Heap), YP w h → (K w.params).In h)
    (F : ∀ (w : World) (mg : Str → Option Value) (fa : Addr) (h : Heap), (K w.params).In h → h.Ns mainGlobals mg → mg d.name = some (.ref fa) →
      ∃ fd : FuncData, (∀ (s : Shared) (u : Value), BindsTo s fd ⟨[u], []⟩ [("_law_script", u)]) ∧ ∀ base : Heap, (K w.params).In base → base.Ns mainGlobals mg → FnG l.prog w (K w.params) mg base (L2.CX l.prog w) 4 fa fd ["_law_script"] (spLaw (K w.params))) :
    PySem.W.WalkO q loose XP YP l.row.toRowW d [] (fun f vs => PySem.call f vs) :=
  Qh.walk_ofG (n := 63) (k := 4) (x := "_law_script") (CX := fun w => L2.CX l.prog w) (sp := fun w => spLaw (K w.params)) hn (by decide) hdf ⟨rfl, by decide, by decide⟩ hY F (fun _ _ a ns _ _ hS => ⟨a, ns, rfl, hS, fun _ => rfl⟩) fun _ _ _ _ _ h => by
    obtain ⟨_, _, _, _, _, _, _, _, _, _, _, _, z⟩ := h
    exact z.elim
end K01
open PySem PySem.W PyProof.Rows
set_option maxRecDepth 100000 in
set_option maxHeartbeats 0 in
theorem PySem.Challenge.cw_quotehome_k01_errors_told_holds : PySem.Challenge.rw_quotehome_k01_errors_told.Holds := by
  w_on; o_law; k_head; (case hw => w_witness2)
  k_fill
  refine K01.walk (l := PySem.Challenge.rw_quotehome_k01_errors_told) rfl rfl (fun w h Y => PySem.W.kIn_of Y) ?F
  case F =>
    intro w mg fa h KX G hmg
    refine' K01.all_mk KX G hmg ?a1 ?l1 ?c1 ?k1 ?a2 ?l2 ?c2 ?k2 ?a3 ?l3 ?c3 ?k3 ?a4 ?l4 ?c4 ?k4 ?a5 ?l5 ?c5 ?k5 ?a6 ?l6 ?c6 ?k6 ?a7 ?l7 ?c7 ?k7 ?a8 ?l8 ?c8 ?k8 ?a9 ?l9 ?c9 ?k9 ?a10 ?l10 ?c10 ?k10 ?a11 ?l11 ?c11 ?k11 ?gCQ ?gC1 ?a12 ?t12 ?l12 ?c12 ?k12 ?wC1 ?gC2 ?a13 ?t13 ?l13 ?c13 ?k13 ?wC2 ?gC3 ?a14 ?t14 ?l14 ?c14 ?k14 ?wC3 ?gC4 ?a15 ?t15 ?l15 ?c15 ?k15 ?wC4 ?gC5 ?a16 ?t16 ?l16 ?c16 ?k16 ?wC5 ?gC6 ?a17 ?t17 ?l17 ?c17 ?k17 ?wC6 ?gC7 ?a18 ?t18 ?l18 ?c18 ?k18 ?wC7 ?gC8 ?a19 ?t19 ?l19 ?c19 ?k19 ?wC8 ?gC9 ?a20 ?t20 ?l20 ?c20 ?k20 ?wC9 ?gC10 ?a21 ?t21 ?l21 ?c21 ?k21 ?wC10 ?gC11 ?a22 ?t22 ?l22 ?c22 ?k22 ?wC11 ?gC12 ?a23 ?t23 ?l23 ?c23 ?k23 ?wC12 ?gC13 ?a24 ?t24 ?l24 ?c24 ?k24 ?wC13 ?fr ?fe ?wo ?wb ?qx ?qf ?qe ?iq ?kQ
    (case a1 => k_is)
    (case l1 => k_is)
    (case c1 => k_is)
    (case k1 => k_is)
    (case a2 => k_is)
    (case l2 => k_is)
    (case c2 => k_is)
    (case k2 => k_is)
    (case a3 => k_is)
    (case l3 => k_is)
    (case c3 => k_is)
    (case k3 => k_is)
    (case a4 => k_is)
    (case l4 => k_is)
    (case c4 => k_is)
    (case k4 => k_is)
    (case a5 => k_is)
    (case l5 => k_is)
    (case c5 => k_is)
    (case k5 => k_is)
    (case a6 => k_is)
    (case l6 => k_is)
    (case c6 => k_is)
    (case k6 => k_is)
    (case a7 => k_is)
    (case l7 => k_is)
    (case c7 => k_is)
    (case k7 => k_is)
    (case a8 => k_is)
    (case l8 => k_is)
    (case c8 => k_is)
    (case k8 => k_is)
    (case a9 => k_is)
    (case l9 => k_is)
    (case c9 => k_is)
    (case k9 => k_is)
    (case a10 => k_is)
    (case l10 => k_is)
    (case c10 => k_is)
    (case k10 => k_is)
    (case a11 => k_is)
    (case l11 => k_is)
    (case c11 => k_is)
    (case k11 => k_is)
    (case gCQ => k_is)
    (case gC1 => k_is)
    (case a12 => k_is)
    (case t12 => k_is)
    (case l12 => k_is)
    (case c12 => k_is)
    (case k12 => k_is)
    (case wC1 => kernel_rfl)
    (case gC2 => k_is)
    (case a13 => k_is)
    (case t13 => k_is)
    (case l13 => k_is)
    (case c13 => k_is)
    (case k13 => k_is)
    (case wC2 => kernel_rfl)
    (case gC3 => k_is)
    (case a14 => k_is)
    (case t14 => k_is)
    (case l14 => k_is)
    (case c14 => k_is)
    (case k14 => k_is)
    (case wC3 => kernel_rfl)
    (case gC4 => k_is)
    (case a15 => k_is)
    (case t15 => k_is)
    (case l15 => k_is)
    (case c15 => k_is)
    (case k15 => k_is)
    (case wC4 => kernel_rfl)
    (case gC5 => k_is)
    (case a16 => k_is)
    (case t16 => k_is)
    (case l16 => k_is)
    (case c16 => k_is)
    (case k16 => k_is)
    (case wC5 => kernel_rfl)
    (case gC6 => k_is)
    (case a17 => k_is)
    (case t17 => k_is)
    (case l17 => k_is)
    (case c17 => k_is)
    (case k17 => k_is)
    (case wC6 => kernel_rfl)
    (case gC7 => k_is)
    (case a18 => k_is)
    (case t18 => k_is)
    (case l18 => k_is)
    (case c18 => k_is)
    (case k18 => k_is)
    (case wC7 => kernel_rfl)
    (case gC8 => k_is)
    (case a19 => k_is)
    (case t19 => k_is)
    (case l19 => k_is)
    (case c19 => k_is)
    (case k19 => k_is)
    (case wC8 => kernel_rfl)
    (case gC9 => k_is)
    (case a20 => k_is)
    (case t20 => k_is)
    (case l20 => k_is)
    (case c20 => k_is)
    (case k20 => k_is)
    (case wC9 => kernel_rfl)
    (case gC10 => k_is)
    (case a21 => k_is)
    (case t21 => k_is)
    (case l21 => k_is)
    (case c21 => k_is)
    (case k21 => k_is)
    (case wC10 => kernel_rfl)
    (case gC11 => k_is)
    (case a22 => k_is)
    (case t22 => k_is)
    (case l22 => k_is)
    (case c22 => k_is)
    (case k22 => k_is)
    (case wC11 => kernel_rfl)
    (case gC12 => k_is)
    (case a23 => k_is)
    (case t23 => k_is)
    (case l23 => k_is)
    (case c23 => k_is)
    (case k23 => k_is)
    (case wC12 => kernel_rfl)
    (case gC13 => k_is)
    (case a24 => k_is)
    (case t24 => k_is)
    (case l24 => k_is)
    (case c24 => k_is)
    (case k24 => k_is)
    (case wC13 => kernel_rfl)
    (case fr => kernel_rfl)
    (case fe => kernel_rfl)
    (case wo => kernel_rfl)
    (case wb => kernel_rfl)
    (case qx => kernel_rfl)
    (case qf => kernel_rfl)
    (case qe => kernel_rfl)
    (case iq => kernel_rfl)
    (case kQ => k_is)
