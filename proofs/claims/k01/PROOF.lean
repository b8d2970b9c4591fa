import PyProof.Rows.All
import Wide.All
import OpenK.AllK
import Wide.FinOn
import HandS.ForMost
import HandS.IsInst
import HandS.Rev
import PyProof.ReprRoads
import PyProof.CallFns
import HandS.EndBits
import HandS.Zip0
import HandS.Walk
import PyProof.Draws
import HandS.More
import HandS.WrittenGet
import HandS.Defaults
import HandS.Wide
import HandS.Conv
import HandS.TupAny
import HandS.Codes
import PyProof.ReprBulk
import HandS.Style
import HandS.NoneIn
import HandS.SortInts
import HandS.RaiseMore
import HandS.Dict
import PyProof.Rows.ReprOcc
import PySem.Challenge.RW_ringorders_k01_minutes_orders_names_know
set_option Elab.async false
set_option linter.all false
set_option maxRecDepth 100000
set_option maxHeartbeats 4000000
/-! Ringorders, the ground: promises of defs around which no repr runs, calls by keywords alone, repr of data. -/
namespace RO
open PySem PySem.Spec PyProof.Rows L2

/-- what a def keeps where nothing guards a repr around it -/
structure GOk (P : Program) (w : World) (K : PySem.W.Frag) (mg : Str → Option Value) (base : Heap) (CX : CXT) (k : Nat) (f : Addr) (fd : FuncData) (ps : List Str) (sp : Sp) : Prop where
  many : ∀ vs H Q E, sp vs H Q E → vs.length = ps.length
  runs : ∀ (A : Around) (out : List Env) (s : Shared) (H : Hp) (as : Args) (us : List Value) (vs : List V) (Q : VK) (E : XK),
    Room k A → A.guards = some [] → Env0 P w K mg base A out s H → BindsTo s fd as (ps.zip us) → Vals vs us → sp vs H Q E →
      codeAny (model P w) A (.call (.ref f) as) (CR CX out P w H s Q E) s

section
variable {P : Program} {w : World} {K : PySem.W.Frag} {mg : Str → Option Value} {base : Heap}

theorem GOk.of {CX : CXT} {k : Nat} {f : Addr} {fd : FuncData} {ps : List Str} {sp : Sp} (F : FnOk P w K mg base CX k f fd ps sp) : GOk P w K mg base CX k f fd ps sp :=
  { many := F.len
    runs := fun A out s H as us vs Q E hr _ => F.run A out s H as us vs Q E hr }
theorem GOk.up {CX : CXT} {j k : Nat} {f : Addr} {fd : FuncData} {ps : List Str} {sp : Sp} (F : GOk P w K mg base CX j f fd ps sp) (h : j ≤ k) : GOk P w K mg base CX k f fd ps sp :=
  { many := F.many
    runs := fun A out s H as us vs Q E hr => F.runs A out s H as us vs Q E (Room.mono hr h) }

/-- a def by its body, nothing guarding a repr -/
theorem GOk.body {x qual : Str} {st : Stmt} {f : Addr} {fd : FuncData} {N ps : List Str} {k : Nat} {sp : Sp} (F : Fun K x qual st f fd) (S : FnScope N ps (defScope st))
    (many : ∀ vs H Q E, sp vs H Q E → vs.length = ps.length)
    (hb : ∀ (cdv : Value) (A : Around) (out : List Env) (s : Shared) (H : Hp) (vs : List V) (Q : VK) (E : XK),
      Room k (A.deeper (envOfC qual (defScope st) s.heap.objs.size f cdv)) → A.guards = some [] → sp vs H Q E →
        ∃ t, PSs (cxOf CX0 P w K mg base N qual (defScope st) f cdv A out s H E).nox (defBody st) t ∧ t { nx := fun _ H' => Q .non H', rt := Q } (start N vs) H) :
    GOk P w K mg base CX0 (k + 1) f fd ps sp := by
  obtain ⟨oc, od, kV, doc, pm, an, cdv, ct, osl, e, lk, hcd⟩ := F.ex
  subst e
  constructor
  · exact many
  · intro A out s H as us vs Q E hr hG e0 hbd r hsp
    have h0 := many _ _ _ _ hsp
    have old : ∀ b o, base.get? b = some o → s.heap.get? b = some o := fun b o z => (e0.bs b o z).1
    have hK : K.In s.heap := e0.mod.kin.keeps old
    have hL : s.heap.NoLimit := e0.mod.nolimit.keeps old
    have kinds : ∀ y ∈ ps.zip us, (defScope st).names.lookup y.1 = some .local ∨
        ((defScope st).names.lookup y.1 = some .cell ∧ ((cellsFrom (s.heap.objs.size + 1) (defScope st).names []).lookup y.1).isSome = true) := by
      intro y hy
      cases S.par y.1 (List.of_mem_zip (show (y.1, y.2) ∈ ps.zip us from hy)).1 with
      | inl z => exact Or.inl z
      | inr z => exact Or.inr ⟨z, PySem.W.cellsFrom_some _ _ _ (Or.inl z)⟩
    apply codeAny_call_function hr.depth (hK _ _ lk) rfl S.co S.gen rfl (PySem.W.codeRec_of hK hcd)
    apply hbd
    apply wpAny_newFunctionEnv_cells S.kind kinds
    intro env he s1 x
    subst he
    refine ⟨hL.keeps x.toInCall.keep, codeAny_func ?_⟩
    obtain ⟨t, ht, hq⟩ := hb cdv A out s H vs Q E (hr.deeper _) hG hsp
    have J0 := inv_start (E := E) S hr.hd e0 h0 r x (CX := CX0)
    have done : ∀ {σ' : L2.St} {H' : Hp} {v : V} {u : Value} {s' : Shared}, Inv (cxOf CX0 P w K mg base N qual (defScope st) f cdv A out s H E) [] σ' H' s' → RelV v u → Q v H' → CE out P w H s Q u s' :=
      fun {σ' H' v u s'} J rv q => ⟨v, H', J.os, J.bare, J.base, J.hok, rv, q⟩
    apply wpAny_mono (ht.nox.run [] s1 (start N vs) H _ J0 hq)
    · intro fl s' hs
      match fl, hs with
      | .ret u, ⟨v, σ', H', J, rv, q⟩ => exact done J rv q
      | .next, ⟨σ', H', J, q⟩ => exact done (v := V.non) (u := Value.none) J rfl q
      | .brk, ⟨_, _, _, q⟩ => exact q.elim
      | .cont, ⟨_, _, _, q⟩ => exact q.elim
    · exact fun _ _ hs => hs
end

section
variable {X : Cx} {CX : CXT} {k : Nat} {f C : Addr} {fd : FuncData} {ps ks : List Str} {sp : Sp} {dvs : List V} {ds : List Value} {E : XK} {x m : Str} {p pos : Pos} {e o : Expr} {es : List Expr} {kws : List Keyword} {te ta : TE} {t tk : TA}

theorem GOk.goes {pins : List (Addr × Obj)} {σ : L2.St} {H : Hp} {s : Shared} {Q : VK} {as : Args} {us : List Value} {vs : List V} (F : GOk X.prog X.w X.K X.mg X.base CX k f fd ps sp) (hr : Room k X.A) (hG : X.A.guards = some []) (hx : Passes CX X E)
    (hb : BindsTo s fd as (ps.zip us)) (I : Inv X pins σ H s) (r : Vals vs us) (h : sp vs H Q E) : codeAny (model X.prog X.w) X.A (.call (.ref f) as) (fun r s' => match r with | .ok (.ret u) => EP X pins σ Q u s' | .ok _ => False | .error e => X.xe e s') s := by
  apply codeAny_mono (F.runs X.A X.stack s H as us vs Q E hr hG I.env0 hb r h)
  intro r s' hq
  match r, hq with
  | .error e, hq => exact hx pins σ H s e s' I hq
  | .ok (.ret u), hq => exact I.after hq
  | .ok .next, hq => exact hq.elim
  | .ok .brk, hq => exact hq.elim
  | .ok .cont, hq => exact hq.elim

/-- f(e, ..) where f keeps its promise if no repr is guarded -/
theorem pe_callG (F : GOk X.prog X.w X.K X.mg X.base CX k f fd ps sp) (hr : Room k X.A) (hG : X.A.guards = some []) (hg : Gl X x) (hm : X.mg x = some (.ref f)) (hk : PySem.W.keepIn X.K (.ref f) = true) (hb : Binds X.K fd ps ds) (hd : Vals dvs ds) (hx : Passes CX X E)
    (ha : PA X (e :: es) t) (hdb : (x == ("__debug__" : Str)) = false := by decide) (he : starEach (e :: es) X.env = (false, eval e X.env) :: starEach es X.env := by rfl)
    (hpl : (backTo pos (starEach es X.env)).any (·.1) = false := by rfl) : PE X (.Call (.Name x p) (e :: es) [] pos) (tCall sp dvs E t) := by
  constructor
  intro pins s σ H Q I h
  apply wpAny_Call_Name_kw
  apply ld_glob I hg hm _ hdb
  apply PySem.W.callWith_K (h₀ := X.base) I.ok.mod.kin hk _ he hpl
  apply thn (ha.run pos pins s σ H _ I h)
  rintro us s1 ⟨vs, H1, I1, r, q⟩
  refine ⟨I1.kIn, ?_⟩
  have r2 : Vals (vs ++ dvs) (us ++ ds) := r.append hd
  have hl : (us ++ ds).length = ps.length := r2.length.symm.trans (F.many _ _ _ _ q)
  show wpAny _ _ (call (.ref f) us) _ _ s1
  exact wpAny_call (codeAny_mono (F.goes hr hG hx (hb s1 us I1.kIn hl) I1 r2 q) fun r s' hq => by
    match r, hq with
    | .error e, hq => exact hq
    | .ok (.ret u), hq => exact hq)

/-- f(k = v, ..), nothing by place -/
theorem pe_callK0 {g : List Value → List Value → List Value} {gV : List V → List V → List V} (F : FnOk X.prog X.w X.K X.mg X.base CX k f fd ps sp) (hr : Room k X.A) (hg : Gl X x) (hm : X.mg x = some (.ref f)) (hk : PySem.W.keepIn X.K (.ref f) = true)
    (hb : KBinds X.K fd ps ks g gV) (hx : Passes CX X E) (hkw : PK X kws tk) (hall : (backToKw pos (keywordEach kws X.env)).all (·.1.isSome) = true := by rfl) (hks : (backToKw pos (keywordEach kws X.env)).filterMap (·.1) = ks := by rfl)
    (hdb : (x == ("__debug__" : Str)) = false := by decide)
    (hpl : ((backTo pos (starEach [] X.env)).any (·.1) || (backToKw pos (keywordEach kws X.env)).any (·.1.isNone)) = false := by rfl) :
    PE X (.Call (.Name x p) [] kws pos) (tCallK sp gV E tNil tk) := by
  constructor
  intro pins s σ H Q I h
  apply wpAny_Call_Name_kw
  apply ld_glob I hg hm _ hdb
  apply PySem.W.callWith_KW0 (h₀ := X.base) I.ok.mod.kin hk hall _ hpl
  apply thn (hkw.run pos pins s σ H _ I h)
  rintro ws s1 ⟨zs, H1, I1, rz, q⟩
  refine ⟨I1.kIn, ?_⟩
  rw [hks]
  exact run_fnk (us := []) F hr hb hx I1 .nil rz q

/-! ### repr -/
/-- repr of data -/
def rRepr (K : PySem.W.Frag) : List V → Hp → VK → Prop := fun xs H Q => ∃ v d, xs = [v] ∧ Dp K H v d ∧ PyData.showable d = true ∧ d.hasDict = false ∧ d.depth ≤ 40 ∧ d.shown.length ≤ sizeLine ∧ Q (.str d.shown) H
theorem call_repr (hG : X.A.guards = some []) (hu : X.A.units + 64 < cLine) : CallR X (.builtin "repr") (rRepr X.K) := by
  intro pins s σ H xs us Q I r h
  obtain ⟨v, d, rfl, hd, hs, hn, h40, hz, q⟩ := h
  obtain ⟨u, rfl, ru⟩ := vals1 r
  have fin : ∀ (h' : Heap) (tk : Nat) (u : Tok), (∀ b o, s.heap.get? b = some o → h'.get? b = some o) → EP X pins σ Q (.str d.shown u) { s with heap := h', toks := tk } :=
    fun h' tk u hk => ⟨.str d.shown, H, I.un (Un.kept hk) (I.hok.kept hk), ⟨u, rfl⟩, q⟩
  obtain ⟨as, rd⟩ := Dp.reads I d v u hd ru
  cases hd with
  | non =>
    cases ru
    exact P.repr_of_none (fin s.heap _ _ fun _ _ z => z)
  | bl b =>
    cases ru
    refine P.repr_of_bool ?_
    have z := fin s.heap (s.toks + 1) s.toks fun _ _ z => z
    cases b <;> exact z
  | int i =>
    obtain ⟨t, rfl⟩ := ru
    refine P.repr_of_int ?_ ?_
    · simpa [PyData.showable] using hs
    · have z := fin s.heap (s.toks + 1) s.toks fun _ _ z => z
      simpa [PyData.shown] using z
  | str x =>
    obtain ⟨t, rfl⟩ := ru
    have z := fin s.heap (s.toks + 1) s.toks fun _ _ z => z
    simp only [PyData.shown_str] at z hz
    exact P.repr_of_str z hz
  | lst h1 h2 =>
    cases ru
    exact repr_of_reads' rd hs (PyData.noDict_hsm hn) hG (by omega) (fun _ _ z => z) (fun h' u tk hk => fin h' tk u hk) hz
  | tup h1 h2 =>
    cases ru
    exact repr_of_reads' rd hs (PyData.noDict_hsm hn) hG (by omega) (fun _ _ z => z) (fun h' u tk hk => fin h' tk u hk) hz
end
end RO

namespace RO
open PySem PySem.Spec PyProof.Rows L2

/-- the abstract heap at the law's entry: the script alone, locked, where the text itself doesn't hold it -/
def scriptH (K : PySem.W.Frag) (a : Addr) (o : Obj) (ns : List Int) : Hp := fun b => if b = a ∧ K.lookup a = none then some (.frz o (.lst (ns.map V.int))) else none

/-- the law's def is called as TURN's statement calls it -/
theorem law_runs {P : Program} {w : World} {K : PySem.W.Frag} {mg mb : Str → Option Value} {k : Nat} {fa a : Addr} {fd : FuncData} {x : Str} {sp : Sp} {s1 : Shared} {vs : List Value} {ns : List Int}
    (hK : K.In s1.heap) (hm : s1.heap.Ns mainGlobals mg) (hb : s1.heap.Ns builtinsNs mb) (hbb : ∀ y : Str, y ≠ "__name__" → mb y = bootBuiltins y) (hL : s1.heap.NoLimit) (hgn : s1.gens = #[])
    (ha : s1.heap.get? a = some { cls := .type "list", data := .seq vs.toArray }) (hi : IntsAre vs ns) (hn : ns.length ≤ sizeLine) (hr : Room k callerA)
    (F : ∀ base : Heap, K.In base → base.Ns mainGlobals mg → GOk P w K mg base CX0 k fa fd [x] sp) (hbd : ∀ (s : Shared) (u : Value), BindsTo s fd ⟨[u], []⟩ [(x, u)])
    (hsp : ∀ H : Hp, Only H → SqL K H a (ns.map V.int) → sp [.ref a] H (fun v _ => v = .bl true) fun _ _ _ => False) :
    codeAny (model P w) callerA (.call (.ref fa) ⟨[.ref a], []⟩) (fun r s' => r = .ok (.ret (.bool true)) ∧ OldK s1.heap s'.heap ∧ s'.os = s1.os ∧ AllBare s'.gens) s1 := by
  let ob : Obj := { cls := .type "list", data := .seq vs.toArray }
  let H : Hp := scriptH K a ob ns
  have hH : ∀ b u, H b = some u → b = a ∧ K.lookup a = none ∧ u = .frz ob (.lst (ns.map V.int)) := by
    intro b u z
    by_cases c : b = a ∧ K.lookup a = none
    · have z2 : (if b = a ∧ K.lookup a = none then some (HO.frz ob (.lst (ns.map V.int))) else none) = some u := z
      rw [if_pos c] at z2
      cases z2
      exact ⟨c.1, c.2, rfl⟩
    · have z2 : (if b = a ∧ K.lookup a = none then some (HO.frz ob (.lst (ns.map V.int))) else none) = some u := z
      rw [if_neg c] at z2
      cases z2
  have hOnly : Only H := fun b => by
    cases z : H b with
    | none => exact .inl rfl
    | some u => exact .inr ⟨ob, _, congrArg some (hH b u z).2.2⟩
  have rv := vals_ints hi
  have sizes : vs.length = ns.length := hi.length
  have hS : SqL K H a (ns.map V.int) := by
    cases z : K.lookup a with
    | some o =>
      have e := hK a o z
      rw [ha] at e
      cases e
      exact Or.inr ⟨_, vs.toArray, _, z, rfl, rfl, rfl, by rw [List.size_toArray, sizes]; exact hn, by simpa using rv⟩
    | none => exact Or.inl (Or.inr ⟨ob, if_pos ⟨rfl, z⟩⟩)
  have hOk : HOk P w H s1.heap := fun b u z => by
    obtain ⟨e1, _, e3⟩ := hH b u z
    subst e1
    subst e3
    exact ⟨ha, by rw [List.length_map]; exact hn, vs, _, rv, ha⟩
  have stays : ∀ {b : Addr} {o : Obj}, s1.heap.get? b = some o → H b = none → (hidT s1.heap H).get? b = some o := fun e n => hidT_get e n
  have keptK : K.In (hidT s1.heap H) := by
    intro b o z
    refine stays (hK b o z) ?_
    cases q : H b with
    | none => rfl
    | some u =>
      obtain ⟨e1, e2, _⟩ := hH b u q
      rw [e1, e2] at z
      cases z
  have keptN : ∀ {b : Addr} {m : Str → Option Value}, s1.heap.Ns b m → (hidT s1.heap H).Ns b m := by
    rintro b m ⟨o, es, ep, e, d, r⟩
    refine ⟨o, es, ep, stays e ?_, d, r⟩
    cases q : H b with
    | none => rfl
    | some u =>
      obtain ⟨e1, _, _⟩ := hH b u q
      rw [e1, ha] at e
      cases e
      exact nomatch (show Data.seq vs.toArray _ = Data.dict es ep from d)
  obtain ⟨mc, l1, l2⟩ := hL
  have start0 : Env0 P w K mg (hidT s1.heap H) callerA [] s1 H :=
    { frames := rfl
      mod := ⟨keptK, keptN hm, ⟨mb, keptN hb, hbb⟩, ⟨mc, keptN l1, l2⟩⟩
      bs := fun _ _ z => of_hidT z
      bsz := Nat.le_of_eq (hidT_size _ _)
      funs := trivial
      frf := fun b z => absurd (show b ∈ ([] : List Addr) from z) (by simp)
      hok := hOk
      bare := .of_eq hgn }
  apply codeAny_mono ((F _ keptK (keptN hm)).runs callerA [] s1 H ⟨[.ref a], []⟩ [.ref a] [.ref a] _ _ hr rfl start0 (hbd s1 (.ref a)) (.cons rfl .nil) (hsp H hOnly hS))
  intro r s' h
  match r, h with
  | .error _, h => exact h.elim
  | .ok .next, h => exact h.elim
  | .ok .brk, h => exact h.elim
  | .ok .cont, h => exact h.elim
  | .ok (.ret u), ⟨v, H', os, bare, un, hok', r', q⟩ =>
    have q' : v = .bl true := q
    subst q'
    have r2 : u = Value.bool true := r'
    subst r2
    refine ⟨rfl, OldK.of_keep fun b o e => ?_, os, bare⟩
    cases q : H b with
    | none => exact un.keep b o e q (by intro z; exact absurd (show b ∈ ([] : List Addr) from z) (by simp)) (by simp)
    | some t =>
      have q2 := q
      rw [(hH b t q).2.2] at q2
      have f1 := (hOk b _ q2).1
      have f2 := (hok' b _ (un.frzs b ob _ q2)).1
      rw [e] at f1
      rw [f2, f1]

/-- the goal behind the head, from the law's promise; the script's bits told -/
theorem walk_G {l : PySem.W.OpenLaw} {n k : Nat} {q : Program} {loose : List Str} {XP : (Str → Option Value) → Heap → Prop} {YP : World → Heap → Prop} {d : DefRec} {K : Params → PySem.W.Frag} {sp : PySem.W.Frag → Sp} {x : Str}
    (hn : l.most = some n) (hn2 : n ≤ sizeLine) (hdf : d.params.defaults = []) (hr : Room k callerA) (hY : ∀ (w : World) (h : Heap), YP w h → (K w.params).In h)
    (F : ∀ (w : World) (mg : Str → Option Value) (fa : Addr) (h : Heap), (K w.params).In h → h.Ns mainGlobals mg → mg d.name = some (.ref fa) →
      ∃ fd : FuncData, (∀ (s : Shared) (u : Value), BindsTo s fd ⟨[u], []⟩ [(x, u)]) ∧ ∀ base : Heap, (K w.params).In base → base.Ns mainGlobals mg → GOk l.prog w (K w.params) mg base CX0 k fa fd [x] (sp (K w.params)))
    (hsp : ∀ (K : PySem.W.Frag) (H : Hp) (a : Addr) (ns : List Int), ns.length ≤ n → (∀ k ∈ ns, Builtin.Int.intBits k ≤ 1048576) → Only H → SqL K H a (ns.map V.int) → sp K [.ref a] H (fun v _ => v = .bl true) fun _ _ _ => False) :
    PySem.W.WalkO q loose XP YP l.row.toRowW d [] (fun f vs => PySem.call f vs) := by
  apply Att.attach_callB hn hdf
  intro w s0 s1 mg mb fa o pm cd doc a vs ns G Y ho hd hcd hmg hobj hints hlen hbits hg
  have hK := hY w _ Y
  obtain ⟨fd, hb, hF⟩ := F w mg fa _ hK G.T.g hmg
  exact law_runs hK G.T.g G.T.b G.T.builtins G.T.nolimit hg hobj hints (Nat.le_trans hlen hn2) hr hF hb fun H hO hS => hsp (K w.params) H a ns hlen hbits hO hS
end RO

namespace RO
open PySem PySem.Spec PyProof.Rows L2

/-! ### enumerate of a tuple -/
theorem drawsT {prog : Program} {w : World} {A : Around} (hh : A.handled = none) (it t : Addr) (hne : t ≠ it) (items : Array Value) :
    Draws prog w A it [it, t] items.size (fun i v => items[i]? = some v) (fun i h => h.IsTupleIter it t i ∧ h.IsTuple t items) where
  live := fun _ _ st => by
    obtain ⟨⟨o, ho, _⟩, _⟩ := st
    exact ⟨o, ho⟩
  frame := fun i h h' st hk => ⟨Heap.IsTupleIter.at st.1 (hk it (List.mem_cons_self ..)), by
    obtain ⟨o, e, r⟩ := st.2
    exact ⟨o, hk t (by simp) o e, r⟩⟩
  item := fun i s Q E hi st hQ => RZ.nextOf_tuple_item st.1 st.2 (x := items[i]) (by simp [hi]) fun h' hit' sb =>
    hQ _ h' s.toks (by simp [hi]) ⟨hit', by
      obtain ⟨o, e, r⟩ := st.2
      exact ⟨o, (sb.2 t hne).trans e, r⟩⟩ sb
  done := fun s Q E st hE => RZ.nextOf_tuple_end hh st.1 st.2 (by simp) hE

open Sem (wp) in
open AutoSeq1 (wpAny_loadPart') in
theorem meets_enum_newT (l : Addr) (items : Array Value) (n : Nat) (dct : Option Addr) (sl : Array (Option Value)) :
    Meets (Builtin.«enumerate.__new__» ⟨[.type "enumerate", .ref l], []⟩) (fun _ R s => s.heap.get? l = some { cls := .type "tuple", dict := dct, data := .seq items n, slots := sl } ∧
      R (.ok (.ret (.ref (s.heap.push { cls := .type "tuple_iterator", data := .fields #[.ref l, .int 0 0] }).objs.size)))
        { s with heap := (s.heap.push { cls := .type "tuple_iterator", data := .fields #[.ref l, .int 0 0] }).push { cls := .type "enumerate", data := .fields #[.none, .bool false, .ref s.heap.objs.size, rawInt 0, .none, .none] } }) := by
  refine Meets.of_wp fun prog w A R s h => ?_
  obtain ⟨hp, g, d, tk, os⟩ := s
  obtain ⟨hl, h⟩ := h
  have hsub := sub_enumerate
  have hT : Heap.IsTuple (Shared.heap ⟨hp, g, d, tk, os⟩) l items := ⟨_, hl, rfl, n, rfl⟩
  wp_walk using wpAny_loadPart' hl
  refine wpAny_stack_any fun st => wpAny_pure ?_
  split
  · rename_i c _ _ _ _ _
    cases (c == Value.type "enumerate") <;>
      (wp_walk using wpAny_loadPart' hl, wpAny_pyIter_tuple hT; exact ⟨_, rfl, h⟩)
  · wp_walk using wpAny_loadPart' hl, wpAny_pyIter_tuple hT
    exact ⟨_, rfl, h⟩

theorem call_enumT {prog : Program} {w : World} {A : Around} {E : Value → Shared → Prop} {s : Shared} {l : Addr} {items : Array Value} {Q : Value → Shared → Prop} (hT : s.heap.IsTuple l items)
    (h : ∀ h', IsEnum h' (s.heap.objs.size + 1) s.heap.objs.size 0 .none → h'.IsTupleIter s.heap.objs.size l 0 → h'.objs.size = s.heap.objs.size + 2 → (∀ b o, s.heap.get? b = some o → h'.get? b = some o) →
      Q (.ref (s.heap.objs.size + 1)) { s with heap := h' }) : wpAny (model prog w) A (call (.type "enumerate") [.ref l]) Q E s := by
  obtain ⟨⟨c, dct, dt, sl⟩, hl, hc, n, hd⟩ := hT
  have hc' : c = .type "tuple" := hc
  have hd' : dt = .seq items n := hd
  subst hc' hd'
  apply callType_new F.called_enumerate (by decide) (F.typeCall_enumerate_1 _) (F.newCall_enumerate_1 _) (fun obj => F.args_object_init_2 obj _) F.entry_enumerate_new (meets_enum_newT l items n dct sl)
  refine ⟨hl, ?_⟩
  let h1 := s.heap.push { cls := .type "tuple_iterator", data := .fields #[.ref l, .int 0 0] }
  have hz : h1.objs.size = s.heap.objs.size + 1 := Heap.size_push ..
  show _ ∧ _
  rw [show (s.heap.push { cls := .type "tuple_iterator", data := .fields #[.ref l, .int 0 0] }).objs.size = s.heap.objs.size + 1 from hz]
  have he : IsEnum (h1.push { cls := .type "enumerate", data := .fields #[.none, .bool false, .ref s.heap.objs.size, rawInt 0, .none, .none] }) (s.heap.objs.size + 1) s.heap.objs.size 0 .none := by
    have z := Heap.get?_push_size h1 (o := { cls := .type "enumerate", data := .fields #[.none, .bool false, .ref s.heap.objs.size, rawInt 0, .none, .none] }) rfl
    rw [hz] at z
    exact z
  exact ⟨⟨_, he, rfl⟩, h _ he ⟨_, Heap.get?_push_of_some _ (Heap.get?_push_size _ rfl), rfl, rfl⟩ ((Heap.size_push ..).trans (congrArg (· + 1) hz)) fun b o x => Heap.get?_push_of_some _ (Heap.get?_push_of_some _ x)⟩

/-- the tuple at a, each item in a new pair with its number -/
def IteT (K : PySem.W.Frag) (a : Addr) : It where
  go := fun i H => ∃ (xs : List V) (x : V), SqT K H a xs ∧ xs[i]? = some x
  yld := fun i H v H' => ∃ T x, v = .ref T ∧ H T = none ∧ H' = upd H T (.tup [.int (i : Nat), x]) ∧ ∀ xs, SqT K H a xs → xs[i]? = some x
  stop := fun i H => ∃ xs : List V, SqT K H a xs ∧ xs.length = i

theorem turn_enumT {P : Program} {w : World} {K : PySem.W.Frag} {elts : List Expr} {kk : Nat} {tpos : Pos} (a e it : Addr) (hae : a ≠ e) (hai : a ≠ it) (hne : e ≠ it) :
    Turn P w K (.Tuple elts kk tpos) (IteT K a) [e, it] e (fun i h => (∃ old, IsEnum h e it ((i : Nat) : Int) old) ∧ h.IsTupleIter it a i) where
  mem := List.mem_cons_self ..
  obj := fun i h st b hb => by
    obtain ⟨⟨old, he⟩, ⟨o, ho, hc, hd⟩⟩ := st
    rcases List.mem_cons.mp hb with z | z
    · rw [z]
      exact ⟨_, he, fun v q => nomatch q⟩
    · have z' : b = it := by simpa using z
      exact ⟨o, z' ▸ ho, fun v q => by rw [hd] at q; cases q⟩
  keep := fun i h h' st k => by
    obtain ⟨⟨old, he⟩, hi⟩ := st
    exact ⟨⟨old, k e (by simp) _ he⟩, Heap.IsTupleIter.at hi (k it (by simp))⟩
  item := by
    intro X hP hw hK hc i pins s σ H E I hf st hg
    subst hP hw hK
    obtain ⟨⟨old, he⟩, hit⟩ := st
    obtain ⟨xs, x, hq, hx⟩ := hg
    obtain ⟨its, rv, p, hz⟩ := I.tuple hq
    obtain ⟨u, hu, ru⟩ := rv.get hx
    have hlt : i < its.toArray.size := by
      obtain ⟨z, _⟩ := List.getElem?_eq_some_iff.mp hu
      simpa using z
    have hel : e < s.heap.objs.size := Heap.lt_size he
    have hil : it < s.heap.objs.size := by
      obtain ⟨_, q, _⟩ := hit
      exact Heap.lt_size q
    refine wpAny_pyNext_enum_itemD (drawsT (A := X.A.in1) (I.ok.hd hc) it a hai its.toArray) he ⟨hit, p⟩ hlt hne (by simp [hne, Ne.symm hae]) fun y h' tk hy ho hst hT hsz hk => ?_
    have ey : y = u := by
      have z : its.toArray[i]? = some u := by simpa using hu
      exact Option.some.inj (hy.symm.trans z)
    subst ey
    refine ⟨_, rfl, wpAny_letOwnedTupleGo_enum (s := { s with heap := h', toks := tk + 1 }) ho fun h2 he2 sb => ?_⟩
    have hT2 : h2.get? s.heap.objs.size = some { cls := .type "tuple", data := .seq #[.int i tk, y] } := (sb.2 _ (Nat.ne_of_gt hel)).trans hT
    have new : ObjOk X.prog X.w (upd H s.heap.objs.size (.tup [.int (i : Nat), x])) h2 s.heap.objs.size (.tup [.int (i : Nat), x]) := by
      refine ⟨by show 2 ≤ sizeLine; decide, [.int i tk, y], .cons ⟨_, rfl⟩ (.cons ru .nil), ⟨_, hT2, rfl, _, rfl⟩⟩
    have I1 : Inv X pins σ (upd H s.heap.objs.size (.tup [.int (i : Nat), x])) { s with heap := h2, toks := tk + 1 } := by
      refine I.turnedNew (ch := [e, it]) (fun b ob hb q => ?_) hf (Nat.le_refl _) new
      have n1 : b ≠ e := fun z => hb (by simp [z])
      have n2 : b ≠ it := fun z => hb (by simp [z])
      exact (sb.2 b n1).trans (hk b ob n1 n2 q)
    refine ⟨.ref s.heap.objs.size, _, I1, rfl, ⟨_, x, rfl, I.hok.fresh (Nat.le_refl _), rfl, fun ys hy => (I.tuple_inj hy hq).symm ▸ hx⟩, ⟨⟨y, ?_⟩, Heap.IsTupleIter.at hst.1 fun o q => (sb.2 it (Ne.symm hne)).trans q⟩, fun b hb => ?_⟩
    · rw [show ((i + 1 : Nat) : Int) = (i : Int) + 1 from by omega]
      exact he2
    · have hb2 : b = e ∨ b = it := by simpa using hb
      have lt : b < s.heap.objs.size := hb2.elim (fun z => z ▸ hel) fun z => z ▸ hil
      exact (upd_ne (Nat.ne_of_lt lt)).trans (hf b hb).1
  done := by
    intro X hP hw hK hc i pins s σ H E I hf st hg
    subst hP hw hK
    obtain ⟨⟨old, he⟩, hit⟩ := st
    obtain ⟨xs, hq, hx⟩ := hg
    obtain ⟨its, rv, p, hz⟩ := I.tuple hq
    obtain ⟨f0, f1, f2, f3, f4, f5⟩ := hf it (by simp)
    have hl : its.toArray.size = i := by
      rw [List.size_toArray, ← rv.length, hx]
    rw [← hl] at hit
    exact wpAny_pyNext_enum_endD (drawsT (A := X.A.in1) (I.ok.hd hc) it a hai its.toArray) he ⟨hit, p⟩ fun h' eb => ⟨rfl, I.turned (t' := s.toks) (fun b o hb q => eb b o hb q) f0 f1 f3 f4 f5⟩
  self := fun A i s Q E st h => by
    obtain ⟨⟨_, he⟩, _⟩ := st
    exact wpAny_pyIter_enum he h

/-- enumerate(x), x a list or a tuple -/
def iEnumA (K : PySem.W.Frag) (ta : TA) : TI := fun σ H R => ta σ H fun vs H1 => ∃ a xs, vs = [.ref a] ∧ ((SqL K H1 a xs ∧ R (Ite K a) H1) ∨ (SqT K H1 a xs ∧ R (IteT K a) H1))
theorem pi_enumA {X : Cx} {e : Expr} {ta : TA} {p pos tpos : Pos} {elts : List Expr} {kk : Nat} (hg : Gl X "enumerate") (hm : X.mg "enumerate" = none) (ha : PA X [e] ta) (hs : starEach [e] X.env = [(false, eval e X.env)] := by rfl) :
    PI X (.Tuple elts kk tpos) (.Call (.Name "enumerate" p) [e] [] pos) (iEnumA X.K ta) := by
  constructor
  intro pins s σ H R I h
  refine Call_ ?_
  apply ld_blt I hg hm boot_enumerate
  apply PyProof.Rows.callWith_type1 _ hs rfl
  apply thn (ha.run pos pins s σ H _ I h)
  rintro us s1 ⟨vs, H1, I1, r1, a, xs, ex, q⟩
  subst ex
  obtain ⟨u, rfl, ru⟩ := vals1 r1
  obtain rfl : u = Value.ref a := ru
  have hle : ∀ b, b ∈ [s1.heap.objs.size + 1, s1.heap.objs.size] → FpOk X pins H1 b := fun b hb => by
    have z : b = s1.heap.objs.size + 1 ∨ b = s1.heap.objs.size := by simpa using hb
    have l : s1.heap.objs.size ≤ b := by omega
    exact I1.fpOk l (I1.hok.fresh l)
  rcases q with ⟨hq, q⟩ | ⟨hq, q⟩
  · obtain ⟨its, rv, p', hz⟩ := I1.list hq
    refine call_enumerate_list p'.isList fun h' he hit hsz hk => wpAny_pyIter_enum he ?_
    exact ⟨s1.heap.objs.size + 1, [s1.heap.objs.size + 1, s1.heap.objs.size], _, _, H1, rfl, I1.kept (t' := s1.toks) hk, turn_enum a (s1.heap.objs.size + 1) s1.heap.objs.size, ⟨⟨.none, he⟩, hit, Nat.succ_ne_self _⟩, hle, q⟩
  · obtain ⟨its, rv, p', hz⟩ := I1.tuple hq
    obtain ⟨o, ho, _⟩ := id p'
    have hal : a < s1.heap.objs.size := Heap.lt_size ho
    refine call_enumT p' fun h' he hit hsz hk => wpAny_pyIter_enum he ?_
    exact ⟨s1.heap.objs.size + 1, [s1.heap.objs.size + 1, s1.heap.objs.size], _, _, H1, rfl, I1.kept (t' := s1.toks) hk, turn_enumT a (s1.heap.objs.size + 1) s1.heap.objs.size (Nat.ne_of_lt (Nat.lt_succ_of_lt hal)) (Nat.ne_of_lt hal) (Nat.succ_ne_self _), ⟨⟨.none, he⟩, hit⟩, hle, q⟩

section
variable {K : PySem.W.Frag} {a : Addr} {xs : List V}
theorem walk_enumT : Walk (IteT K a) xs.length (fun H => SqT K H a xs) (YPair (fun i => some (.int (i : Nat))) (fun i => xs[i]?)) where
  goes := fun i _ hi q => ⟨xs, xs[i], q, by simp [hi]⟩
  stops := fun _ q => ⟨xs, q, rfl⟩
  yields := fun i H v H' _ q y => by
    obtain ⟨T, x, h1, h2, h3, h4⟩ := y
    exact ⟨T, _, x, h1, h2, h3, rfl, h4 xs q⟩
theorem walk_revT : Walk (RT.ItvT K a xs.length) xs.length (fun H => SqT K H a xs) (fun i H x H' => H' = H ∧ xs[xs.length - 1 - i]? = some x) where
  goes := fun i _ hi q => ⟨hi, xs, xs[xs.length - 1 - i], q, by
    have : xs.length - 1 - i < xs.length := by omega
    simp [this]⟩
  stops := fun _ _ => Nat.le_refl _
  yields := fun i H v H' _ q y => ⟨y.1, y.2 xs q⟩
end
end RO

namespace RO
open PySem PySem.Spec PyProof.Rows L2

/-! ### heaps -/
/-- what is tracked, but at p, is kept -/
def But (p : Addr) (H H' : Hp) : Prop := ∀ b o, b ≠ p → H b = some o → H' b = some o
section
variable {K : PySem.W.Frag} {H H0 H1 H2 : Hp} {p q a c l : Addr} {o : HO} {xs : List V} {n m : Nat}
theorem But.refl : But p H H := fun _ _ _ h => h
theorem But.trans (h : But p H H1) (h2 : But p H1 H2) : But p H H2 := fun b u n e => h2 b u n (h b u n e)
theorem But.of_same (h : Same H H1) : But p H H1 := fun b u _ e => h b u e
theorem But.put : But p H (upd H p o) := fun b u n e => (upd_ne n).trans e
theorem But.new (h : But p H0 H) (hq : H q = none) : But p H0 (upd H q o) := fun b u n e => (upd_ne (ne_of_none (h b u n e) hq)).trans (h b u n e)
/-- a place that was free at the beginning may be written -/
theorem But.own (h : But p H0 H) (hl : H0 l = none) : But p H0 (upd H l o) := fun b u n e => (upd_ne (ne_of_none e hl)).trans (h b u n e)
theorem But.rd {u : HO} (h : But p H H1) (n : a ≠ p) (r : Rd H a u) : Rd H1 a u := by
  rcases r with r | ⟨o, r⟩
  · exact .inl (h _ _ n r)
  · exact .inr ⟨o, h _ _ n r⟩
theorem But.seqL (h : But p H H1) (n : a ≠ p) (r : SqL K H a xs) : SqL K H1 a xs := r.imp (h.rd n) id
theorem But.seqT (h : But p H H1) (n : a ≠ p) (r : SqT K H a xs) : SqT K H1 a xs := r.imp (h.rd n) id
theorem same_rd {u : HO} (h : Same H H1) (r : Rd H a u) : Rd H1 a u := by
  rcases r with r | ⟨o, r⟩
  · exact .inl (h _ _ r)
  · exact .inr ⟨o, h _ _ r⟩
theorem same_seqL (h : Same H H1) (r : SqL K H a xs) : SqL K H1 a xs := r.imp (same_rd h) id
theorem same_seqT (h : Same H H1) (r : SqT K H a xs) : SqT K H1 a xs := r.imp (same_rd h) id
theorem same_new (h : Same H0 H) (hq : H q = none) : Same H0 (upd H q o) := fun b u e => (upd_ne (ne_of_none (h b u e) hq)).trans (h b u e)
theorem same_own (h : Same H0 H) (hl : H0 l = none) : Same H0 (upd H l o) := fun b u e => (upd_ne (ne_of_none e hl)).trans (h b u e)

theorem alloc (hl : H l = none) (e : upd H l o = H1) : Same H H1 ∧ H1 l = some o := by
  subst e
  exact ⟨same_new (Same.refl _) hl, upd_same⟩

theorem owned (S : Same H0 H) (hl : H0 l = none) (e : upd H l o = H1) : Same H0 H1 ∧ H1 l = some o := by
  subst e
  exact ⟨same_own S hl, upd_same⟩

/-! ### the law's pen: a list of the script's cells, a place, a rest -/
def PenAt (H : Hp) (p c : Addr) (n : Nat) : Prop := ∃ at_ cy : Int, H p = some (.lst [.ref c, .int at_, .int cy]) ∧ 0 ≤ at_ ∧ at_ ≤ n ∧ 0 ≤ cy
def Cells (K : PySem.W.Frag) (H : Hp) (p c : Addr) : Prop := c ≠ p ∧ ∃ ns : List Int, SqL K H c (ns.map V.int) ∧ ns.length ≤ 63
/-- from H0 to H: the pen at p has gone on to n draws at most, all else is kept -/
structure Go (K : PySem.W.Frag) (p c : Addr) (H0 : Hp) (n : Nat) (H : Hp) : Prop where
  but : But p H0 H
  pen : PenAt H p c n
  cel : Cells K H p c
theorem Cells.but (h : Cells K H p c) (b : But p H H1) : Cells K H1 p c := by
  obtain ⟨ne, ns, r, l⟩ := h
  exact ⟨ne, ns, b.seqL ne r, l⟩
theorem PenAt.mono (h : PenAt H p c n) (hm : n ≤ m) : PenAt H p c m := by
  obtain ⟨i, j, e, h1, h2, h3⟩ := h
  exact ⟨i, j, e, h1, by omega, h3⟩
theorem Go.refl (h : PenAt H p c n) (hc : Cells K H p c) : Go K p c H n H := ⟨But.refl, h, hc⟩
theorem Go.self (g : Go K p c H0 n H) : Go K p c H n H := ⟨But.refl, g.pen, g.cel⟩
theorem Go.mono (g : Go K p c H0 n H) (hm : n ≤ m) : Go K p c H0 m H := ⟨g.but, g.pen.mono hm, g.cel⟩
theorem Go.trans (g : Go K p c H0 n H1) (g2 : Go K p c H1 m H2) : Go K p c H0 m H2 := ⟨g.but.trans g2.but, g2.pen, g2.cel⟩
theorem Go.tracked (g : Go K p c H0 n H) : ∃ o, H p = some o := by
  obtain ⟨_, _, e, _⟩ := g.pen
  exact ⟨_, e⟩
theorem Go.ne_new (g : Go K p c H0 n H) (hq : H q = none) : p ≠ q := by
  obtain ⟨o, e⟩ := g.tracked
  exact ne_of_none e hq
theorem Go.make {i j : Int} (hc : Cells K H0 p c) (b : But p H0 H) (e : H p = some (.lst [.ref c, .int i, .int j])) (h1 : 0 ≤ i) (h2 : i ≤ (n : Nat)) (h3 : 0 ≤ j) : Go K p c H0 n H := ⟨b, ⟨i, j, e, h1, h2, h3⟩, hc.but b⟩
theorem Go.free (g : Go K p c H0 n H) (hq : H q = none) : H0 q = none := by
  cases z : H0 q with
  | none => rfl
  | some o => exact absurd (g.but q o (Ne.symm (g.ne_new hq)) z) (by rw [hq]; exact nofun)
/-- a new object -/
theorem Go.new (g : Go K p c H0 n H) (hq : H q = none) : Go K p c H0 n (upd H q o) := by
  have hp := g.ne_new hq
  obtain ⟨i, j, e, r⟩ := id g.pen
  have b1 : But p H (upd H q o) := But.refl.new hq
  exact ⟨g.but.new hq, ⟨i, j, (upd_ne hp).trans e, r⟩, g.cel.but b1⟩
/-- an own object is written: it was free at the beginning; the cells aren't it -/
theorem Go.own (g : Go K p c H0 n H) (hl : H0 l = none) (hp : l ≠ p) (hc : Cells K H0 p c) : Go K p c H0 n (upd H l o) := by
  obtain ⟨i, j, e, r⟩ := id g.pen
  exact ⟨g.but.own hl, ⟨i, j, (upd_ne (Ne.symm hp)).trans e, r⟩, hc.but (g.but.own hl)⟩
theorem Go.same (g : Go K p c H0 n H) (h : Same H H1) : Go K p c H0 n H1 := by
  obtain ⟨i, j, e, r⟩ := id g.pen
  exact ⟨g.but.trans (But.of_same h), ⟨i, j, h _ _ e, r⟩, g.cel.but (But.of_same h)⟩
end

/-! ### numbers -/
theorem fmod_lt {a b : Int} (h : 0 < b) : Int.fmod a b < b := Int.fmod_lt_of_pos a h
theorem fmod_ge {a b : Int} (h : 0 < b) : 0 ≤ Int.fmod a b := Int.fmod_nonneg_of_pos a h
theorem fdiv_ge {a b : Int} (h : 0 ≤ a) (h2 : 0 ≤ b) : 0 ≤ Int.fdiv a b := Int.fdiv_nonneg h h2

theorem atI_fmod {α : Type} {xs : List α} {i : Int} (h : 0 < xs.length) : ∃ v, v ∈ xs ∧ atI xs (Int.fmod i xs.length) = some v := by
  have h0 : (0 : Int) < xs.length := by omega
  have g := fmod_ge (a := i) h0
  have l := fmod_lt (a := i) h0
  obtain ⟨j, e⟩ := Int.eq_ofNat_of_zero_le g
  rw [e] at l ⊢
  have hj : j < xs.length := by omega
  exact ⟨xs[j], List.getElem_mem hj, atI_nat (List.getElem?_eq_getElem hj)⟩
theorem atI_lt {α : Type} {xs : List α} {i : Int} (h0 : 0 ≤ i) (h : i < xs.length) : ∃ v, v ∈ xs ∧ atI xs i = some v := by
  obtain ⟨j, rfl⟩ := Int.eq_ofNat_of_zero_le h0
  have hj : j < xs.length := by omega
  exact ⟨xs[j], List.getElem_mem hj, atI_nat (List.getElem?_eq_getElem hj)⟩

/-! ### data whose repr is short -/
structure RepOk (d : PyData) (k n : Nat) : Prop where
  sh : d.showable = true
  nd : d.hasDict = false
  dp : d.depth ≤ k
  lv : d.leavesShort 400 = true
  cl : d.canLay0 = true
  bk : d.bulk ≤ n
theorem RepOk.mono {d : PyData} {k n k' n' : Nat} (h : RepOk d k n) (hk : k ≤ k') (hn : n ≤ n') : RepOk d k' n' := ⟨h.sh, h.nd, Nat.le_trans h.dp hk, h.lv, h.cl, Nat.le_trans h.bk hn⟩
theorem RepOk.fits {d : PyData} {k n : Nat} (h : RepOk d k n) (hn : n ≤ 40000) : d.shown.length ≤ sizeLine := by
  have e := PyData.shown_le_bulk 400 (by decide) d h.lv
  have b := h.bk
  have : (400 + 2) * d.bulk ≤ 402 * 40000 := Nat.mul_le_mul (by decide) (by omega)
  rw [sizeLine_eq]
  omega
theorem RepOk.none : RepOk .none 0 0 := ⟨rfl, rfl, Nat.le_refl _, by decide +kernel, rfl, Nat.le_refl _⟩
theorem RepOk.bool (b : Bool) : RepOk (.bool b) 0 0 := ⟨rfl, rfl, Nat.le_refl _, by cases b <;> decide +kernel, rfl, Nat.le_refl _⟩
theorem log2_small {i : Int} (h : i.natAbs < 2 ^ 398) : i.natAbs.log2 < 398 := by
  by_cases z : i.natAbs = 0
  · rw [z]
    decide
  · exact (Nat.log2_lt z).mpr h
theorem RepOk.int {i : Int} (h : i.natAbs < 2 ^ 398) : RepOk (.int i) 0 0 := by
  have l := log2_small h
  refine ⟨?_, rfl, Nat.le_refl _, ?_, rfl, Nat.le_refl _⟩
  · simp only [PyData.showable, decide_eq_true_eq]
    omega
  · have e := int_text_length_le (a := i) (k := 398) (by decide) l
    have e2 : (Str.ofString (toString i)).length = (toString i).length := PySem.ofString_length _
    have e3 : (PyData.int i).shown.length ≤ 400 := by
      show (Str.ofString (toString i)).length ≤ 400
      rw [e2]
      exact Nat.le_trans e (by decide)
    unfold PyData.leavesShort
    exact decide_eq_true e3
theorem RepOk.str {x : Str} {n : Nat} (h : x.length ≤ n) (hc : ∀ c ∈ x.cps.toList, c < 16 ^ 8) (ho : (PyData.str x).canLay0 = true) : RepOk (.str x) 0 n := by
  refine ⟨rfl, rfl, Nat.le_refl _, ?_, ho, h⟩
  simp only [PyData.leavesShort, List.all_eq_true, decide_eq_true_eq]
  exact hc
theorem rep_all {ds : List PyData} {k n : Nat} : (∀ d ∈ ds, RepOk d k n) → PyData.showableAll ds = true ∧ PyData.hasDictAll ds = false ∧ PyData.depthAll ds ≤ k ∧ PyData.leavesShortAll 400 ds = true ∧ PyData.canLayAll0 ds = true ∧ PyData.bulkAll ds ≤ ds.length * (n + 1) := by
  induction ds with
  | nil => intro _; exact ⟨rfl, rfl, Nat.zero_le _, rfl, rfl, Nat.zero_le _⟩
  | cons d r ih =>
    intro h
    obtain ⟨h1, h2, h3, h4, h6, h5⟩ := ih fun x hx => h x (List.mem_cons_of_mem _ hx)
    have q := h d (List.mem_cons_self ..)
    refine ⟨?_, ?_, ?_, ?_, ?_, ?_⟩
    · simp only [PyData.showableAll, q.sh, h1, Bool.and_self]
    · simp only [PyData.hasDictAll, q.nd, h2, Bool.or_self]
    · simp only [PyData.depthAll]
      exact Nat.max_le.mpr ⟨q.dp, h3⟩
    · simp only [PyData.leavesShortAll, q.lv, h4, Bool.and_self]
    · simp only [PyData.canLayAll0, q.cl, h6, Bool.and_self]
    · simp only [PyData.bulkAll, List.length_cons]
      have b := q.bk
      have e : (r.length + 1) * (n + 1) = r.length * (n + 1) + (n + 1) := Nat.succ_mul _ _
      omega
theorem RepOk.list {ds : List PyData} {k n : Nat} (h : ∀ d ∈ ds, RepOk d k n) : RepOk (.list ds) (k + 1) (ds.length * (n + 1)) := by
  obtain ⟨h1, h2, h3, h4, h6, h5⟩ := rep_all h
  exact ⟨by simpa only [PyData.showable] using h1, by simpa only [PyData.hasDict] using h2, by simp only [PyData.depth]; omega, by simpa only [PyData.leavesShort] using h4, by simpa only [PyData.canLay0] using h6, by simpa only [PyData.bulk] using h5⟩
theorem RepOk.tuple {ds : List PyData} {k n : Nat} (h : ∀ d ∈ ds, RepOk d k n) : RepOk (.tuple ds) (k + 1) (ds.length * (n + 1)) := by
  obtain ⟨h1, h2, h3, h4, h6, h5⟩ := rep_all h
  exact ⟨by simpa only [PyData.showable] using h1, by simpa only [PyData.hasDict] using h2, by simp only [PyData.depth]; omega, by simpa only [PyData.leavesShort] using h4, by simpa only [PyData.canLay0] using h6, by simpa only [PyData.bulk] using h5⟩

theorem RepOk.shaped {d : PyData} {k n : Nat} (h : RepOk d k n) (hk : k ≤ 64) : SeqAt.shaped d = true := by
  unfold SeqAt.shaped
  rw [h.cl, Bool.true_and]
  exact decide_eq_true (Nat.le_trans h.dp hk)
/-- repr(x): its text, by the data alone -/
def rRepr2 (K : PySem.W.Frag) : List V → Hp → VK → Prop := fun xs H Q => ∃ v d k n, xs = [v] ∧ Dp K H v d ∧ RepOk d k n ∧ k ≤ 40 ∧ n ≤ 40000 ∧ Q (.str d.shown) H
theorem call_reprD {X : Cx} (hG : X.A.guards = some []) (hu : X.A.units + 64 < cLine) : CallR X (.builtin "repr") (rRepr2 X.K) := by
  intro pins s σ H xs us Q I r h
  obtain ⟨v, d, k, n, e, hd, ok, hk, hn, q⟩ := h
  exact call_repr hG hu pins s σ H xs us Q I r ⟨v, d, e, hd, ok.sh, ok.nd, Nat.le_trans ok.dp hk, ok.fits hn, q⟩

/-! data that is read at one heap is read at each that keeps what is tracked -/
section
variable {K : PySem.W.Frag} {H H1 : Hp}
mutual
theorem dp_same (h : Same H H1) : ∀ (d : PyData) (v : V), Dp K H v d → Dp K H1 v d
  | .none, _, q => by
    cases q
    exact .non
  | .bool b, _, q => by
    cases q
    exact .bl b
  | .int i, _, q => by
    cases q
    exact .int i
  | .str x, _, q => by
    cases q
    exact .str x
  | .list ds, _, q => by
    cases q with
    | lst h1 h2 => exact .lst (same_seqL h h1) (dpAll_same h ds _ h2)
  | .tuple ds, _, q => by
    cases q with
    | tup h1 h2 => exact .tup (same_seqT h h1) (dpAll_same h ds _ h2)
  | .dict _, _, q => nomatch q
theorem dpAll_same (h : Same H H1) : ∀ (ds : List PyData) (vs : List V), DpAll K H vs ds → DpAll K H1 vs ds
  | [], _, q => by
    cases q
    exact .nil
  | d :: ds, _, q => by
    cases q with
    | cons h1 h2 => exact .cons (dp_same h d _ h1) (dpAll_same h ds _ h2)
end
/-- flat things as data -/
theorem dpAll_ints : ∀ ns : List Int, DpAll K H (ns.map V.int) (ns.map PyData.int)
  | [] => .nil
  | n :: r => .cons (.int n) (dpAll_ints r)
theorem dpAll_strs : ∀ ns : List Str, DpAll K H (ns.map V.str) (ns.map PyData.str)
  | [] => .nil
  | n :: r => .cons (.str n) (dpAll_strs r)
theorem DpAll.map {α : Type} {f : α → V} {g : α → PyData} : ∀ {l : List α}, (∀ x ∈ l, Dp K H (f x) (g x)) → DpAll K H (l.map f) (l.map g)
  | [], _ => .nil
  | x :: r, h => .cons (h x (List.mem_cons_self ..)) (DpAll.map fun y hy => h y (List.mem_cons_of_mem _ hy))
end
end RO

namespace RO
open PySem PySem.Spec PyProof.Rows L2

/-! ### short texts -/
def TOk (k : Nat) (t : Str) : Prop := t.length ≤ k ∧ ∀ c ∈ t.cps.toList, c < 128
theorem TOk.mono {k j : Nat} {t : Str} (h : TOk k t) (l : k ≤ j) : TOk j t := ⟨Nat.le_trans h.1 l, h.2⟩
theorem str_len (t : Str) : t.length = t.cps.toList.length := by
  show t.cps.size = _
  simp
theorem cut_ok {k : Nat} {t : Str} (h : TOk k t) (lo hi : Option Int) : TOk k (cutS t lo hi) := by
  refine ⟨?_, fun c hc => ?_⟩
  · have e := str_len (cutS t lo hi)
    have e2 := str_len t
    have l := h.1
    rw [e]
    unfold cutS
    simp only [List.length_take, List.length_drop]
    omega
  · unfold cutS at hc
    simp only at hc
    exact h.2 c (List.mem_of_mem_drop (List.mem_of_mem_take hc))
theorem codes_app (a b : Str) : (a ++ b).cps.toList = a.cps.toList ++ b.cps.toList := by
  show (a.cps ++ b.cps).toList = _
  simp
theorem codes_join0 : ∀ l : List Str, (Str.join (Str.ofString "") l).cps.toList = l.flatMap (·.cps.toList)
  | [] => rfl
  | [x] => by
    show x.cps.toList = _
    simp
  | x :: y :: r => by
    show (x ++ Str.ofString "" ++ Str.join (Str.ofString "") (y :: r)).cps.toList = _
    rw [codes_app, codes_app, codes_join0 (y :: r)]
    have : (Str.ofString "").cps.toList = [] := by decide +kernel
    rw [this, List.append_nil]
    simp only [List.flatMap_cons]
/-- signs put together -/
theorem join_ok {l : List Str} (h : ∀ x ∈ l, TOk 1 x) : TOk l.length (Str.join (Str.ofString "") l) := by
  refine ⟨?_, fun c hc => ?_⟩
  · rw [str_len, codes_join0]
    induction l with
    | nil => exact Nat.le_refl _
    | cons x r ih =>
      have a := (h x (List.mem_cons_self ..)).1
      rw [str_len] at a
      have b := ih fun y hy => h y (List.mem_cons_of_mem _ hy)
      rw [List.flatMap_cons, List.length_append, List.length_cons]
      omega
  · rw [codes_join0] at hc
    obtain ⟨x, hx, hc⟩ := List.mem_flatMap.mp hc
    exact (h x hx).2 c hc
theorem RepOk.tok {k : Nat} {t : Str} (h : TOk k t) : RepOk (.str t) 0 k := by
  refine RepOk.str h.1 (fun c hc => Nat.lt_of_lt_of_le (h.2 c hc) (by decide)) ?_
  simp only [PyData.canLay0, PyData.strOk, ← Array.all_toList, List.all_eq_true, decide_eq_true_eq]
  exact fun c hc => Nat.lt_of_lt_of_le (h.2 c hc) (by decide)

/-! ### rows -/
/-- what a row bears -/
inductive What where
  | order (i : Int)
  | name (t : Str)
  deriving DecidableEq
def What.v : What → V
  | .order i => .int i
  | .name t => .str t
def What.d : What → PyData
  | .order i => .int i
  | .name t => .str t
theorem What.v_inj {a b : What} (h : a.v = b.v) : a = b := by
  cases a <;> cases b <;> simp_all [What.v]
theorem What.dp {K : PySem.W.Frag} {H : Hp} (x : What) : Dp K H x.v x.d := by
  cases x with
  | order i => exact .int i
  | name t => exact .str t
theorem What.rep {x : What} (h : (∃ i : Int, x = .order i ∧ -4 ≤ i ∧ i ≤ 4) ∨ ∃ t, x = .name t ∧ TOk 8 t) : RepOk x.d 0 8 := by
  rcases h with ⟨i, rfl, h1, h2⟩ | ⟨t, rfl, h⟩
  · exact (RepOk.int (by omega)).mono (Nat.le_refl _) (by omega)
  · exact RepOk.tok h
theorem scal_what (x y : What) : scal x.v y.v = true := by cases x <;> cases y <;> rfl
theorem What.flat (x : What) : flatV x.v = true := by cases x <;> rfl
structure Row where
  m : Int
  l : Str
  w : What
def lines6 : List Str := ["port", "star", "down", "aport", "astar", "up"]
def tubes : List Str := ["down", "up"]
/-- a row as DOC asks -/
structure Row.Ok (r : Row) : Prop where
  m0 : 0 ≤ r.m
  m1 : r.m ≤ 99999
  ln : r.l ∈ lines6
  wh : (r.l ∈ tubes ∧ ∃ t, r.w = .name t ∧ TOk 8 t) ∨ (r.l ∉ tubes ∧ ∃ i, r.w = .order i ∧ -4 ≤ i ∧ i ≤ 4)
theorem lines6_ok : ∀ l ∈ lines6, TOk 8 l := by
  intro l h
  have h2 : l = "port" ∨ l = "star" ∨ l = "down" ∨ l = "aport" ∨ l = "astar" ∨ l = "up" := by simpa [lines6] using h
  rcases h2 with rfl | rfl | rfl | rfl | rfl | rfl <;> exact ⟨by decide +kernel, by decide +kernel⟩
def Row.d (r : Row) : PyData := .tuple [.int r.m, .str r.l, r.w.d]
theorem Row.Ok.rep {r : Row} (h : r.Ok) : RepOk r.d 1 27 := by
  refine (RepOk.tuple (k := 0) (n := 8) fun d hd => ?_).mono (Nat.le_refl _) (by show 3 * 9 ≤ 27; omega)
  have z : d = .int r.m ∨ d = .str r.l ∨ d = r.w.d := by simpa using hd
  rcases z with rfl | rfl | rfl
  · exact (RepOk.int (by have := h.m0; have := h.m1; omega)).mono (Nat.le_refl _) (by omega)
  · exact RepOk.tok (lines6_ok _ h.ln)
  · refine What.rep ?_
    rcases h.wh with ⟨_, t, e, q⟩ | ⟨_, i, e, q1, q2⟩
    · exact .inr ⟨t, e, q⟩
    · exact .inl ⟨i, e, q1, q2⟩

/-- the row r stands at a -/
def RowAt (K : PySem.W.Frag) (H : Hp) (a : Addr) (r : Row) : Prop := SqT K H a [.int r.m, .str r.l, r.w.v]
/-- rows at places -/
inductive RowsAt (K : PySem.W.Frag) (H : Hp) : List Addr → List Row → Prop
  | nil : RowsAt K H [] []
  | cons {a : Addr} {r : Row} {as : List Addr} {rs : List Row} : RowAt K H a r → RowsAt K H as rs → RowsAt K H (a :: as) (r :: rs)
/-- the log rs stands at t -/
def LogAt (K : PySem.W.Frag) (H : Hp) (t : Addr) (rs : List Row) : Prop := ∃ as : List Addr, SqT K H t (as.map V.ref) ∧ RowsAt K H as rs
section
variable {K : PySem.W.Frag} {H H1 : Hp} {t a : Addr} {as : List Addr} {rs : List Row} {r : Row}
theorem RowsAt.length (h : RowsAt K H as rs) : as.length = rs.length := by
  induction h with
  | nil => rfl
  | cons _ _ ih => exact congrArg (· + 1) ih
theorem RowsAt.get (h : RowsAt K H as rs) : ∀ {i : Nat} {r : Row}, rs[i]? = some r → ∃ a, as[i]? = some a ∧ RowAt K H a r := by
  induction h with
  | nil => intro i r e; simp at e
  | cons h1 _ ih =>
    intro i r e
    cases i with
    | zero =>
      simp at e
      subst e
      exact ⟨_, rfl, h1⟩
    | succ i => exact ih (by simpa using e)
theorem RowsAt.get' (h : RowsAt K H as rs) : ∀ {i : Nat} {a : Addr}, as[i]? = some a → ∃ r, rs[i]? = some r ∧ RowAt K H a r := by
  induction h with
  | nil => intro i r e; simp at e
  | cons h1 _ ih =>
    intro i r e
    cases i with
    | zero =>
      simp at e
      subst e
      exact ⟨_, rfl, h1⟩
    | succ i => exact ih (by simpa using e)
theorem RowsAt.snoc (h : RowsAt K H as rs) (h1 : RowAt K H a r) : RowsAt K H (as ++ [a]) (rs ++ [r]) := by
  induction h with
  | nil => exact .cons h1 .nil
  | cons h2 _ ih => exact .cons h2 ih
theorem RowsAt.imp (h : RowsAt K H as rs) (f : ∀ a r, RowAt K H a r → RowAt K H1 a r) : RowsAt K H1 as rs := by
  induction h with
  | nil => exact .nil
  | cons h2 _ ih => exact .cons (f _ _ h2) ih
theorem RowsAt.same (h : RowsAt K H as rs) (s : Same H H1) : RowsAt K H1 as rs := h.imp fun _ _ q => same_seqT s q
theorem seqT_lst {p : Addr} {xs ys : List V} (h : SqT K H a xs) (hp : H p = some (.lst ys)) (b : But p H H1) : SqT K H1 a xs := by
  rcases h with h | h
  · have n : a ≠ p := by
      rcases h with h | ⟨o, h⟩
      · exact ne_of h hp (by intro z; cases z)
      · exact ne_of h hp (by intro z; cases z)
    exact .inl (b.rd n h)
  · exact .inr h
theorem seqT_go {p c : Addr} {n : Nat} {xs : List V} (h : SqT K H a xs) (hp : PenAt H p c n) (b : But p H H1) : SqT K H1 a xs := by
  obtain ⟨_, _, e, _⟩ := hp
  exact seqT_lst h e b
theorem RowsAt.lst {p : Addr} {ys : List V} (h : RowsAt K H as rs) (hp : H p = some (.lst ys)) (b : But p H H1) : RowsAt K H1 as rs := h.imp fun _ _ q => seqT_lst q hp b
theorem RowsAt.go {p c : Addr} {n : Nat} (h : RowsAt K H as rs) (hp : PenAt H p c n) (b : But p H H1) : RowsAt K H1 as rs := by
  obtain ⟨_, _, e, _⟩ := hp
  exact h.lst e b
theorem LogAt.go {p c : Addr} {n : Nat} (h : LogAt K H t rs) (hp : PenAt H p c n) (b : But p H H1) : LogAt K H1 t rs := by
  obtain ⟨as, h1, h2⟩ := h
  obtain ⟨_, _, e, _⟩ := id hp
  exact ⟨as, seqT_lst h1 e b, h2.go hp b⟩
theorem RowsAt.take (h : RowsAt K H as rs) (n : Nat) : RowsAt K H (as.take n) (rs.take n) := by
  induction h generalizing n with
  | nil => simp; exact .nil
  | cons h2 _ ih =>
    cases n with
    | zero => exact .nil
    | succ n => exact .cons h2 (ih n)
theorem RowsAt.drop (h : RowsAt K H as rs) (n : Nat) : RowsAt K H (as.drop n) (rs.drop n) := by
  induction h generalizing n with
  | nil => simp; exact .nil
  | cons h2 h3 ih =>
    cases n with
    | zero => exact .cons h2 h3
    | succ n => exact ih n
theorem LogAt.same (h : LogAt K H t rs) (s : Same H H1) : LogAt K H1 t rs := by
  obtain ⟨as, h1, h2⟩ := h
  exact ⟨as, same_seqT s h1, h2.same s⟩
theorem RowAt.dp (h : RowAt K H a r) : Dp K H (.ref a) r.d := .tup h (.cons (.int _) (.cons (.str _) (.cons r.w.dp .nil)))
theorem RowsAt.dp (h : RowsAt K H as rs) : DpAll K H (as.map V.ref) (rs.map Row.d) := by
  induction h with
  | nil => exact .nil
  | cons h2 _ ih => exact .cons h2.dp ih
theorem LogAt.dp (h : LogAt K H t rs) : Dp K H (.ref t) (.tuple (rs.map Row.d)) := by
  obtain ⟨as, h1, h2⟩ := h
  exact .tup h1 h2.dp
theorem log_rep (h : ∀ r ∈ rs, r.Ok) (l : rs.length ≤ 41) : RepOk (.tuple (rs.map Row.d)) 2 1148 := by
  refine (RepOk.tuple (k := 1) (n := 27) fun d hd => ?_).mono (Nat.le_refl _) ?_
  · obtain ⟨r, hr, rfl⟩ := List.mem_map.mp hd
    exact (h r hr).rep
  · rw [List.length_map]
    omega
end
theorem ints_rep {ns : List Int} {k : Nat} (h : ∀ n ∈ ns, n.natAbs < 2 ^ 398) (l : ns.length ≤ k) : RepOk (.list (ns.map PyData.int)) 1 k := by
  refine (RepOk.list (k := 0) (n := 0) fun d hd => ?_).mono (Nat.le_refl _) ?_
  · obtain ⟨r, hr, rfl⟩ := List.mem_map.mp hd
    exact RepOk.int (h r hr)
  · rw [List.length_map]
    omega
theorem cut_take (xs : List V) (i : Nat) (h : i ≤ xs.length) : cutV xs none (some (i : Int)) = xs.take i := by
  unfold cutV
  rw [HT.sIx_none, HT.sIx_nat, List.drop_zero, Nat.min_eq_left h, Nat.sub_zero]
theorem cut_drop (xs : List V) (i : Nat) : cutV xs (some (i : Int)) none = xs.drop i := by
  unfold cutV
  rw [HT.sIx_none, HT.sIx_nat]
  by_cases h : i ≤ xs.length
  · rw [Nat.min_eq_left h, List.take_of_length_le (by rw [List.length_drop]; exact Nat.le_refl _)]
  · rw [Nat.min_eq_right (by omega), List.drop_length, List.drop_eq_nil_of_le (by omega)]
    simp
theorem cut_not (xs : List V) (i : Nat) (h : i < xs.length) : ¬(HT.sIx xs.length 0 none = 0 ∧ HT.sIx xs.length xs.length (some (i : Int)) = xs.length) := fun z => by
  rw [HT.sIx_nat] at z
  omega
/-! ### the rules that name the written part, with it said: they stand within comprehensions, too -/
section
variable (K : PySem.W.Frag) {X : Cx}
theorem kx_seq (h : X.K = K := by rfl) : IxR X (rIx K) := by
  subst h
  exact ix_seq
theorem kx_list (h : X.K = K := by rfl) : IxR X (rIxL K) := by
  subst h
  exact ix_list
theorem kx_tup (h : X.K = K := by rfl) : IxR X (rIxT K) := by
  subst h
  exact ix_tup
theorem k_slL (h : X.K = K := by rfl) : SlR X (rSlL K) := by
  subst h
  exact sl_list
theorem k_slT (h : X.K = K := by rfl) : SlR X (rSlT K) := by
  subst h
  exact sl_tup
theorem k_slA (h : X.K = K := by rfl) : SlR X (rSlA K) := by
  subst h
  exact sl_tupA
theorem k_in (h : X.K = K := by rfl) : OpR X (compareOp .In) (rIn K false) := by
  subst h
  exact op_in_seq
theorem k_notin (h : X.K = K := by rfl) : OpR X (compareOp .NotIn) (rIn K true) := by
  subst h
  exact op_notIn_seq
def rLen (K : PySem.W.Frag) : List V → Hp → VK → Prop := fun xs H Q => ∃ p ys, xs = [.ref p] ∧ (SqL K H p ys ∨ SqT K H p ys) ∧ Q (.int ys.length) H
theorem k_len (h : X.K = K := by rfl) : CallR X (.builtin "len") (rLen K) := by
  subst h
  exact call_len_seq
theorem k_isi (h : X.K = K := by rfl) : CallR X (.builtin "isinstance") (rIsi K) := by
  subst h
  exact call_isi
theorem k_eqD (hu : X.A.units + 64 < cLine) (h : X.K = K := by rfl) : OpR X (compareOp .Eq) (rEqD K) := by
  subst h
  exact op_eqD hu
theorem k_neD (hu : X.A.units + 64 < cLine) (h : X.K = K := by rfl) : OpR X (compareOp .NotEq) (rNeD K) := by
  subst h
  exact op_neD hu
theorem k_repr (hG : X.A.guards = some []) (hu : X.A.units + 64 < cLine) (h : X.K = K := by rfl) : CallR X (.builtin "repr") (rRepr2 K) := by
  subst h
  exact call_reprD hG hu
def rTupOf (K : PySem.W.Frag) : List V → Hp → VK → Prop := fun xs H Q => ∃ p ys, xs = [.ref p] ∧ ((SqL K H p ys ∧ ∀ l, H l = none → Q (.ref l) (upd H l (.tup ys))) ∨ (SqT K H p ys ∧ Q (.ref p) H))
theorem k_tupOf (h : X.K = K := by rfl) : CallR X (.type "tuple") (rTupOf K) := by
  subst h
  exact call_tuple_of
def rListOf (K : PySem.W.Frag) : List V → Hp → VK → Prop := fun xs H Q => ∃ p ys, xs = [.ref p] ∧ (SqL K H p ys ∨ SqT K H p ys) ∧ ∀ l, H l = none → Q (.ref l) (upd H l (.lst ys))
theorem k_listOf (h : X.K = K := by rfl) : CallR X (.type "list") (rListOf K) := by
  subst h
  exact call_list_of
theorem k_isiT (h : X.K = K := by rfl) : CallR X (.builtin "isinstance") (rIsiT K) := by
  subst h
  exact call_isiT
theorem k_all (hc : X.calm = true) (h : X.K = K := by rfl) : CallR X (.builtin "all") (rAll K) := by
  subst h
  exact cr_all hc
theorem k_any (hc : X.calm = true) (h : X.K = K := by rfl) : CallR X (.builtin "any") (rAny K) := by
  subst h
  exact cr_any hc
theorem k_sorted (h : X.K = K := by rfl) : CallR X (.builtin "sorted") (rSortedI K) := by
  subst h
  exact cr_sortedI
theorem k_catT (h : X.K = K := by rfl) : OpR X (binaryOp .Add) (rCatT K) := by
  subst h
  exact op_catT
theorem k_pgT {es : List Expr} {k : Nat} {t : TGs} {n : Nat} {pos : Pos} (hc : X.calm = true) (h : PGs X es t) (hn : (assignEach es X.env).length = n := by rfl) (hs : (assignEach es X.env).findIdx? (fun p => p.1) = none := by rfl) (hK : X.K = K := by rfl) : PG X (.Tuple es k pos) (gTup K n t) := by
  subst hK
  exact pg_tup hc h hn hs
theorem k_piL {tg l : Expr} {tl : TE} (hl : PE X l tl) (h : X.K = K := by rfl) : PI X tg l (iList K tl) := by
  subst h
  exact pi_list hl
theorem k_piT {tg l : Expr} {tl : TE} (hl : PE X l tl) (h : X.K = K := by rfl) : PI X tg l (iTup K tl) := by
  subst h
  exact pi_tup hl
end
/-! ### lists and tuples alike -/
/-- a list or a tuple is read -/
def SqE (K : PySem.W.Frag) (H : Hp) (a : Addr) (xs : List V) : Prop := SqL K H a xs ∨ SqT K H a xs
def gEither (K : PySem.W.Frag) (n : Nat) (t : TGs) : TG := fun v σ H Q => ∃ a xs, v = .ref a ∧ SqE K H a xs ∧ xs.length = n ∧ t xs σ H Q
/-- x[i], x a list or a tuple -/
def rIxE (K : PySem.W.Frag) : R2 := fun x y H Q => ∃ p xs i v, x = .ref p ∧ y = .int i ∧ SqE K H p xs ∧ atI xs i = some v ∧ Q v H
theorem kx_E (K : PySem.W.Frag) {X : Cx} (hK : X.K = K := by rfl) : IxR X (rIxE K) := by
  subst hK
  rintro value slice pins s σ H x y v u Q I rx ry ⟨p, xs, i, z, e1, e2, hq | hq, e3, q⟩ hs
  · exact ix_list value slice pins s σ H x y v u Q I rx ry ⟨p, xs, i, z, e1, e2, hq, e3, q⟩ hs
  · exact ix_tup value slice pins s σ H x y v u Q I rx ry ⟨p, xs, i, z, e1, e2, hq, e3, q⟩ hs
/-- for x in v, v a name of a list or of a tuple -/
def iEither (K : PySem.W.Frag) (i : Nat) : TI := fun σ H R => ∃ a, σ[i]? = some (some (V.ref a)) ∧ (((∃ xs, SqL K H a xs) ∧ R (Itl K a) H) ∨ ((∃ xs, SqT K H a xs) ∧ R (Itt K a) H))
theorem k_piV (K : PySem.W.Frag) {X : Cx} {tg l : Expr} {i : Nat} (hl : PE X l (tVar i)) (hK : X.K = K := by rfl) : PI X tg l (iEither K i) := by
  subst hK
  constructor
  rintro pins s σ H R I ⟨a, e, ⟨hq, q⟩ | ⟨hq, q⟩⟩
  · exact (pi_list hl).run pins s σ H R I ⟨_, e, a, rfl, hq, q⟩
  · exact (pi_tup hl).run pins s σ H R I ⟨_, e, a, rfl, hq, q⟩
section
variable {X : Cx} {K : PySem.W.Frag} {H H1 : Hp} {a p : Addr} {xs : List V}
theorem SqE.same (h : SqE K H a xs) (s : Same H H1) : SqE K H1 a xs := h.imp (same_seqL s) (same_seqT s)
theorem k_pgE (K : PySem.W.Frag) {es : List Expr} {k : Nat} {t : TGs} {n : Nat} {pos : Pos} (hc : X.calm = true) (h : PGs X es t) (hn : (assignEach es X.env).length = n := by rfl) (hs : (assignEach es X.env).findIdx? (fun p => p.1) = none := by rfl)
    (hK : X.K = K := by rfl) : PG X (.Tuple es k pos) (gEither K n t) := by
  subst hK
  constructor
  rintro pins s σ H v u Q I r ⟨a, xs, e1, hq | hq, hl, hw⟩
  · exact (pg_unl hc h hn hs).run pins s σ H v u Q I r ⟨a, xs, e1, hq, hl, hw⟩
  · exact (pg_tup hc h hn hs).run pins s σ H v u Q I r ⟨a, xs, e1, hq, hl, hw⟩
theorem seqT_ty (h : SqT K H a xs) : TyX K H (.ref a) (.type "tuple") := by
  rcases h with (h | ⟨o, h⟩) | ⟨o, its, n, e, c, _⟩
  · exact .base (.tup h)
  · exact .fTuple h
  · exact .kTuple e c
theorem seqL_ty (h : SqL K H a xs) : TyX K H (.ref a) (.type "list") := by
  rcases h with (h | ⟨o, h⟩) | ⟨o, its, n, e, c, _⟩
  · exact .base (.lst h)
  · exact .base (.frz h)
  · exact .kList e c
end
/-! ### defs with defaults -/
section
variable {P : Program} {w : World} {K : PySem.W.Frag} {mg : Str → Option Value} {base : Heap} {x qual : Str} {params : Arguments} {body : List Stmt} {scope : Scope} {dvs : List V} {f : Addr} {fd : FuncData} {ps : List Str}
theorem FunD_okN {N : List Str} {k : Nat} {sp : Sp} (F : FunD K x qual params body scope dvs [] f fd) (S : FnScope N ps scope) (len : ∀ vs H Q E, sp vs H Q E → vs.length = ps.length)
    (hb : ∀ (cdv : Value) (A : Around) (outer : List Env) (s : Shared) (H : Hp) (vs : List V) (Q : VK) (E : XK), Room k (A.deeper (envOfC qual scope s.heap.objs.size f cdv)) → sp vs H Q E →
      ∃ t, PSs (cxOf CX0 P w K mg base N qual scope f cdv A outer s H E).nox body t ∧ t { nx := fun _ H' => Q .non H', rt := Q } (start N vs) H) : FnOk P w K mg base CX0 (k + 1) f fd ps sp :=
  F.ok S len fun cdv A outer s H vs Q E hr h => by
    obtain ⟨t, h1, h2⟩ := hb cdv A outer s H vs Q E hr h
    exact ⟨t, h1.nox, h2⟩
theorem FunD_mk {oc : Value} {od an : Option Addr} {T : Addr} {kV doc pm cdv ct : Value} {osl : Array (Option Value)} {tc : Value} {td : Option Addr} {its : Array Value} {n : Nat} {tsl : Array (Option Value)}
    (l : K.lookup f = some ⟨oc, od, .func (PySem.W.fnOf x qual params body scope (.ref T) kV doc pm an cdv ct), osl⟩) (c : PySem.W.codeIn K cdv qual = true) (k : PySem.W.keepIn K (.ref f) = true)
    (lt : K.lookup T = some ⟨tc, td, .seq its n, tsl⟩) (v : Vals dvs its.toList) (hd : dvs ≠ []) : FunD K x qual params body scope dvs [] f (PySem.W.fnOf x qual params body scope (.ref T) kV doc pm an cdv ct) :=
  ⟨⟨oc, od, _, kV, doc, pm, an, cdv, ct, osl, rfl, l, c, .inr ⟨hd, T, _, its.toList, n, rfl, lt, by simp, v⟩, .inl rfl⟩, k⟩
/-- keywords, the defaults filling up what lacks -/
theorem FunD_kb (F : FunD K x qual params body scope dvs [] f fd) (hd : dvs ≠ []) (ks : List Str) (g : List Value → List Value → List Value → List Value) (gV : List V → List V → List V → List V)
    (rel : ∀ {vs ds zs : List V} {us its ws : List Value}, Vals vs us → Vals ds its → Vals zs ws → Vals (gV vs ds zs) (g us its ws))
    (h : ∀ (T : Addr) (kV doc pm : Value) (an : Option Addr) (cdv ct : Value) (us its ws : List Value), its.length = dvs.length → (g us its ws).length = ps.length →
      ∃ k, bindArgs (PySem.W.fnOf x qual params body scope (.ref T) kV doc pm an cdv ct) ⟨us, ks.zip ws⟩ = seqItems? (.ref T) >>= k ∧ k (some its.toArray) = pure (ps.zip (g us its ws))) :
    ∃ its : List Value, KBinds K fd ps ks (fun us ws => g us its ws) (fun vs zs => gV vs dvs zs) := by
  obtain ⟨oc, od, dV, kV, doc, pm, an, cdv, ct, osl, e, lk, hcd, hD, _⟩ := F.ex
  subst e
  rcases hD with ⟨e, _⟩ | ⟨_, T, o, its, m, rfl, lT, oT, rT⟩
  · exact absurd e hd
  · refine ⟨its, fun s us ws X hl => ?_, fun r1 r2 => rel r1 rT r2⟩
    obtain ⟨k, e1, e2⟩ := h T kV doc pm an cdv ct us its ws rT.length.symm hl
    refine BindsTo.of_looks fun M => ?_
    rw [e1]
    exact looks_items X lT oT (.of_pure e2)
end
end RO

namespace RO
open PySem PySem.Spec PyProof.Rows L2

/-! ### dicts of at most one pair, as data -/
/-- a number or a text, as data -/
inductive Sc : V → PyData → Prop
  | int (i : Int) : Sc (.int i) (.int i)
  | str (t : Str) : Sc (.str t) (.str t)
/-- data, or a small dict -/
inductive Dq (K : PySem.W.Frag) (H : Hp) : V → PyData → Prop
  | dp {v : V} {d : PyData} {k n : Nat} : Dp K H v d → RepOk d k n → k ≤ 40 → n ≤ 40000 → Dq K H v d
  | d0 {a : Addr} : H a = some (.dK []) → Dq K H (.ref a) (.dict [])
  | d1 {a : Addr} {t : Str} {x : V} {e : PyData} {n : Nat} : H a = some (.dK [(.inr t, x)]) → Sc x e → RepOk e 0 n → n ≤ 1000 → TOk 8 t → Dq K H (.ref a) (.dict [(.str t, e)])
theorem Dq.same {K : PySem.W.Frag} {H H1 : Hp} {v : V} {d : PyData} (h : Dq K H v d) (s : Same H H1) : Dq K H1 v d := by
  cases h with
  | dp h1 h2 h3 h4 => exact .dp (dp_same s _ _ h1) h2 h3 h4
  | d0 e => exact .d0 (s _ _ e)
  | d1 e a b c l => exact .d1 (s _ _ e) a b c l
theorem shown_short {d : PyData} {k n : Nat} (h : RepOk d k n) (hn : n ≤ 1000) : d.shown.length ≤ 402 * 1001 := by
  have e := PyData.shown_le_bulk 400 (by decide) d h.lv
  have b := h.bk
  have : (400 + 2) * d.bulk ≤ 402 * 1000 := Nat.mul_le_mul (by decide) (by omega)
  omega
theorem str_app (a b : Str) : (a ++ b).length = a.length + b.length := by
  rw [str_len, str_len, str_len, codes_app, List.length_append]
/-- repr(x), x data or a small dict -/
def rRepr4 (K : PySem.W.Frag) : List V → Hp → VK → Prop := fun xs H Q => ∃ v d, xs = [v] ∧ Dq K H v d ∧ Q (.str d.shown) H
theorem sys_ne {a : Addr} (h : (a == sysModules) = false) : a ≠ sysModules := fun z => by
  rw [z] at h
  simp at h
theorem call_repr4 {X : Cx} (hG : X.A.guards = some []) (hu : X.A.units + 64 < cLine) : CallR X (.builtin "repr") (rRepr4 X.K) := by
  intro pins s σ H xs us Q I r h
  obtain ⟨v, d, e, hd, q⟩ := h
  cases hd with
  | dp h1 h2 h3 h4 => exact call_reprD hG hu pins s σ H xs us Q I r ⟨v, d, _, _, e, h1, h2, h3, h4, q⟩
  | @d0 a ha =>
    subst e
    rw [Vals.ref1 r]
    have fin : ∀ (h' : Heap) (u : Tok) (tk : Nat), (∀ b o, s.heap.get? b = some o → h'.get? b = some o) → EP X pins σ Q (.str (PyData.dict []).shown u) { s with heap := h', toks := tk } :=
      fun h' u tk hk => ⟨.str (PyData.dict []).shown, H, I.un (Un.kept hk) (I.hok.kept hk), ⟨u, rfl⟩, q⟩
    obtain ⟨_, hs, vs, rel, o, es, ep, ho, hx, hdat, hk, hp, _⟩ := dk_of I.hok ha
    cases rel
    have he : es.toList = [] := by
      have := hp.length
      exact List.eq_nil_of_length_eq_zero this
    have rd : Reads s.heap (.ref a) (.dict []) (a :: [] ++ []) := Reads.dict ho hx.1 hdat (by rw [he]; exact .nil) (by rw [he]; exact .nil)
    exact repr_of_reads' rd (by decide) (fun _ => by simpa using Ne.symm (sys_ne hs)) hG (by show _ + (1 + 1) < _; omega) (fun _ _ z => z) fin (by decide +kernel)
  | @d1 a t x e' n ha hsc hr hn ht =>
    subst e
    rw [Vals.ref1 r]
    have hts := RepOk.tok ht
    have hsh : (PyData.dict [(.str t, e')]).showable = true := by
      simp [PyData.showable, PyData.showableKv, hr.sh]
    have hdp : (PyData.dict [(.str t, e')]).depth ≤ 1 := by
      have := hr.dp
      simp [PyData.depth, PyData.depthKv]
      omega
    have hlen : (PyData.dict [(.str t, e')]).shown.length ≤ sizeLine := by
      have l1 := shown_short hr hn
      have l2 := shown_short hts (by decide)
      rw [PyData.shown_dict]
      simp only [PyData.shownKv, Str.join]
      simp only [str_app]
      have c1 : ("{" : Str).length = 1 := by decide +kernel
      have c2 : ("}" : Str).length = 1 := by decide +kernel
      have c3 : (": " : Str).length = 2 := by decide +kernel
      rw [c1, c2, c3, sizeLine_eq]
      omega
    have fin : ∀ (h' : Heap) (u : Tok) (tk : Nat), (∀ b o, s.heap.get? b = some o → h'.get? b = some o) → EP X pins σ Q (.str (PyData.dict [(.str t, e')]).shown u) { s with heap := h', toks := tk } :=
      fun h' u tk hk => ⟨.str (PyData.dict [(.str t, e')]).shown, H, I.un (Un.kept hk) (I.hok.kept hk), ⟨u, rfl⟩, q⟩
    obtain ⟨_, hs, vs, rel, o, es, ep, ho, hx, hdat, hk, hp, _⟩ := dk_of I.hok ha
    cases rel with
    | @cons _ qv _ _ r1 r2 =>
      cases r2
      obtain ⟨er, rx⟩ := r1
      generalize hes : es.toList = el at hp
      cases hp with
      | @cons en _ _ _ p1 p2 p3 =>
        cases p3
        obtain ⟨_, _, z, _⟩ | ⟨y, tk, z, ek⟩ := keyIs_shape p1
        · rw [← er] at z
          cases z
        · rw [← er] at z
          cases z
          have rv : Reads s.heap en.val e' [] := by
            rw [p2]
            cases hsc with
            | int i =>
              obtain ⟨tt, ee⟩ := (show ∃ tt, qv.2 = Value.int i tt from rx)
              rw [ee]
              exact .int i tt
            | str y =>
              obtain ⟨tt, ee⟩ := (show ∃ tt, qv.2 = Value.str y tt from rx)
              rw [ee]
              exact .str y tt
          have rk : Reads s.heap en.key (.str t) [] := by
            rw [ek]
            exact .str t tk
          have rd : Reads s.heap (.ref a) (.dict [(.str t, e')]) (a :: ([] ++ []) ++ ([] ++ [])) := Reads.dict ho hx.1 hdat (by rw [hes]; exact .cons rk .nil) (by rw [hes]; exact .cons rv .nil)
          exact repr_of_reads' rd hsh (fun _ => by simpa using Ne.symm (sys_ne hs)) hG (by omega) (fun _ _ z => z) fin hlen
/-! ### texts of numbers, letters -/
theorem int_tok {i : Int} {k : Nat} (h : i.natAbs < 2 ^ k) (hk : 0 < k) : TOk (k + 1) (toString i : String) := by
  refine ⟨?_, fun c hc => ?_⟩
  · have l : i.natAbs.log2 < k := by
      by_cases z : i.natAbs = 0
      · rw [z]
        have : Nat.log2 0 = 0 := by decide
        omega
      · exact (Nat.log2_lt z).mpr h
    have e := int_text_length_le (a := i) hk l
    have e2 : (Str.ofString (toString i)).length = (toString i).length := PySem.ofString_length _
    show (Str.ofString (toString i)).length ≤ k + 1
    omega
  · by_cases z : c ≠ 45 ∧ (c < 48 ∨ 57 < c)
    · exact absurd hc (int_text_free' c z i)
    · omega
def rStrOf : List V → Hp → VK → Prop := fun xs H Q => (∃ i, xs = [.int i] ∧ i.natAbs.log2 < 1920 ∧ Q (.str (toString i : String)) H) ∨ ∃ a, xs = [.str a] ∧ Q (.str a) H
theorem k_strOf {X : Cx} : CallR X (.type "str") rStrOf := by
  rintro pins s σ H xs us Q I r (h | h)
  · exact call_str_int pins s σ H xs us Q I r h
  · exact SkE.call_str_str pins s σ H xs us Q I r h
theorem k_repr4 (K : PySem.W.Frag) {X : Cx} (hG : X.A.guards = some []) (hu : X.A.units + 64 < cLine) (h : X.K = K := by rfl) : CallR X (.builtin "repr") (rRepr4 K) := by
  subst h
  exact call_repr4 hG hu
def CPowW (i j : Int) : Prop := 0 ≤ j ∧ ((Builtin.Int.intBits i : Nat) : Int) * j ≤ 134217728
theorem op_powW {X : Cx} : OpR X (binaryOp .Pow) (rI CPowW fun i j => .int (i ^ j.toNat)) := opI fun _ _ _ _ _ _ _ hc q => pow_int hc.1 hc.2 q
def letter (c : Nat) : Bool := decide (97 ≤ c) && decide (c ≤ 122)
theorem letter_not : ∀ c, c < 128 → (!(!(Builtin.Str.occurrences (Str.ofString "abcdefghijklmnopqrstuvwxyz") ⟨#[c]⟩ 0 (Str.ofString "abcdefghijklmnopqrstuvwxyz").length 1).isEmpty)) = !letter c := by decide +kernel
end RO

namespace RO
open PySem PySem.Spec PyProof.Rows L2
def top (i : Nat) : Stmt := PySem.Challenge.pw_ringorders_k01_minutes_orders_names_know.main.body.getD i (.Pass ⟨0, 0, 0, 0⟩)
abbrev s_is_whole : Stmt := top 5
theorem sc_is_whole : FnScope ["thing"] ["thing"] (defScope s_is_whole) := ⟨rfl, rfl, rfl, by decide +kernel, rfl, by decide +kernel, by decide +kernel⟩
abbrev s_is_minute : Stmt := top 6
theorem sc_is_minute : FnScope ["thing"] ["thing"] (defScope s_is_minute) := ⟨rfl, rfl, rfl, by decide +kernel, rfl, by decide +kernel, by decide +kernel⟩
abbrev s_is_order : Stmt := top 7
theorem sc_is_order : FnScope ["thing"] ["thing"] (defScope s_is_order) := ⟨rfl, rfl, rfl, by decide +kernel, rfl, by decide +kernel, by decide +kernel⟩
abbrev s_is_name : Stmt := top 8
theorem sc_is_name : FnScope ["thing", "sign"] ["thing"] (defScope s_is_name) := ⟨rfl, rfl, rfl, by decide +kernel, rfl, by decide +kernel, by decide +kernel⟩
abbrev s_draw : Stmt := top 10
theorem sc_draw : FnScope ["_law_pen", "_law_many", "_law_digit", "_law_at", "_law_cell", "_law_number_here"] ["_law_pen", "_law_many"] (defScope s_draw) := ⟨rfl, rfl, rfl, by decide +kernel, rfl, by decide +kernel, by decide +kernel⟩
abbrev s_number : Stmt := top 11
theorem sc_number : FnScope ["_law_pen", "_law_near", "_law_far"] ["_law_pen"] (defScope s_number) := ⟨rfl, rfl, rfl, by decide +kernel, rfl, by decide +kernel, by decide +kernel⟩
abbrev s_text : Stmt := top 12
theorem sc_text : FnScope ["_law_pen", "_law_letters", "_law_signs", "_law_way", "_law_word", "_law_at", "_law_sign", "_law_k"] ["_law_pen"] (defScope s_text) := ⟨rfl, rfl, rfl, by decide +kernel, rfl, by decide +kernel, by decide +kernel⟩
abbrev s_whole : Stmt := top 13
theorem sc_whole : FnScope ["_law_odd", "_law_least", "_law_most"] ["_law_odd", "_law_least", "_law_most"] (defScope s_whole) := ⟨rfl, rfl, rfl, by decide +kernel, rfl, by decide +kernel, by decide +kernel⟩
abbrev s_named : Stmt := top 14
theorem sc_named : FnScope ["_law_odd", "_law_sign"] ["_law_odd"] (defScope s_named) := ⟨rfl, rfl, rfl, by decide +kernel, rfl, by decide +kernel, by decide +kernel⟩
abbrev s_right : Stmt := top 15
theorem sc_right : FnScope ["_law_odd", "_law_kept", "_law_due", "_law_told", "_law_more"] ["_law_odd"] (defScope s_right) := ⟨rfl, rfl, rfl, by decide +kernel, rfl, by decide +kernel, by decide +kernel⟩
abbrev s_law : Stmt := top 16
theorem sc_law : FnScope ["_law_script", "_law_pen", "_law_turn", "_law_odd", "_law_wrapped"] ["_law_script"] (defScope s_law) := ⟨rfl, rfl, rfl, by decide +kernel, rfl, by decide +kernel, by decide +kernel⟩
structure Txt (w : World) (K : PySem.W.Frag) (mg : Str → Option Value) where
  a_is_whole : Addr
  d_is_whole : FuncData
  F_is_whole : Fun K "is_whole" "is_whole" s_is_whole a_is_whole d_is_whole
  b_is_whole : Binds K d_is_whole ["thing"] []
  g_is_whole : mg "is_whole" = some (.ref a_is_whole)
  a_is_minute : Addr
  d_is_minute : FuncData
  F_is_minute : Fun K "is_minute" "is_minute" s_is_minute a_is_minute d_is_minute
  b_is_minute : Binds K d_is_minute ["thing"] []
  g_is_minute : mg "is_minute" = some (.ref a_is_minute)
  a_is_order : Addr
  d_is_order : FuncData
  F_is_order : Fun K "is_order" "is_order" s_is_order a_is_order d_is_order
  b_is_order : Binds K d_is_order ["thing"] []
  g_is_order : mg "is_order" = some (.ref a_is_order)
  a_is_name : Addr
  d_is_name : FuncData
  F_is_name : Fun K "is_name" "is_name" s_is_name a_is_name d_is_name
  b_is_name : Binds K d_is_name ["thing"] []
  g_is_name : mg "is_name" = some (.ref a_is_name)
  a_draw : Addr
  d_draw : FuncData
  F_draw : Fun K "_law_draw" "_law_draw" s_draw a_draw d_draw
  b_draw : Binds K d_draw ["_law_pen", "_law_many"] []
  g_draw : mg "_law_draw" = some (.ref a_draw)
  a_number : Addr
  d_number : FuncData
  F_number : Fun K "_law_number" "_law_number" s_number a_number d_number
  b_number : Binds K d_number ["_law_pen"] []
  g_number : mg "_law_number" = some (.ref a_number)
  a_text : Addr
  d_text : FuncData
  F_text : Fun K "_law_text" "_law_text" s_text a_text d_text
  b_text : Binds K d_text ["_law_pen"] []
  g_text : mg "_law_text" = some (.ref a_text)
  a_whole : Addr
  d_whole : FuncData
  F_whole : Fun K "_law_whole" "_law_whole" s_whole a_whole d_whole
  b_whole : Binds K d_whole ["_law_odd", "_law_least", "_law_most"] []
  g_whole : mg "_law_whole" = some (.ref a_whole)
  a_named : Addr
  d_named : FuncData
  F_named : Fun K "_law_named" "_law_named" s_named a_named d_named
  b_named : Binds K d_named ["_law_odd"] []
  g_named : mg "_law_named" = some (.ref a_named)
  a_right : Addr
  d_right : FuncData
  F_right : Fun K "_law_right" "_law_right" s_right a_right d_right
  b_right : Binds K d_right ["_law_odd"] []
  g_right : mg "_law_right" = some (.ref a_right)
  a_law : Addr
  d_law : FuncData
  F_law : Fun K "law" "law" s_law a_law d_law
  b_law : Binds K d_law ["_law_script"] []
  g_law : mg "law" = some (.ref a_law)
  kb0_is_name : KBinds K d_is_name ["thing"] ["thing"] (fun us ws => match us, ws with | [], [x0] => [x0] | _, _ => []) (fun us ws => match us, ws with | [], [x0] => [x0] | _, _ => [])
  kb0_is_order : KBinds K d_is_order ["thing"] ["thing"] (fun us ws => match us, ws with | [], [x0] => [x0] | _, _ => []) (fun us ws => match us, ws with | [], [x0] => [x0] | _, _ => [])
  kb0_is_minute : KBinds K d_is_minute ["thing"] ["thing"] (fun us ws => match us, ws with | [], [x0] => [x0] | _, _ => []) (fun us ws => match us, ws with | [], [x0] => [x0] | _, _ => [])
  z_abs : mg "abs" = none
  z_all : mg "all" = none
  z_bool : mg "bool" = none
  z_int : mg "int" = none
  z_isinstance : mg "isinstance" = none
  z_len : mg "len" = none
  z_list : mg "list" = none
  z_range : mg "range" = none
  z_repr : mg "repr" = none
  z_str : mg "str" = none
  t_FULL_AHEAD : Tok
  c_FULL_AHEAD : mg "FULL_AHEAD" = some (.int (4) t_FULL_AHEAD)
  t_FULL_ASTERN : Tok
  c_FULL_ASTERN : mg "FULL_ASTERN" = some (.int (-4) t_FULL_ASTERN)
  t_LAST_MINUTE : Tok
  c_LAST_MINUTE : mg "LAST_MINUTE" = some (.int (99999) t_LAST_MINUTE)
  t_LONGEST_NAME : Tok
  c_LONGEST_NAME : mg "LONGEST_NAME" = some (.int (8) t_LONGEST_NAME)
/-! a step of a reading whose answer is fixed: a name, a number's operation -/
local macro_rules | `(tactic| walk_at "rd") => `(tactic| (first
  | refine ⟨_, rfl, ?_⟩
  | refine ⟨_, _, rfl, rfl, ?_⟩
  | (refine And.intro ?rdc ?_; (case rdc => first | decide | omega | exact ⟨by omega, by omega⟩ | exact ⟨by decide, by decide, by omega⟩ | exact .inl ⟨by omega, by omega⟩ | exact .inr ⟨by omega, by omega⟩))))
section
variable {P : Program} {w : World} {K : PySem.W.Frag} {mg : Str → Option Value} {base : Heap}
/-! ### the pen -/
theorem ints_shaped : ∀ ns : List Int, PyData.canLayAll0 (ns.map PyData.int) = true ∧ PyData.depthAll (ns.map PyData.int) ≤ 1
  | [] => ⟨rfl, Nat.zero_le _⟩
  | n :: r => by
    obtain ⟨h1, h2⟩ := ints_shaped r
    exact ⟨h1, Nat.max_le.mpr ⟨Nat.zero_le _, h2⟩⟩
theorem ints_eqv (ns : List Int) : PyData.eqv (.list (ns.map PyData.int)) (.list []) = decide (ns = []) := by
  cases ns <;> rfl
def spDraw (K : PySem.W.Frag) : Sp := fun vs H Q _ => ∃ (p c : Addr) (n : Nat) (m : Int), vs = [.ref p, .int m] ∧ PenAt H p c n ∧ Cells K H p c ∧ n ≤ 100000 ∧ 1 ≤ m ∧ m < 1073741824 ∧
  ∀ H' r, Go K p c H (n + 1) H' → 0 ≤ r → r < m → Q (.int r) H'
theorem ok_draw (T : Txt w K mg) : FnOk P w K mg base CX0 1 T.a_draw T.d_draw ["_law_pen", "_law_many"] (spDraw K) := by
  refine T.F_draw.ok sc_draw (fun vs H Q E h => ?_) (fun cdv A outer s H vs Q E hr h => ?_)
  · obtain ⟨p, c, n, m, rfl, _⟩ := h
    rfl
  · obtain ⟨p, c, n, m, rfl, hp, hc, hn, hm1, hm2, q⟩ := h
    obtain ⟨at_, cy, e, h0, h1, h2⟩ := id hp
    obtain ⟨ne, ns, hS, hl⟩ := id hc
    refine ⟨_, (pss_cons (ps_if (pt_cmpR op_gt (pe_ix (kx_list K) (pv 0) pe_int (fun _ _ => rfl)) pe_int (nomark _)) (pss_cons (ps_set (i := 2) sc_draw.nd rfl (by first | exact Or.inl rfl | exact Or.inr rfl) (pe_op op_modN (pe_ix (kx_list K) (pv 0) pe_int (fun _ _ => rfl)) (pv 1)))
  (pss_cons (ps_asg (pe_op op_fdivN (pe_ix (kx_list K) (pv 0) pe_int (fun _ _ => rfl)) (pv 1)) (pg_sub (pv 0) pe_int set_list))
  (pss_one (ps_ret (pv 2))))) pss_nil)
  (pss_cons (ps_set (i := 3) sc_draw.nd rfl (by first | exact Or.inl rfl | exact Or.inr rfl) (pe_ix (kx_list K) (pv 0) pe_int (fun _ _ => rfl)))
  (pss_cons (ps_asg (pe_op op_add (pv 3) pe_int) (pg_sub (pv 0) pe_int set_list))
  (pss_cons (ps_set (i := 4) sc_draw.nd rfl (by first | exact Or.inl rfl | exact Or.inr rfl) (pe_op op_add (pe_op op_mul pe_int (pv 3)) pe_int))
  (C8.pss_cut (ps_if (pt_cmpR (k_neD K hr.units) (pe_ix (kx_list K) (pv 0) pe_int (fun _ _ => rfl)) (pe_lst pa_nil) (nomark _)) (pss_one (ps_set (i := 4) sc_draw.nd rfl (by first | exact Or.inl rfl | exact Or.inr rfl) (pe_ix (kx_list K) (pe_ix (kx_list K) (pv 0) pe_int (fun _ _ => rfl)) (pe_op op_modN (pv 3) (pe_callB (k_len K) (by rfl) T.z_len (by decide +kernel) (pa_cons (pe_ix (kx_list K) (pv 0) pe_int (fun _ _ => rfl)) pa_nil))) (fun _ _ => rfl)))) pss_nil)
  (C8.pss_cut (ps_if (PW.pt (pw_and (pt_cmpR op_lt (pv 3) (pe_callB (k_len K) (by rfl) T.z_len (by decide +kernel) (pa_cons (pe_ix (kx_list K) (pv 0) pe_int (fun _ _ => rfl)) pa_nil)) (nomark _)) (pw_and1 (pt_cmpR op_ge (pe_callB call_abs (by rfl) T.z_abs (by decide +kernel) (pa_cons (pv 4) pa_nil)) (pe_op op_pow pe_int pe_int) (nomark _))))) (pss_cons (ps_asg (pe_op op_fdivN (pe_callB call_abs (by rfl) T.z_abs (by decide +kernel) (pa_cons (pv 4) pa_nil)) (pv 1)) (pg_sub (pv 0) pe_int set_list))
  (pss_one (ps_ret (pe_op op_modN (pe_callB call_abs (by rfl) T.z_abs (by decide +kernel) (pa_cons (pv 4) pa_nil)) (pv 1))))) pss_nil)
  (pss_cons (ps_set (i := 5) sc_draw.nd rfl (by first | exact Or.inl rfl | exact Or.inr rfl) (pe_op op_modN (pe_op op_pow (pe_op op_add (pe_op op_add (pe_op op_modN (pv 4) pe_int) (pe_op op_mul pe_int (pv 3))) pe_int) pe_int) pe_int))
  (pss_cons (ps_set (i := 5) sc_draw.nd rfl (by first | exact Or.inl rfl | exact Or.inr rfl) (pe_op op_modN (pe_op op_pow (pe_op op_add (pe_op op_mul (pv 5) (pe_op op_add (pe_op op_mul pe_int (pv 3)) pe_int)) pe_int) pe_int) pe_int))
  (pss_one (ps_ret (pe_op op_modN (pe_op op_fdivN (pv 5) pe_int) (pv 1)))))))))))), ?_⟩
    refine ⟨_, rfl, p, _, 2, _, rfl, rfl, SqL.of e, rfl, _, _, rfl, rfl, _, rfl, ite2 (fun t => ?_) (fun t => ?_)⟩
    · -- a rest is left
      have t' : 0 < cy := of_decide_eq_true t
      refine ⟨_, rfl, p, _, 2, _, rfl, rfl, SqL.of e, rfl, _, rfl, _, _, rfl, rfl, (by omega), ?_⟩
      refine ⟨_, rfl, p, _, 2, _, rfl, rfl, SqL.of e, rfl, _, rfl, _, _, rfl, rfl, ⟨by omega, by omega⟩, ?_⟩
      refine ⟨_, rfl, p, _, 2, 2, rfl, rfl, e, rfl, ?_⟩
      refine ⟨_, rfl, q _ _ (Go.make hc But.put upd_same h0 (by omega) (fdiv_ge h2 (by omega))) (fmod_ge (by omega)) (fmod_lt (by omega))⟩
    · refine ⟨_, rfl, p, _, 1, _, rfl, rfl, SqL.of e, rfl, ?_⟩
      refine ⟨_, rfl, _, _, rfl, rfl, _, rfl, p, _, 1, 1, rfl, rfl, e, rfl, ?_⟩
      -- the place goes on
      have e1 : upd H p (.lst ([V.ref c, V.int at_, V.int cy].set 1 (V.int (at_ + 1)))) p = some (.lst [V.ref c, V.int (at_ + 1), V.int cy]) := upd_same
      have b1 : But p H (upd H p (.lst ([V.ref c, V.int at_, V.int cy].set 1 (V.int (at_ + 1))))) := But.put
      generalize upd H p (.lst ([V.ref c, V.int at_, V.int cy].set 1 (V.int (at_ + 1)))) = H1 at e1 b1 ⊢
      have hS1 := b1.seqL ne hS
      refine ⟨_, rfl, _, _, rfl, rfl, .inl ⟨by omega, by omega⟩, _, _, rfl, rfl, ?_⟩
      -- the cell
      refine ⟨fun σ' H' => ∃ cell : Int, σ' = [some (.ref p), some (.int m), none, some (.int at_), some (.int cell), none] ∧ But p H H' ∧ H' p = some (.lst [.ref c, .int (at_ + 1), .int cy]), ?_, ?_⟩
      · refine ⟨_, rfl, p, _, 0, _, rfl, rfl, SqL.of e1, rfl, (by show 0 ≤ sizeLine; decide), fun z hz => ?_⟩
        generalize hX : upd H1 z _ = H2
        obtain ⟨S2, f2⟩ := alloc hz hX
        clear hX
        have b2 : But p H H2 := b1.trans (But.of_same S2)
        have hS2 := b2.seqL ne hS
        have e2 := S2 _ _ e1
        refine ⟨.list (ns.map PyData.int), .list [], .lst hS2 (dpAll_ints ns), .lst (SqL.of f2) .nil, ?_, by decide +kernel, _, rfl, ?_⟩
        · unfold SeqAt.shaped
          obtain ⟨q1, q2⟩ := ints_shaped ns
          have q3 : PyData.canLay0 (.list (ns.map PyData.int)) = true := q1
          rw [q3, Bool.true_and]
          refine decide_eq_true ?_
          simp only [PyData.depth]
          omega
        · rw [ints_eqv]
          by_cases hne : ns = []
          · rw [decide_eq_true hne]
            exact ⟨_, rfl, b2, e2⟩
          · rw [decide_eq_false hne]
            have l0 : 0 < (ns.map V.int).length := by
              rw [List.length_map]
              exact List.length_pos_iff.mpr hne
            obtain ⟨v, hv, ev⟩ := atI_fmod (xs := ns.map V.int) (i := at_) l0
            obtain ⟨z, _, rfl⟩ := List.mem_map.mp hv
            exact ⟨_, rfl, p, _, 0, _, rfl, rfl, SqL.of e2, rfl, _, rfl, _, rfl, p, _, 0, _, rfl, rfl, SqL.of e2, rfl, c, _, rfl, .inl hS2, _, _, rfl, rfl, (by omega), c, _, _, _, rfl, rfl, hS2, ev, z, rfl, b2, e2⟩
      · clear e1 b1 hS1
        rintro σ' H2 ⟨cell, rfl, b1, e1⟩
        have hS1 := b1.seqL ne hS
        refine ⟨fun σ2 H3 => σ2 = [some (.ref p), some (.int m), none, some (.int at_), some (.int cell), none] ∧ H3 = H2, ?_, ?_⟩
        · refine ⟨_, rfl, _, rfl, p, _, 0, _, rfl, rfl, SqL.of e1, rfl, c, _, rfl, .inl hS1, _, _, rfl, rfl, _, rfl, ite2 (fun t3 => ?_) (fun t3 => iteF ⟨rfl, rfl⟩)⟩
          refine ⟨_, rfl, _, rfl, _, _, rfl, rfl, ⟨by decide, by decide, by decide⟩, _, _, rfl, rfl, _, rfl, ite2 (fun t4 => ?_) (fun t4 => ⟨rfl, rfl⟩)⟩
          have habs : (0 : Int) ≤ if cell < 0 then -cell else cell := by
            split <;> omega
          refine ⟨_, rfl, _, rfl, _, rfl, _, _, rfl, rfl, ⟨by omega, by omega⟩, _, rfl, p, _, 2, 2, rfl, rfl, e1, rfl, ?_⟩
          exact ⟨_, rfl, _, rfl, _, rfl, _, _, rfl, rfl, (by omega), q _ _ (Go.make hc (b1.trans But.put) upd_same (by omega) (by omega) (fdiv_ge habs (by omega))) (fmod_ge (by omega)) (fmod_lt (by omega))⟩
        · rintro σ2 H3 ⟨rfl, rfl⟩
          have a1 := fmod_ge (a := cell) (b := 2147483629) (by decide)
          have a2 := fmod_lt (a := cell) (b := 2147483629) (by decide)
          have z1 := fmod_ge (a := (cell.fmod 2147483629 + 50021 * at_ + 7) ^ Int.toNat 3) (b := 2147483587) (by decide)
          have z2 := fmod_lt (a := (cell.fmod 2147483629 + 50021 * at_ + 7) ^ Int.toNat 3) (b := 2147483587) (by decide)
          have y1 : 0 ≤ ((cell.fmod 2147483629 + 50021 * at_ + 7) ^ Int.toNat 3).fmod 2147483587 * (2 * at_ + 3) := Int.mul_nonneg z1 (by omega)
          have y2 : ((cell.fmod 2147483629 + 50021 * at_ + 7) ^ Int.toNat 3).fmod 2147483587 * (2 * at_ + 3) ≤ 2147483587 * 200003 := Int.mul_le_mul (by omega) (by omega) (by omega) (by decide)
          repeat (walk_at "rd")
          exact q _ _ (Go.make hc b1 e1 (by omega) (by omega) h2) (fmod_ge (by omega)) (fmod_lt (by omega))

/-! ### a thing of any sort -/
inductive Any (K : PySem.W.Frag) (H : Hp) : V → Prop
  | non : Any K H .non
  | bl (b : Bool) : Any K H (.bl b)
  | int (i : Int) : Any K H (.int i)
  | str {t : Str} : TOk 400 t → Any K H (.str t)
  | lst {a : Addr} : TyX K H (.ref a) (.type "list") → Any K H (.ref a)
  | tup {a : Addr} : TyX K H (.ref a) (.type "tuple") → Any K H (.ref a)
  | dict {a : Addr} : TyX K H (.ref a) (.type "dict") → Any K H (.ref a)
def wholeV : V → Bool
  | .int _ => true
  | _ => false
def betV (lo hi : Int) : V → Bool
  | .int i => decide (lo ≤ i) && decide (i ≤ hi)
  | _ => false
def lettersS (t : Str) : Bool := t.cps.toList.all letter
def nameV : V → Bool
  | .str t => decide ((1 : Int) ≤ (t.length : Int)) && decide ((t.length : Int) ≤ 8) && lettersS t
  | _ => false
def isIntV : V → Bool
  | .int _ => true
  | .bl _ => true
  | _ => false
def isBlV : V → Bool
  | .bl _ => true
  | _ => false
def isStrV : V → Bool
  | .str _ => true
  | _ => false
section
variable {K : PySem.W.Frag} {H : Hp} {v : V}
theorem Any.ty (h : Any K H v) : ∃ ty, TyX K H v ty ∧ PySem.W.kitOne K ty (.type "int") = some (isIntV v) ∧ PySem.W.kitOne K ty (.type "bool") = some (isBlV v) ∧ PySem.W.kitOne K ty (.type "str") = some (isStrV v) := by
  cases h with
  | non => exact ⟨_, .base .non, kit_ty (by decide +kernel), kit_ty (by decide +kernel), kit_ty (by decide +kernel)⟩
  | bl b => exact ⟨_, .base (.bl b), kit_ty (by show kitB "bool" "int" = some true; decide +kernel), kit_ty (by show kitB "bool" "bool" = some true; decide +kernel), kit_ty (by show kitB "bool" "str" = some false; decide +kernel)⟩
  | int i => exact ⟨_, .base (.int i), kit_ty (by show kitB "int" "int" = some true; decide +kernel), kit_ty (by show kitB "int" "bool" = some false; decide +kernel), kit_ty (by show kitB "int" "str" = some false; decide +kernel)⟩
  | @str t _ => exact ⟨_, .base (.str t), kit_ty (by show kitB "str" "int" = some false; decide +kernel), kit_ty (by show kitB "str" "bool" = some false; decide +kernel), kit_ty (by show kitB "str" "str" = some true; decide +kernel)⟩
  | lst q => exact ⟨_, q, kit_ty (by show kitB "list" "int" = some false; decide +kernel), kit_ty (by show kitB "list" "bool" = some false; decide +kernel), kit_ty (by show kitB "list" "str" = some false; decide +kernel)⟩
  | tup q => exact ⟨_, q, kit_ty (by show kitB "tuple" "int" = some false; decide +kernel), kit_ty (by show kitB "tuple" "bool" = some false; decide +kernel), kit_ty (by show kitB "tuple" "str" = some false; decide +kernel)⟩
  | dict q => exact ⟨_, q, kit_ty (by show kitB "dict" "int" = some false; decide +kernel), kit_ty (by show kitB "dict" "bool" = some false; decide +kernel), kit_ty (by show kitB "dict" "str" = some false; decide +kernel)⟩
theorem code_lt (a b : Nat) : decide (([a] : List Nat) < [b]) = decide (a < b) := by
  rw [Bool.eq_iff_iff, decide_eq_true_eq, decide_eq_true_eq]
  constructor
  · intro h
    cases h with
    | rel h => exact h
    | cons h => cases h
  · intro h
    exact .rel h
end
def spWhole (K : PySem.W.Frag) : Sp := fun vs H Q _ => ∃ v, vs = [v] ∧ Any K H v ∧ Q (.bl (wholeV v)) H
theorem ok_is_whole (T : Txt w K mg) : FnOk P w K mg base CX0 1 T.a_is_whole T.d_is_whole ["thing"] (spWhole K) := by
  refine T.F_is_whole.ok sc_is_whole (fun vs H Q E h => ?_) (fun cdv A outer s H vs Q E hr h => ?_)
  · obtain ⟨i, rfl, _⟩ := h
    rfl
  · obtain ⟨v, rfl, hv, k⟩ := h
    refine ⟨_, (pss_one (ps_ret (pe_and (pe_callB (k_isi K) (by rfl) T.z_isinstance (by decide +kernel) (pa_cons (pv 0) (pa_cons (pe_bltn (v := .ty "int") (by rfl) T.z_int (by decide +kernel) rfl) pa_nil))) (pe_one (pe_not (pe_callB (k_isi K) (by rfl) T.z_isinstance (by decide +kernel) (pa_cons (pv 0) (pa_cons (pe_bltn (v := .ty "bool") (by rfl) T.z_bool (by decide +kernel) rfl) pa_nil)))))))), ?_⟩
    obtain ⟨ty, t1, t2, t3, _⟩ := hv.ty
    refine ⟨_, rfl, _, _, _, _, _, rfl, ClsV.ty "int", t1, t2, _, rfl, ?_⟩
    cases hv with
    | int i => exact ⟨_, rfl, _, _, _, _, false, rfl, ClsV.ty "bool", t1, t3, _, rfl, k⟩
    | bl b => exact ⟨_, rfl, _, _, _, _, true, rfl, ClsV.ty "bool", t1, t3, _, rfl, k⟩
    | _ => exact k
def spBet (K : PySem.W.Frag) (lo hi : Int) : Sp := fun vs H Q _ => ∃ v, vs = [v] ∧ Any K H v ∧ Q (.bl (betV lo hi v)) H
theorem ok_is_minute (T : Txt w K mg) : FnOk P w K mg base CX0 2 T.a_is_minute T.d_is_minute ["thing"] (spBet K 0 99999) := by
  have G_is_whole := ok_is_whole (P := P) (base := base) T
  refine T.F_is_minute.ok sc_is_minute (fun vs H Q E h => ?_) (fun cdv A outer s H vs Q E hr h => ?_)
  · obtain ⟨i, rfl, _⟩ := h
    rfl
  · obtain ⟨v, rfl, hv, k⟩ := h
    have hr_is_whole := hr
    refine ⟨_, (pss_one (ps_ret (pe_and (pe_call G_is_whole hr_is_whole (by rfl) T.g_is_whole T.F_is_whole.kp T.b_is_whole .nil pass0 (pa_cons (pv 0) pa_nil)) (pe_one (pe_chain op_le op_le pe_int (pv 0) (pe_glob (v := .int (99999)) (by rfl) T.c_LAST_MINUTE ⟨_, rfl⟩)))))), ?_⟩
    refine ⟨_, rfl, v, rfl, hv, _, rfl, ?_⟩
    cases hv with
    | int i =>
      show if true = true then _ else _
      refine ⟨_, rfl, _, _, rfl, rfl, _, rfl, ?_⟩
      have k : Q (V.bl (decide (0 ≤ i) && decide (i ≤ 99999))) H := k
      cases z : decide ((0 : Int) ≤ i) with
      | true =>
        rw [z, Bool.true_and] at k
        exact ⟨_, _, rfl, rfl, k⟩
      | false =>
        rw [z, Bool.false_and] at k
        exact k
    | _ => exact k
theorem ok_is_order (T : Txt w K mg) : FnOk P w K mg base CX0 2 T.a_is_order T.d_is_order ["thing"] (spBet K (-4) 4) := by
  have G_is_whole := ok_is_whole (P := P) (base := base) T
  refine T.F_is_order.ok sc_is_order (fun vs H Q E h => ?_) (fun cdv A outer s H vs Q E hr h => ?_)
  · obtain ⟨i, rfl, _⟩ := h
    rfl
  · obtain ⟨v, rfl, hv, k⟩ := h
    have hr_is_whole := hr
    refine ⟨_, (pss_one (ps_ret (pe_and (pe_call G_is_whole hr_is_whole (by rfl) T.g_is_whole T.F_is_whole.kp T.b_is_whole .nil pass0 (pa_cons (pv 0) pa_nil)) (pe_one (pe_chain op_le op_le (pe_glob (v := .int (-4)) (by rfl) T.c_FULL_ASTERN ⟨_, rfl⟩) (pv 0) (pe_glob (v := .int (4)) (by rfl) T.c_FULL_AHEAD ⟨_, rfl⟩)))))), ?_⟩
    refine ⟨_, rfl, v, rfl, hv, _, rfl, ?_⟩
    cases hv with
    | int i =>
      show if true = true then _ else _
      refine ⟨_, rfl, _, _, rfl, rfl, _, rfl, ?_⟩
      have k : Q (V.bl (decide (-4 ≤ i) && decide (i ≤ 4))) H := k
      cases z : decide ((-4 : Int) ≤ i) with
      | true =>
        rw [z, Bool.true_and] at k
        exact ⟨_, _, rfl, rfl, k⟩
      | false =>
        rw [z, Bool.false_and] at k
        exact k
    | _ => exact k
def spNameV (K : PySem.W.Frag) : Sp := fun vs H Q _ => ∃ v, vs = [v] ∧ Any K H v ∧ ∀ H', Same H H' → Q (.bl (nameV v)) H'
theorem ok_is_name (T : Txt w K mg) : FnOk P w K mg base CX0 1 T.a_is_name T.d_is_name ["thing"] (spNameV K) := by
  refine T.F_is_name.ok sc_is_name (fun vs H Q E h => ?_) (fun cdv A outer s H vs Q E hr h => ?_)
  · obtain ⟨i, rfl, _⟩ := h
    rfl
  · obtain ⟨v, rfl, hv, k⟩ := h
    refine ⟨_, (pss_cons (ps_if (PW.pt (pw_or (pt_not (pt_val (pe_callB (k_isi K) (by rfl) T.z_isinstance (by decide +kernel) (pa_cons (pv 0) (pa_cons (pe_bltn (v := .ty "str") (by rfl) T.z_str (by decide +kernel) rfl) pa_nil))))) (pw_or1 (pt_not (pt_chain op_le op_le pe_int (pe_callB call_len_str (by rfl) T.z_len (by decide +kernel) (pa_cons (pv 0) pa_nil)) (pe_glob (v := .int (8)) (by rfl) T.c_LONGEST_NAME ⟨_, rfl⟩)))))) (pss_one (ps_ret pe_bl)) pss_nil)
  (pss_one (ps_ret (pe_callB (k_all K rfl) (by rfl) T.z_all (by decide +kernel) (pa_cons (pe_lc (own := [("sign", 1)]) rfl sc_is_name.nd (pi_str (pv 0)) (blkOk_by (own := [("sign", 1)]) (N := ["thing", "sign"]) (sc := defScope s_is_name) (by decide +kernel)) (fun _ _ _ _ _ => (pg_name (i := 1) sc_is_name.nd rfl (by first | exact Or.inl rfl | exact Or.inr rfl))) (fun _ _ _ _ _ => pts_nil) (fun _ _ _ _ _ => (pe_chain op_le_str op_le_str pe_str (pv 1) pe_str))) pa_nil))))), ?_⟩
    obtain ⟨ty, t1, _, _, t4⟩ := hv.ty
    refine ⟨_, rfl, _, _, _, _, _, rfl, ClsV.ty "str", t1, t4, _, rfl, ?_⟩
    cases hv with
    | @str t ht =>
      show if false = true then _ else _
      have t400 := ht.1
      refine ⟨_, rfl, _, rfl, Nat.le_trans t400 (by decide), _, _, rfl, rfl, _, rfl, ?_⟩
      have no : decide ((1 : Int) ≤ (t.length : Int)) = false ∨ decide ((t.length : Int) ≤ 8) = false → nameV (.str t) = false := fun z => by
        show (decide _ && decide _ && _) = false
        rcases z with z | z <;> rw [z] <;> simp
      cases z1 : decide ((1 : Int) ≤ (t.length : Int)) with
      | false =>
        have q := k H (Same.refl _)
        rw [no (.inl z1)] at q
        exact ⟨_, rfl, q⟩
      | true =>
        refine ⟨_, _, rfl, rfl, _, rfl, ?_⟩
        cases z2 : decide ((t.length : Int) ≤ 8) with
        | false =>
          have q := k H (Same.refl _)
          rw [no (.inr z2)] at q
          exact q
        | true =>
          have t8 : (t.length : Int) ≤ 8 := of_decide_eq_true z2
          show if false = true then _ else _
          refine ⟨_, rfl, t, rfl, fun D hD => ?_⟩
          refine lc_it walk_str (fun i H' => Same H H' ∧ H' D = some (.lst (((t.cps.toList.take i).map letter).map V.bl))) ⟨same_new (Same.refl _) hD, upd_same⟩ (fun _ _ _ _ => trivial) ?_ ?_
          · rintro i x _ H2 hi ⟨s2, e2⟩ ⟨rfl, c, hc, rfl⟩
            have hc2 : t.cps.toList[i]? = some c := by rw [Array.getElem?_toList]; exact hc
            have fin : ∀ b, b = letter c → ∃ acc, H2 D = some (.lst acc) ∧ acc.length < sizeLine ∧ Same H (upd H2 D (.lst (acc ++ [V.bl b]))) ∧ upd H2 D (.lst (acc ++ [V.bl b])) D = some (.lst (((t.cps.toList.take (i + 1)).map letter).map V.bl)) := fun b hb => by
              refine ⟨_, e2, ?_, same_own s2 hD, ?_⟩
              · rw [List.length_map, List.length_map, List.length_take]
                have e9 : t.cps.size = t.length := rfl
                exact small1000 (by omega)
              · rw [upd_same, List.take_add_one, hc2, hb, List.map_append, List.map_append]
                rfl
            refine ⟨rfl, _, rfl, _, _, rfl, rfl, _, rfl, ?_⟩
            have ea : decide ((⟨#[c]⟩ : Str).cps.toList < (Str.ofString "a").cps.toList) = decide (c < 97) := code_lt c 97
            have ez : decide ((Str.ofString "z").cps.toList < (⟨#[c]⟩ : Str).cps.toList) = decide (122 < c) := code_lt 122 c
            by_cases q1 : c < 97
            · rw [ea, decide_eq_true q1]
              refine fin false ?_
              unfold letter
              rw [decide_eq_false (by omega)]
              rfl
            · rw [ea, decide_eq_false q1]
              refine ⟨_, _, rfl, rfl, fin _ ?_⟩
              rw [ez]
              unfold letter
              rw [decide_eq_true (show 97 ≤ c by omega), Bool.true_and]
              by_cases q2 : 122 < c
              · rw [decide_eq_true q2, decide_eq_false (by omega)]
                rfl
              · rw [decide_eq_false q2, decide_eq_true (by omega)]
                rfl
          · rintro H2 ⟨s2, e2⟩
            refine ⟨D, _, rfl, SqL.of e2, ?_⟩
            have e3 : nameV (.str t) = ((t.cps.toList.take t.cps.size).map letter).all id := by
              rw [List.take_of_length_le (by simp), List.all_map]
              show (decide _ && decide _ && _) = _
              rw [z1, z2]
              rfl
            rw [← e3]
            exact k H2 s2
    | _ => exact k H (Same.refl _)
def spNumber (K : PySem.W.Frag) : Sp := fun vs H Q _ => ∃ (p c : Addr) (n : Nat), vs = [.ref p] ∧ PenAt H p c n ∧ Cells K H p c ∧ n ≤ 90000 ∧ ∀ H' i, Go K p c H (n + 7) H' → i.natAbs < 2 ^ 398 → Q (.int i) H'
theorem ok_number (T : Txt w K mg) : FnOk P w K mg base CX0 2 T.a_number T.d_number ["_law_pen"] (spNumber K) := by
  have G_draw := ok_draw (P := P) (base := base) T
  refine T.F_number.ok sc_number (fun vs H Q E h => ?_) (fun cdv A outer s H vs Q E hr h => ?_)
  · obtain ⟨p, c, n, rfl, _⟩ := h
    rfl
  · obtain ⟨p, c, n, rfl, hp, hc, hn, k⟩ := h
    have hr_draw := hr
    refine ⟨_, (pss_cons (ps_set (i := 1) sc_number.nd rfl (by first | exact Or.inl rfl | exact Or.inr rfl) (pe_op op_sub (pe_op op_add (pe_ix (kx_list K) (pe_lst (pa_cons pe_int (pa_cons pe_int (pa_cons (pe_un un_neg pe_int) (pa_cons pe_int (pa_cons (pe_op op_pow pe_int pe_int) (pa_cons (pe_un un_neg (pe_op op_pow pe_int pe_int)) pa_nil))))))) (pe_call G_draw hr_draw (by rfl) T.g_draw T.F_draw.kp T.b_draw .nil pass0 (pa_cons (pv 0) (pa_cons pe_int pa_nil))) (fun _ _ => rfl)) (pe_call G_draw hr_draw (by rfl) T.g_draw T.F_draw.kp T.b_draw .nil pass0 (pa_cons (pv 0) (pa_cons pe_int pa_nil)))) pe_int))
  (pss_cons (ps_set (i := 2) sc_number.nd rfl (by first | exact Or.inl rfl | exact Or.inr rfl) (pe_op op_add (pe_op op_mul (pe_call G_draw hr_draw (by rfl) T.g_draw T.F_draw.kp T.b_draw .nil pass0 (pa_cons (pv 0) (pa_cons (pe_op op_pow pe_int pe_int) pa_nil))) (pe_op op_powW (pe_op op_pow pe_int pe_int) pe_int)) (pe_call G_draw hr_draw (by rfl) T.g_draw T.F_draw.kp T.b_draw .nil pass0 (pa_cons (pv 0) (pa_cons (pe_op op_pow pe_int pe_int) pa_nil)))))
  (pss_one (ps_ret (pe_ix (kx_list K) (pe_lst (pa_cons (pv 1) (pa_cons (pv 1) (pa_cons (pv 2) (pa_cons (pe_op op_sub pe_int (pv 2)) (pa_cons (pe_call G_draw hr_draw (by rfl) T.g_draw T.F_draw.kp T.b_draw .nil pass0 (pa_cons (pv 0) (pa_cons pe_int pa_nil))) (pa_cons (pe_op op_sub (pe_call G_draw hr_draw (by rfl) T.g_draw T.F_draw.kp T.b_draw .nil pass0 (pa_cons (pv 0) (pa_cons pe_int pa_nil))) pe_int) pa_nil))))))) (pe_call G_draw hr_draw (by rfl) T.g_draw T.F_draw.kp T.b_draw .nil pass0 (pa_cons (pv 0) (pa_cons pe_int pa_nil))) (fun _ _ => rfl)))))), ?_⟩
    refine ⟨_, rfl, _, _, rfl, rfl, ⟨by decide, by decide, by decide⟩, _, _, rfl, rfl, ⟨by decide, by decide, by decide⟩, _, rfl, (by show 6 ≤ sizeLine; decide), fun l hl => ?_⟩
    generalize hX : upd H l _ = H1
    obtain ⟨S1, f1⟩ := alloc hl hX
    have g1 := (Go.refl hp hc).same S1
    have nl := Ne.symm ((Go.refl hp hc).ne_new hl)
    clear hX
    refine ⟨_, rfl, p, c, n, _, rfl, g1.pen, g1.cel, by omega, by decide, by decide, fun H2 r2 g2 a2 b2 => ?_⟩
    obtain ⟨v, hv, ev⟩ := atI_lt (xs := [V.int 0, V.int 4, V.int (-4), V.int 99999, V.int (10 ^ (30 : Int).toNat), V.int (-(10 ^ (30 : Int).toNat))]) a2 (by show r2 < ((6 : Nat) : Int); exact b2)
    obtain ⟨i0, rfl, i0a, i0b⟩ : ∃ q : Int, v = V.int q ∧ -(10 ^ 30) ≤ q ∧ q ≤ 10 ^ 30 := by
      have q : v = V.int 0 ∨ v = V.int 4 ∨ v = V.int (-4) ∨ v = V.int 99999 ∨ v = V.int (10 ^ (30 : Int).toNat) ∨ v = V.int (-(10 ^ (30 : Int).toNat)) := by simpa using hv
      rcases q with q | q | q | q | q | q <;> exact ⟨_, q, by decide, by decide⟩
    refine ⟨l, _, _, _, rfl, rfl, g2.but.seqL nl (SqL.of f1), ev, ?_⟩
    refine ⟨_, rfl, p, c, _, _, rfl, g2.pen, g2.cel, by omega, by decide, by decide, fun H3 r3 g3 a3 b3 => ?_⟩
    refine ⟨_, _, rfl, rfl, _, _, rfl, rfl, ?_⟩
    -- far
    refine ⟨_, rfl, _, _, rfl, rfl, ⟨by decide, by decide, by decide⟩, p, c, _, _, rfl, g3.pen, g3.cel, by omega, by decide, by decide, fun H4 r4 g4 a4 b4 => ?_⟩
    have b4' : r4 < 1000000000 := b4
    refine ⟨_, _, rfl, rfl, ⟨by decide, by decide, by decide⟩, _, _, rfl, rfl, ⟨by decide, by decide +kernel⟩, _, _, rfl, rfl, .inl ⟨by omega, by omega⟩, ?_⟩
    obtain ⟨big, ebig, bb⟩ : ∃ big : Int, ((10 : Int) ^ (45 : Int).toNat) ^ (2 : Int).toNat = big ∧ big = 10 ^ 90 := ⟨_, rfl, by decide +kernel⟩
    rw [ebig]
    refine ⟨_, rfl, _, _, rfl, rfl, ⟨by decide, by decide, by decide⟩, p, c, _, _, rfl, g4.pen, g4.cel, by omega, by decide, by decide, fun H5 r5 g5 a5 b5 => ?_⟩
    have b5' : r5 < 1000000000 := b5
    refine ⟨_, _, rfl, rfl, ?_⟩
    obtain ⟨far, efar, f0, f1⟩ : ∃ far : Int, r4 * big + r5 = far ∧ 0 ≤ far ∧ far ≤ 10 ^ 100 := by
      refine ⟨_, rfl, ?_, ?_⟩
      · have : 0 ≤ r4 * big := Int.mul_nonneg a4 (by rw [bb]; decide)
        omega
      · have : r4 * big ≤ 1000000000 * big := Int.mul_le_mul_of_nonneg_right (by omega) (by rw [bb]; decide)
        have e : (1000000000 : Int) * big + 1000000000 ≤ 10 ^ 100 := by rw [bb]; decide
        omega
    show gName 2 (V.int (r4 * big + r5)) _ _ _
    rw [efar]
    have G5 := g1.trans (g2.trans (g3.trans (g4.trans g5)))
    refine ⟨_, rfl, _, rfl, _, rfl, _, rfl, _, _, rfl, rfl, _, rfl, p, c, _, _, rfl, g5.pen, g5.cel, by omega, by decide, by decide, fun H6 r6 g6 a6 b6 => ?_⟩
    refine ⟨_, rfl, p, c, _, _, rfl, g6.pen, g6.cel, by omega, by decide, by decide, fun H7 r7 g7 a7 b7 => ?_⟩
    refine ⟨_, _, rfl, rfl, (by show 6 ≤ sizeLine; decide), fun l2 hl2 => ?_⟩
    have G7 := G5.trans (g6.trans g7)
    generalize hX : upd H7 l2 _ = H8
    obtain ⟨S8, f8⟩ := alloc hl2 hX
    have G8 := G7.same S8
    have nl2 := Ne.symm (G7.ne_new hl2)
    clear hX
    refine ⟨_, rfl, p, c, _, _, rfl, G8.pen, G8.cel, by omega, by decide, by decide, fun H9 r9 g9 a9 b9 => ?_⟩
    obtain ⟨v, hv, ev⟩ := atI_lt (xs := [V.int (i0 + r3 - 1), V.int (i0 + r3 - 1), V.int far, V.int (0 - far), V.int r6, V.int (r7 - 5)]) a9 (by show r9 < ((6 : Nat) : Int); exact b9)
    obtain ⟨i, rfl, hi0, hi1⟩ : ∃ q : Int, v = V.int q ∧ -(10 ^ 100) ≤ q ∧ q ≤ 10 ^ 100 := by
      have q : v = V.int (i0 + r3 - 1) ∨ v = V.int far ∨ v = V.int (0 - far) ∨ v = V.int r6 ∨ v = V.int (r7 - 5) := by simpa using hv
      rcases q with q | q | q | q | q <;> exact ⟨_, q, by omega, by omega⟩
    refine ⟨l2, _, _, _, rfl, rfl, g9.but.seqL nl2 (SqL.of f8), ev, k _ _ ((G8.trans g9).mono (by omega)) ?_⟩
    have : (10 : Int) ^ 100 < 2 ^ 398 := by decide +kernel
    omega
def spText (K : PySem.W.Frag) : Sp := fun vs H Q _ => ∃ (p c : Addr) (n : Nat), vs = [.ref p] ∧ PenAt H p c n ∧ Cells K H p c ∧ n ≤ 90000 ∧ ∀ H' t, Go K p c H (n + 20) H' → TOk 20 t → Q (.str t) H'
theorem tok_app {a b : Str} {i j : Nat} (h1 : TOk i a) (h2 : TOk j b) : TOk (i + j) (a ++ b) := by
  refine ⟨by rw [str_app]; have := h1.1; have := h2.1; omega, fun c hc => ?_⟩
  rw [codes_app] at hc
  rcases List.mem_append.mp hc with z | z
  · exact h1.2 c z
  · exact h2.2 c z
theorem ok_text (T : Txt w K mg) : FnOk P w K mg base CX0 2 T.a_text T.d_text ["_law_pen"] (spText K) := by
  have G_draw := ok_draw (P := P) (base := base) T
  refine T.F_text.ok sc_text (fun vs H Q E h => ?_) (fun cdv A outer s H vs Q E hr h => ?_)
  · obtain ⟨p, c, n, rfl, _⟩ := h
    rfl
  · obtain ⟨p, c, n, rfl, hp, hc, hn, k⟩ := h
    have hr_draw := hr
    refine ⟨_, (pss_cons (ps_set (i := 1) sc_text.nd rfl (by first | exact Or.inl rfl | exact Or.inr rfl) pe_str)
  (pss_cons (ps_set (i := 2) sc_text.nd rfl (by first | exact Or.inl rfl | exact Or.inr rfl) pe_str)
  (pss_cons (ps_set (i := 3) sc_text.nd rfl (by first | exact Or.inl rfl | exact Or.inr rfl) (pe_call G_draw hr_draw (by rfl) T.g_draw T.F_draw.kp T.b_draw .nil pass0 (pa_cons (pv 0) (pa_cons pe_int pa_nil))))
  (pss_cons (ps_set (i := 4) sc_text.nd rfl (by first | exact Or.inl rfl | exact Or.inr rfl) (pe_join pe_str (pe_lc (own := [("_law_k", 7)]) rfl sc_text.nd (pi_range1 (by rfl) T.z_range (pa_cons (pe_ix (kx_list K) (pe_lst (pa_cons pe_int (pa_cons pe_int (pa_cons (pe_op op_add pe_int (pe_call G_draw hr_draw (by rfl) T.g_draw T.F_draw.kp T.b_draw .nil pass0 (pa_cons (pv 0) (pa_cons pe_int pa_nil)))) pa_nil)))) (pe_call G_draw hr_draw (by rfl) T.g_draw T.F_draw.kp T.b_draw .nil pass0 (pa_cons (pv 0) (pa_cons pe_int pa_nil))) (fun _ _ => rfl)) pa_nil)) (blkOk_by (own := [("_law_k", 7)]) (N := ["_law_pen", "_law_letters", "_law_signs", "_law_way", "_law_word", "_law_at", "_law_sign", "_law_k"]) (sc := defScope s_text) (by decide +kernel)) (fun _ _ _ _ _ => (pg_name (i := 7) sc_text.nd rfl (by first | exact Or.inl rfl | exact Or.inr rfl))) (fun _ _ _ _ _ => pts_nil) (fun _ _ _ _ _ => (pe_ix ix_str (pv 1) (pe_call G_draw hr_draw (by rfl) T.g_draw T.F_draw.kp T.b_draw .nil pass0 (pa_cons (pv 0) (pa_cons pe_int pa_nil))) (fun _ _ => rfl))))))
  (pss_cons (ps_set (i := 5) sc_text.nd rfl (by first | exact Or.inl rfl | exact Or.inr rfl) (pe_call G_draw hr_draw (by rfl) T.g_draw T.F_draw.kp T.b_draw .nil pass0 (pa_cons (pv 0) (pa_cons (pe_op op_add (pe_callB call_len_str (by rfl) T.z_len (by decide +kernel) (pa_cons (pv 4) pa_nil)) pe_int) pa_nil))))
  (pss_cons (ps_set (i := 6) sc_text.nd rfl (by first | exact Or.inl rfl | exact Or.inr rfl) (pe_ix ix_str (pv 2) (pe_call G_draw hr_draw (by rfl) T.g_draw T.F_draw.kp T.b_draw .nil pass0 (pa_cons (pv 0) (pa_cons (pe_callB call_len_str (by rfl) T.z_len (by decide +kernel) (pa_cons (pv 2) pa_nil)) pa_nil))) (fun _ _ => rfl)))
  (pss_cons (ps_if (pt_cmpR op_lt (pv 3) pe_int (nomark _)) (pss_one (ps_ret (pv 4))) pss_nil)
  (pss_cons (ps_if (pt_cmpR op_eq (pv 3) pe_int (nomark _)) (pss_one (ps_ret (pe_op op_add_str (pe_op op_add_str (pe_slice sl_str (pv 4) po_none (po_some (pv 5))) (pv 6)) (pe_slice sl_str (pv 4) (po_some (pv 5)) po_none)))) pss_nil)
  (pss_cons (ps_if (pt_cmpR op_eq (pv 3) pe_int (nomark _)) (pss_one (ps_ret (pe_op op_add_str (pe_op op_add_str (pe_slice sl_str (pv 4) po_none (po_some (pv 5))) (pv 6)) (pe_slice sl_str (pv 4) (po_some (pe_op op_add (pv 5) pe_int)) po_none)))) pss_nil)
  (pss_one (ps_ret (pe_ix (kx_list K) (pe_lst (pa_cons (pe_slice sl_str (pv 4) (po_some pe_int) po_none) (pa_cons (pe_op op_add_str (pv 4) (pv 4)) pa_nil))) (pe_op op_sub (pv 3) pe_int) (fun _ _ => rfl))))))))))))), ?_⟩
    refine ⟨_, rfl, p, c, n, _, rfl, hp, hc, by omega, by decide, by decide, fun H1 way g1 w0 w6 => ?_⟩
    refine ⟨⟨_, rfl⟩, ?_⟩
    refine ⟨_, rfl, p, c, _, _, rfl, g1.pen, g1.cel, by omega, by decide, by decide, fun H3 r3 g3 a3 b3 => ?_⟩
    refine ⟨_, _, rfl, rfl, (by show 3 ≤ sizeLine; decide), fun l2 hl2 => ?_⟩
    generalize hX : upd H3 l2 _ = H4
    obtain ⟨S4, f4⟩ := alloc hl2 hX
    have g4 := g3.same S4
    have nl2 := Ne.symm (g3.ne_new hl2)
    clear hX
    refine ⟨_, rfl, p, c, _, _, rfl, g4.pen, g4.cel, by omega, by decide, by decide, fun H5 r5 g5 a5 b5 => ?_⟩
    obtain ⟨v, hv, ev⟩ := atI_lt (xs := [V.int 1, V.int 8, V.int (1 + r3)]) a5 (by show r5 < ((3 : Nat) : Int); exact b5)
    obtain ⟨m, rfl, m1, m8⟩ : ∃ m : Int, v = V.int m ∧ 1 ≤ m ∧ m ≤ 8 := by
      have q : v = V.int 1 ∨ v = V.int 8 ∨ v = V.int (1 + r3) := by simpa using hv
      rcases q with q | q | q <;> exact ⟨_, q, by omega, by omega⟩
    refine ⟨l2, _, _, _, rfl, rfl, g5.but.seqL nl2 (SqL.of f4), ev, _, rfl, by omega, by omega, fun D hD => ?_⟩
    have G5 := g1.trans (g4.trans g5)
    have hD0 := G5.free hD
    have nD : D ≠ p := Ne.symm (G5.ne_new hD)
    refine lc_it walk_range (fun i H' => Go K p c H (n + 3 + i) H' ∧ ∃ cs : List Nat, H' D = some (.lst (cs.map fun c => V.str ⟨#[c]⟩)) ∧ cs.length = i ∧ ∀ c ∈ cs, c < 128)
      ⟨(G5.new hD).mono (by omega), [], upd_same, rfl, fun x hx => nomatch hx⟩ (fun _ _ _ _ => trivial) ?_ ?_
    · rintro i x _ H6 hi ⟨g6, cs, e6, l6, o6⟩ ⟨rfl, rfl⟩
      refine ⟨rfl, _, rfl, _, rfl, p, c, n + 3 + i, 26, rfl, g6.pen, g6.cel, by omega, by decide, by decide, fun H7 r7 g7 q0 q1 => ?_⟩
      have e7 := g7.but D _ nD e6
      obtain ⟨c4, hc4, ec4⟩ := atI_lt (xs := ("abcdefghijklmnopqrstuvwxyz" : Str).cps.toList) q0 (show r7 < ((26 : Nat) : Int) from q1)
      refine ⟨_, r7, c4, rfl, rfl, by decide +kernel, ec4, _, e7, ?_, ?_⟩
      · rw [List.length_map]
        exact small1000 (by omega)
      · refine ⟨((g6.trans g7).own hD0 nD hc).mono (by omega), cs ++ [c4], ?_, by rw [List.length_append, l6]; rfl, fun x hx => ?_⟩
        · rw [upd_same, List.map_append]
          rfl
        · rcases List.mem_append.mp hx with hx | hx
          · exact o6 x hx
          · have : x = c4 := by simpa using hx
            subst this
            exact (show ∀ c ∈ ("abcdefghijklmnopqrstuvwxyz" : Str).cps.toList, c < 128 by decide +kernel) _ hc4
    · rintro H6 ⟨g6, cs, e6, l6, o6⟩
      have codes : (Str.join (Str.ofString "") (cs.map fun c => (⟨#[c]⟩ : Str))).cps.toList = cs := by
        rw [codes_join0]
        clear e6 l6 o6
        induction cs with
        | nil => rfl
        | cons x r ih =>
          rw [List.map_cons, List.flatMap_cons, ih]
          simp
      have sum1 : ((cs.map fun c => (⟨#[c]⟩ : Str)).map (·.length)).sum = cs.length := by
        clear e6 l6 o6 codes
        induction cs with
        | nil => rfl
        | cons x r ih =>
          simp only [List.map_cons, List.sum_cons, List.length_cons, ih]
          show 1 + r.length = _
          omega
      refine ⟨_, D, (cs.map fun c => (⟨#[c]⟩ : Str)), rfl, rfl, .inl (SqL.of (by rw [e6, List.map_map]; rfl)), ?_, ?_⟩
      · have : (Str.ofString "").length = 0 := by decide +kernel
        rw [this, sum1]
        omega
      obtain ⟨wd, ewd, wok⟩ : ∃ wd : Str, Txt.join (Str.ofString "") (cs.map fun c => (⟨#[c]⟩ : Str)) = wd ∧ TOk 8 wd := by
        refine ⟨_, rfl, ?_⟩
        rw [TL.join_eq]
        exact ⟨by rw [str_len, codes]; omega, by rw [codes]; exact o6⟩
      rw [ewd]
      have w8 := wok.1
      have g6' : Go K p c H (n + 11) H6 := g6.mono (by omega)
      clear e6 l6 o6 codes sum1 ewd g6
      refine ⟨_, rfl, _, rfl, _, rfl, Nat.le_trans w8 (by decide), _, _, rfl, rfl, p, c, _, _, rfl, g6'.pen, g6'.cel, by omega, by omega, by omega, fun H7 at_ g7 at0 at1 => ?_⟩
      refine ⟨_, rfl, _, rfl, _, rfl, _, rfl, by decide +kernel, p, c, _, _, rfl, g7.pen, g7.cel, by omega, by decide +kernel, by decide +kernel, fun H8 r8 g8 a8 b8 => ?_⟩
      obtain ⟨c8, hc8, ec8⟩ := atI_lt (xs := (Str.ofString " !\"#$&'()*+,-./0123456789:;<=>?@ABCDEFGHIJKLMNOPQRSTUVWXYZ[\\]^_`abcdefghijklmnopqrstuvwxyz{|}~\n").cps.toList) a8 (by rw [← str_len]; exact b8)
      refine ⟨_, r8, c8, rfl, rfl, by decide +kernel, ec8, ?_⟩
      have sok : TOk 1 (⟨#[c8]⟩ : Str) := by
        refine ⟨by show (1 : Nat) ≤ 1; decide, fun x hx => ?_⟩
        have : x = c8 := by simpa using hx
        subst this
        exact (show ∀ c ∈ (Str.ofString " !\"#$&'()*+,-./0123456789:;<=>?@ABCDEFGHIJKLMNOPQRSTUVWXYZ[\\]^_`abcdefghijklmnopqrstuvwxyz{|}~\n").cps.toList, c < 128 by decide +kernel) _ hc8
      have G8 : Go K p c H (n + 13) H8 := (g6'.trans (g7.trans g8)).mono (by omega)
      refine ⟨_, rfl, _, _, rfl, rfl, _, rfl, ite2 (fun z => ?_) (fun z => ?_)⟩
      · exact ⟨_, rfl, k _ _ (G8.mono (by omega)) (wok.mono (by decide))⟩
      have wl : wd.length ≤ sizeLine := Nat.le_trans w8 (by decide)
      have c1 := cut_ok wok none (some at_)
      have lft := tok_app c1 sok
      have c1l := c1.1
      have s1l := sok.1
      have sml : ∀ {n : Nat}, n ≤ 100 → n ≤ sizeLine := fun q => Nat.le_trans q (by decide)
      refine ⟨_, rfl, rfl, _, rfl, ite2 (fun z2 => ?_) (fun z2 => ?_)⟩
      · have c2 := cut_ok wok (some at_) none
        have c2l := c2.1
        have l2 := lft.1
        exact ⟨_, rfl, _, rfl, _, rfl, wd, rfl, wl, _, rfl, _, _, rfl, rfl, sml (by omega), _, rfl, _, rfl, _, rfl, wd, rfl, wl, _, _, rfl, rfl, sml (by omega), k _ _ (G8.mono (by omega)) ((tok_app lft c2).mono (by omega))⟩
      refine ⟨_, rfl, rfl, _, rfl, ite2 (fun z3 => ?_) (fun z3 => ?_)⟩
      · have c2 := cut_ok wok (some (at_ + 1)) none
        have c2l := c2.1
        have l2 := lft.1
        exact ⟨_, rfl, _, rfl, _, rfl, wd, rfl, wl, _, rfl, _, _, rfl, rfl, sml (by omega), _, rfl, _, rfl, _, _, rfl, rfl, at_ + 1, rfl, wd, rfl, wl, _, _, rfl, rfl, sml (by omega), k _ _ (G8.mono (by omega)) ((tok_app lft c2).mono (by omega))⟩
      have z' : ¬ way < 2 := fun q => z (decide_eq_true q)
      have z2' : ¬ way = 2 := fun q => z2 (decide_eq_true (by rw [q]))
      have z3' : ¬ way = 3 := fun q => z3 (decide_eq_true (by rw [q]))
      refine ⟨_, rfl, 1, rfl, wd, rfl, wl, _, rfl, _, rfl, wd, wd, rfl, rfl, sml (by omega), (by show 2 ≤ sizeLine; decide), fun l3 hl3 => ?_⟩
      generalize hX : upd H8 l3 _ = H9
      obtain ⟨S9, f9⟩ := alloc hl3 hX
      clear hX
      obtain ⟨v, hv, ev⟩ := atI_lt (xs := [V.str (cutS wd (some 1) none), V.str (wd ++ wd)]) (i := way - 4) (by omega) (by show way - 4 < ((2 : Nat) : Int); omega)
      obtain ⟨t, rfl, ht⟩ : ∃ t, v = V.str t ∧ TOk 20 t := by
        have q : v = V.str (cutS wd (some 1) none) ∨ v = V.str (wd ++ wd) := by simpa using hv
        rcases q with q | q
        · exact ⟨_, q, (cut_ok wok _ _).mono (by decide)⟩
        · exact ⟨_, q, (tok_app wok wok).mono (by decide)⟩
      exact ⟨_, rfl, _, _, rfl, rfl, l3, _, _, _, rfl, rfl, SqL.of f9, ev, k _ _ ((G8.same S9).mono (by omega)) ht⟩
def spWholeL (K : PySem.W.Frag) : Sp := fun vs H Q _ => ∃ (v : V) (lo hi : Int), vs = [v, .int lo, .int hi] ∧ Any K H v ∧ Q (.bl (betV lo hi v)) H
theorem ok_whole (T : Txt w K mg) : FnOk P w K mg base CX0 1 T.a_whole T.d_whole ["_law_odd", "_law_least", "_law_most"] (spWholeL K) := by
  refine T.F_whole.ok sc_whole (fun vs H Q E h => ?_) (fun cdv A outer s H vs Q E hr h => ?_)
  · obtain ⟨v, lo, hi, rfl, _⟩ := h
    rfl
  · obtain ⟨v, lo, hi, rfl, hv, k⟩ := h
    refine ⟨_, (pss_one (ps_ret (pe_and (pe_callB (k_isi K) (by rfl) T.z_isinstance (by decide +kernel) (pa_cons (pv 0) (pa_cons (pe_bltn (v := .ty "int") (by rfl) T.z_int (by decide +kernel) rfl) pa_nil))) (pe_and (pe_not (pe_callB (k_isi K) (by rfl) T.z_isinstance (by decide +kernel) (pa_cons (pv 0) (pa_cons (pe_bltn (v := .ty "bool") (by rfl) T.z_bool (by decide +kernel) rfl) pa_nil)))) (pe_one (pe_chain op_le op_le (pv 1) (pv 0) (pv 2))))))), ?_⟩
    obtain ⟨ty, t1, t2, t3, _⟩ := hv.ty
    refine ⟨_, rfl, _, _, _, _, _, rfl, ClsV.ty "int", t1, t2, _, rfl, ?_⟩
    cases hv with
    | int i =>
      refine ⟨_, rfl, _, _, _, _, false, rfl, ClsV.ty "bool", t1, t3, _, rfl, _, rfl, ?_⟩
      show if true = true then _ else _
      refine ⟨_, rfl, _, rfl, _, _, rfl, rfl, _, rfl, ?_⟩
      have k : Q (V.bl (decide (lo ≤ i) && decide (i ≤ hi))) H := k
      cases z : decide (lo ≤ i) with
      | true =>
        rw [z, Bool.true_and] at k
        exact ⟨_, rfl, _, _, rfl, rfl, k⟩
      | false =>
        rw [z, Bool.false_and] at k
        exact k
    | bl b =>
      refine ⟨_, rfl, _, _, _, _, true, rfl, ClsV.ty "bool", t1, t3, _, rfl, _, rfl, ?_⟩
      exact k
    | _ => exact k
theorem ok_named (T : Txt w K mg) : FnOk P w K mg base CX0 1 T.a_named T.d_named ["_law_odd"] (spNameV K) := by
  refine T.F_named.ok sc_named (fun vs H Q E h => ?_) (fun cdv A outer s H vs Q E hr h => ?_)
  · obtain ⟨i, rfl, _⟩ := h
    rfl
  · obtain ⟨v, rfl, hv, k⟩ := h
    refine ⟨_, (pss_cons (ps_if (PW.pt (pw_or (pt_not (pt_val (pe_callB (k_isi K) (by rfl) T.z_isinstance (by decide +kernel) (pa_cons (pv 0) (pa_cons (pe_bltn (v := .ty "str") (by rfl) T.z_str (by decide +kernel) rfl) pa_nil))))) (pw_or1 (pt_not (pt_chain op_le op_le pe_int (pe_callB call_len_str (by rfl) T.z_len (by decide +kernel) (pa_cons (pv 0) pa_nil)) pe_int))))) (pss_one (ps_ret pe_bl)) pss_nil)
  (pss_one (ps_ret (pe_cmpR (k_eqD K hr.units) (pe_lc (own := [("_law_sign", 1)]) rfl sc_named.nd (pi_str (pv 0)) (blkOk_by (own := [("_law_sign", 1)]) (N := ["_law_odd", "_law_sign"]) (sc := defScope s_named) (by decide +kernel)) (fun _ _ _ _ _ => (pg_name (i := 1) sc_named.nd rfl (by first | exact Or.inl rfl | exact Or.inr rfl))) (fun _ _ _ _ _ => (pts_one (pt_cmpR op_notIn_str (pv 1) pe_str (by rfl)))) (fun _ _ _ _ _ => (pv 1))) (pe_lst pa_nil) (nomark _))))), ?_⟩
    obtain ⟨ty, t1, _, _, t4⟩ := hv.ty
    refine ⟨_, rfl, _, _, _, _, _, rfl, ClsV.ty "str", t1, t4, _, rfl, ?_⟩
    cases hv with
    | @str t ht =>
      show if false = true then _ else _
      have t400 := ht.1
      refine ⟨_, rfl, _, rfl, Nat.le_trans t400 (by decide), _, _, rfl, rfl, _, rfl, ?_⟩
      have no : decide ((1 : Int) ≤ (t.length : Int)) = false ∨ decide ((t.length : Int) ≤ 8) = false → nameV (.str t) = false := fun z => by
        show (decide _ && decide _ && _) = false
        rcases z with z | z <;> rw [z] <;> simp
      cases z1 : decide ((1 : Int) ≤ (t.length : Int)) with
      | false =>
        have q := k H (Same.refl _)
        rw [no (.inl z1)] at q
        exact ⟨_, rfl, q⟩
      | true =>
        refine ⟨_, _, rfl, rfl, _, rfl, ?_⟩
        cases z2 : decide ((t.length : Int) ≤ 8) with
        | false =>
          have q := k H (Same.refl _)
          rw [no (.inr z2)] at q
          exact q
        | true =>
          have t8 : (t.length : Int) ≤ 8 := of_decide_eq_true z2
          show if false = true then _ else _
          refine ⟨_, rfl, t, rfl, fun D hD => ?_⟩
          refine lc_it walk_str (fun i H' => Same H H' ∧ H' D = some (.lst (((t.cps.toList.take i).filter fun c => !letter c).map fun c => V.str ⟨#[c]⟩))) ⟨same_new (Same.refl _) hD, upd_same⟩ (fun _ _ _ _ => trivial) ?_ ?_
          · rintro i x _ H2 hi ⟨s2, e2⟩ ⟨rfl, c, hc, rfl⟩
            have hc2 : t.cps.toList[i]? = some c := by rw [Array.getElem?_toList]; exact hc
            have c128 := ht.2 c (List.mem_of_getElem? hc2)
            refine ⟨rfl, _, rfl, _, _, rfl, rfl, _, rfl, ?_⟩
            rw [letter_not c c128]
            refine ite2 (fun z => ?_) (fun z => ?_)
            · refine ⟨_, rfl, _, e2, ?_, same_own s2 hD, ?_⟩
              · rw [List.length_map]
                have := List.length_filter_le (fun c => !letter c) (t.cps.toList.take i)
                rw [List.length_take] at this
                have e9 : t.cps.size = t.length := rfl
                exact small1000 (by omega)
              · rw [upd_same, List.take_add_one, hc2, List.filter_append]
                show some (HO.lst (_ ++ _)) = some (HO.lst (List.map _ (_ ++ List.filter _ [c])))
                rw [show List.filter (fun c => !letter c) [c] = [c] from List.filter_cons_of_pos (p := fun c => !letter c) z, List.map_append]
                rfl
            · refine ⟨s2, ?_⟩
              rw [List.take_add_one, hc2, List.filter_append]
              show _ = some (HO.lst (List.map _ (_ ++ List.filter _ [c])))
              rw [show List.filter (fun c => !letter c) [c] = [] from List.filter_cons_of_neg (p := fun c => !letter c) z, List.append_nil]
              exact e2
          · rintro H2 ⟨s2, e2⟩
            refine ⟨(by show 0 ≤ sizeLine; decide), fun l hl => ?_⟩
            generalize hX : upd H2 l _ = H3
            obtain ⟨S3, f3⟩ := alloc hl hX
            clear hX
            have hall : (t.cps.toList.take t.cps.size) = t.cps.toList := List.take_of_length_le (by simp)
            rw [hall] at e2
            have dps : ∀ cs : List Nat, DpAll K H3 (cs.map fun c => V.str ⟨#[c]⟩) (cs.map fun c => PyData.str ⟨#[c]⟩) := fun cs => by
              induction cs with
              | nil => exact .nil
              | cons c r ih => exact .cons (.str _) ih
            have rep : RepOk (.list ((t.cps.toList.filter fun c => !letter c).map fun c => PyData.str ⟨#[c]⟩)) 1 800 := by
              refine (RepOk.list (k := 0) (n := 1) fun d hd => ?_).mono (Nat.le_refl _) ?_
              · obtain ⟨c, hc, rfl⟩ := List.mem_map.mp hd
                refine RepOk.tok ⟨by show (1 : Nat) ≤ 1; decide, fun x hx => ?_⟩
                have : x = c := by simpa using hx
                subst this
                exact ht.2 x (List.mem_filter.mp hc).1
              · rw [List.length_map]
                have := List.length_filter_le (fun c => !letter c) t.cps.toList
                rw [← str_len] at this
                omega
            refine ⟨_, .list [], .lst (SqL.of (S3 _ _ e2)) (dps _), .lst (SqL.of f3) .nil, rep.shaped (by decide), by decide +kernel, ?_⟩
            have e3 : nameV (.str t) = PyData.eqv (.list ((t.cps.toList.filter fun c => !letter c).map fun c => PyData.str ⟨#[c]⟩)) (.list []) := by
              show (decide _ && decide _ && _) = _
              rw [z1, z2, Bool.true_and, Bool.true_and]
              unfold lettersS
              cases q : t.cps.toList.filter fun c => !letter c with
              | nil =>
                rw [List.filter_eq_nil_iff] at q
                rw [show PyData.eqv (.list (([] : List Nat).map fun c => PyData.str ⟨#[c]⟩)) (.list []) = true by decide +kernel, List.all_eq_true]
                intro c hc
                have := q c hc
                simpa using this
              | cons c r =>
                have hm : c ∈ t.cps.toList.filter fun c => !letter c := by rw [q]; exact List.mem_cons_self ..
                obtain ⟨m1, m2⟩ := List.mem_filter.mp hm
                have : PyData.eqv (.list ((c :: r).map fun c => PyData.str ⟨#[c]⟩)) (.list []) = false := rfl
                rw [this, List.all_eq_false]
                exact ⟨c, m1, by simpa using m2⟩
            rw [← e3]
            exact k H3 (s2.trans S3)
    | _ => exact k H (Same.refl _)
def spRight (K : PySem.W.Frag) : Sp := fun vs H Q _ => ∃ (v : V) (d : PyData), vs = [v] ∧ Any K H v ∧ (∀ H', Same H H' → Any K H' v) ∧ Dq K H v d ∧ ∀ H', Same H H' → Q (.bl true) H'
theorem bl_dp {K : PySem.W.Frag} {H : Hp} {a : Addr} {x y z : Bool} (h : H a = some (.lst [.bl x, .bl y, .bl z])) : Dq K H (.ref a) (.list [.bool x, .bool y, .bool z]) :=
  .dp (.lst (SqL.of h) (.cons (.bl _) (.cons (.bl _) (.cons (.bl _) .nil)))) (RepOk.list (k := 0) (n := 0) fun d hd => by
    have : d = .bool x ∨ d = .bool y ∨ d = .bool z := by simpa using hd
    rcases this with rfl | rfl | rfl <;> exact RepOk.bool _) (by decide) (by show 3 * (0 + 1) ≤ 40000; decide)
theorem ok_right (T : Txt w K mg) : GOk P w K mg base CX0 3 T.a_right T.d_right ["_law_odd"] (spRight K) := by
  have G_whole := ok_whole (P := P) (base := base) T
  have G_named := ok_named (P := P) (base := base) T
  have G_is_minute := ok_is_minute (P := P) (base := base) T
  have G_is_order := ok_is_order (P := P) (base := base) T
  have G_is_name := ok_is_name (P := P) (base := base) T
  refine GOk.body T.F_right sc_right (fun vs H Q E h => ?_) (fun cdv A outer s H vs Q E hr hG h => ?_)
  · obtain ⟨v, d, rfl, _⟩ := h
    rfl
  · obtain ⟨v, d, rfl, hv, hvs, hd, k⟩ := h
    have hr_is_minute := hr
    have hr_is_order := hr
    have hr_is_name := hr.mono (show 1 ≤ 2 by decide)
    have hr_whole := hr_is_name
    have hr_named := hr_is_name
    refine ⟨_, (pss_cons (ps_set (i := 1) sc_right.nd rfl (by first | exact Or.inl rfl | exact Or.inr rfl) (pe_callB (k_repr4 K hG hr.units) (by rfl) T.z_repr (by decide +kernel) (pa_cons (pv 0) pa_nil)))
  (pss_cons (ps_set (i := 2) sc_right.nd rfl (by first | exact Or.inl rfl | exact Or.inr rfl) (pe_lst (pa_cons (pe_call G_whole hr_whole (by rfl) T.g_whole T.F_whole.kp T.b_whole .nil pass0 (pa_cons (pv 0) (pa_cons pe_int (pa_cons pe_int pa_nil)))) (pa_cons (pe_call G_whole hr_whole (by rfl) T.g_whole T.F_whole.kp T.b_whole .nil pass0 (pa_cons (pv 0) (pa_cons (pe_un un_neg pe_int) (pa_cons pe_int pa_nil)))) (pa_cons (pe_call G_named hr_named (by rfl) T.g_named T.F_named.kp T.b_named .nil pass0 (pa_cons (pv 0) pa_nil)) pa_nil)))))
  (pss_cons (ps_set (i := 3) sc_right.nd rfl (by first | exact Or.inl rfl | exact Or.inr rfl) (pe_lst (pa_cons (pe_call G_is_minute hr_is_minute (by rfl) T.g_is_minute T.F_is_minute.kp T.b_is_minute .nil pass0 (pa_cons (pv 0) pa_nil)) (pa_cons (pe_call G_is_order hr_is_order (by rfl) T.g_is_order T.F_is_order.kp T.b_is_order .nil pass0 (pa_cons (pv 0) pa_nil)) (pa_cons (pe_call G_is_name hr_is_name (by rfl) T.g_is_name T.F_is_name.kp T.b_is_name .nil pass0 (pa_cons (pv 0) pa_nil)) pa_nil)))))
  (pss_cons (ps_set (i := 4) sc_right.nd rfl (by first | exact Or.inl rfl | exact Or.inr rfl) (pe_lst (pa_cons (pe_callK0 G_is_minute hr_is_minute (by rfl) T.g_is_minute T.F_is_minute.kp T.kb0_is_minute pass0 (pk_cons (pv 0) pk_nil)) (pa_cons (pe_callK0 G_is_order hr_is_order (by rfl) T.g_is_order T.F_is_order.kp T.kb0_is_order pass0 (pk_cons (pv 0) pk_nil)) (pa_cons (pe_callK0 G_is_name hr_is_name (by rfl) T.g_is_name T.F_is_name.kp T.kb0_is_name pass0 (pk_cons (pv 0) pk_nil)) pa_nil)))))
  (pss_one (ps_ret (pe_and (pe_cmpR op_eq (pe_callB (k_repr4 K hG hr.units) (by rfl) T.z_repr (by decide +kernel) (pa_cons (pv 3) pa_nil)) (pe_callB (k_repr4 K hG hr.units) (by rfl) T.z_repr (by decide +kernel) (pa_cons (pv 2) pa_nil)) (nomark _)) (pe_and (pe_cmpR op_eq (pe_callB (k_repr4 K hG hr.units) (by rfl) T.z_repr (by decide +kernel) (pa_cons (pv 4) pa_nil)) (pe_callB (k_repr4 K hG hr.units) (by rfl) T.z_repr (by decide +kernel) (pa_cons (pv 2) pa_nil)) (nomark _)) (pe_one (pe_cmpR op_eq (pe_callB (k_repr4 K hG hr.units) (by rfl) T.z_repr (by decide +kernel) (pa_cons (pv 0) pa_nil)) (pv 1) (nomark _))))))))))), ?_⟩
    refine ⟨_, rfl, v, d, rfl, hd, ?_⟩
    refine ⟨_, rfl, v, 0, 99999, rfl, hv, _, rfl, 4, rfl, v, -4, 4, rfl, hv, _, rfl, v, rfl, hv, fun H1 S1 => ⟨(by show 3 ≤ sizeLine; decide), fun l1 hl1 => ?_⟩⟩
    generalize hX : upd H1 l1 _ = H2
    obtain ⟨S2, f2⟩ := alloc hl1 hX
    clear hX
    have S12 := S1.trans S2
    have v2 := hvs _ S12
    refine ⟨_, rfl, v, rfl, v2, _, rfl, v, rfl, v2, _, rfl, v, rfl, v2, fun H3 S3 => ⟨(by show 3 ≤ sizeLine; decide), fun l2 hl2 => ?_⟩⟩
    generalize hX : upd H3 l2 _ = H4
    obtain ⟨S4, f4⟩ := alloc hl2 hX
    clear hX
    have S14 := S12.trans (S3.trans S4)
    have v4 := hvs _ S14
    refine ⟨_, rfl, v, rfl, v4, _, rfl, v, rfl, v4, _, rfl, v, rfl, v4, fun H5 S5 => ⟨(by show 3 ≤ sizeLine; decide), fun l3 hl3 => ?_⟩⟩
    generalize hX : upd H5 l3 _ = H6
    obtain ⟨S6, f6⟩ := alloc hl3 hX
    clear hX
    have S16 := S14.trans (S5.trans S6)
    have q2 := bl_dp (K := K) ((S3.trans (S4.trans (S5.trans S6))) _ _ f2)
    have q4 := bl_dp (K := K) ((S5.trans S6) _ _ f4)
    have q6 := bl_dp (K := K) f6
    refine ⟨_, rfl, _, _, rfl, q4, _, rfl, _, _, rfl, q2, rfl, _, rfl, ?_⟩
    rw [decide_eq_true rfl]
    show if true = true then _ else _
    refine ⟨_, rfl, _, _, rfl, q6, _, rfl, _, _, rfl, q2, rfl, _, rfl, ?_⟩
    rw [decide_eq_true rfl]
    show if true = true then _ else _
    refine ⟨_, rfl, _, _, rfl, hd.same S16, _, rfl, rfl, ?_⟩
    rw [decide_eq_true rfl]
    exact k _ S16
def spLaw (K : PySem.W.Frag) : Sp := fun vs H Q _ => ∃ (a : Addr) (ns : List Int), vs = [.ref a] ∧ SqL K H a (ns.map V.int) ∧ ns.length ≤ 63 ∧ ∀ H', Q (.bl true) H'
theorem law_in (K : PySem.W.Frag) (H : Hp) (a : Addr) (ns : List Int) (h1 : ns.length ≤ 63) (_ : ∀ k ∈ ns, Builtin.Int.intBits k ≤ 1048576) (_ : Only H) (h2 : SqL K H a (ns.map V.int)) : spLaw K [.ref a] H (fun v _ => v = .bl true) fun _ _ _ => False :=
  ⟨a, ns, rfl, h2, h1, fun _ => rfl⟩
theorem cut_all (xs : List V) (i : Nat) (h : xs.length ≤ i) : cutV xs none (some (i : Int)) = xs := by
  unfold cutV
  rw [HT.sIx_none, HT.sIx_nat, List.drop_zero, Nat.min_eq_right h, Nat.sub_zero, List.take_length]
/-- a thing that may be told: of a known sort, with its data -/
structure Told (K : PySem.W.Frag) (H : Hp) (v : V) (d : PyData) : Prop where
  any : ∀ H', Same H H' → Any K H' v
  dat : Dq K H v d
theorem Told.same {K : PySem.W.Frag} {H H1 : Hp} {v : V} {d : PyData} (h : Told K H v d) (s : Same H H1) : Told K H1 v d := ⟨fun H' q => h.any H' (s.trans q), h.dat.same s⟩
/-- a number or a text that is short -/
inductive Odd : V → PyData → Prop
  | int {i : Int} : i.natAbs < 2 ^ 398 → Odd (.int i) (.int i)
  | str {t : Str} : TOk 400 t → Odd (.str t) (.str t)
theorem Odd.rep {v : V} {d : PyData} (h : Odd v d) : RepOk d 0 400 := by
  cases h with
  | int h => exact (RepOk.int h).mono (Nat.le_refl _) (by decide)
  | str h => exact RepOk.tok h
theorem Odd.dp {K : PySem.W.Frag} {H : Hp} {v : V} {d : PyData} (h : Odd v d) : Dp K H v d := by
  cases h with
  | int h => exact .int _
  | str h => exact .str _
theorem Odd.any {K : PySem.W.Frag} {H : Hp} {v : V} {d : PyData} (h : Odd v d) : Any K H v := by
  cases h with
  | int h => exact .int _
  | str h => exact .str h
theorem Odd.told {K : PySem.W.Frag} {H : Hp} {v : V} {d : PyData} (h : Odd v d) : Told K H v d := ⟨fun _ _ => h.any, .dp h.dp h.rep (by decide) (by decide)⟩
theorem tup_told {K : PySem.W.Frag} {H : Hp} {a : Addr} {xs : List V} {ds : List PyData} {k n : Nat} (h : H a = some (.tup xs)) (hd : DpAll K H xs ds) (hr : ∀ d ∈ ds, RepOk d k n) (hk : k ≤ 30) (hn : ds.length * (n + 1) ≤ 40000) : Told K H (.ref a) (.tuple ds) :=
  ⟨fun _ s => .tup (.base (.tup (s _ _ h))), .dp (.tup (SqT.of h) hd) (RepOk.tuple hr) (by omega) hn⟩
theorem lst_told {K : PySem.W.Frag} {H : Hp} {a : Addr} {xs : List V} {ds : List PyData} {k n : Nat} (h : H a = some (.lst xs)) (hd : DpAll K H xs ds) (hr : ∀ d ∈ ds, RepOk d k n) (hk : k ≤ 30) (hn : ds.length * (n + 1) ≤ 40000) : Told K H (.ref a) (.list ds) :=
  ⟨fun _ s => .lst (.base (.lst (s _ _ h))), .dp (.lst (SqL.of h) hd) (RepOk.list hr) (by omega) hn⟩
theorem str_odd {v : V} {d : PyData} {H : Hp} {Q : VK} (h : Odd v d) (k : ∀ t, TOk 400 t → Q (.str t) H) : rStrOf [v] H Q := by
  cases h with
  | int h => exact .inl ⟨_, rfl, Nat.lt_trans (log2_small h) (by decide), k _ ((int_tok h (by decide)).mono (by decide))⟩
  | str h => exact .inr ⟨_, rfl, k _ h⟩
theorem Odd.sc {v : V} {d : PyData} (h : Odd v d) : Sc v d := by
  cases h with
  | int h => exact .int _
  | str h => exact .str _
theorem ok_law (T : Txt w K mg) : GOk P w K mg base CX0 4 T.a_law T.d_law ["_law_script"] (spLaw K) := by
  have G_draw := ok_draw (P := P) (base := base) T
  have G_number := ok_number (P := P) (base := base) T
  have G_text := ok_text (P := P) (base := base) T
  have G_law_right := ok_right (P := P) (base := base) T
  have G_right := G_law_right
  refine GOk.body T.F_law sc_law (fun vs H Q E h => ?_) (fun cdv A outer s H vs Q E hr hG h => ?_)
  · obtain ⟨a, ns, rfl, _⟩ := h
    rfl
  · obtain ⟨a, ns, rfl, hS, hl, k⟩ := h
    have hr_right := hr
    have hr_number := hr.mono (show 2 ≤ 3 by decide)
    have hr_text := hr_number
    have hr_draw := hr.mono (show 1 ≤ 3 by decide)
    refine ⟨_, (pss_cons (ps_set (i := 1) sc_law.nd rfl (by first | exact Or.inl rfl | exact Or.inr rfl) (pe_lst (pa_cons (pe_callTy (k_listOf K) (by rfl) T.z_list (by decide +kernel) (pa_cons (pe_slice (k_slL K) (pv 0) po_none (po_some pe_int)) pa_nil)) (pa_cons pe_int (pa_cons pe_int pa_nil)))))
  (pss_cons (ps_for PassesOwn.never rfl (pi_range1 (by rfl) T.z_range (pa_cons pe_int pa_nil)) (pg_name (i := 2) sc_law.nd rfl (by first | exact Or.inl rfl | exact Or.inr rfl)) (pss_cons (ps_set (i := 3) sc_law.nd rfl (by first | exact Or.inl rfl | exact Or.inr rfl) (pe_ix (kx_list K) (pe_lst (pa_cons (pe_call G_number hr_number (by rfl) T.g_number T.F_number.kp T.b_number .nil pass0 (pa_cons (pv 1) pa_nil)) (pa_cons (pe_call G_text hr_text (by rfl) T.g_text T.F_text.kp T.b_text .nil pass0 (pa_cons (pv 1) pa_nil)) pa_nil))) (pe_call G_draw hr_draw (by rfl) T.g_draw T.F_draw.kp T.b_draw .nil pass0 (pa_cons (pv 1) (pa_cons pe_int pa_nil))) (fun _ _ => rfl)))
  (pss_cons (ps_set (i := 4) sc_law.nd rfl (by first | exact Or.inl rfl | exact Or.inr rfl) (pe_ix (kx_list K) (pe_lst (pa_cons (pv 3) (pa_cons (pv 3) (pa_cons (pe_tup (pa_cons (pv 3) pa_nil)) (pa_cons (pe_lst (pa_cons (pv 3) pa_nil)) (pa_cons (pe_disp (pps_cons pe_str (pv 3) pps_nil) (by rfl) (by rfl) (fun z => by cases z) (by decide)) (pa_cons (pe_callTy k_strOf (by rfl) T.z_str (by decide +kernel) (pa_cons (pv 3) pa_nil)) pa_nil))))))) (pe_call G_draw hr_draw (by rfl) T.g_draw T.F_draw.kp T.b_draw .nil pass0 (pa_cons (pv 1) (pa_cons pe_int pa_nil))) (fun _ _ => rfl)))
  (pss_one (ps_if (PW.pt (pw_or (pt_not (pt_val (pe_callG G_right hr_right hG (by rfl) T.g_right T.F_right.kp T.b_right .nil pass0 (pa_cons (pv 3) pa_nil)))) (pw_or1 (pt_not (pt_val (pe_callG G_right hr_right hG (by rfl) T.g_right T.F_right.kp T.b_right .nil pass0 (pa_cons (pv 4) pa_nil))))))) (pss_one (ps_ret pe_bl)) pss_nil)))))
  (pss_one (ps_ret (pe_callB (k_all K rfl) (by rfl) T.z_all (by decide +kernel) (pa_cons (pe_lc (own := [("_law_odd", 3)]) rfl sc_law.nd (k_piT K (pe_tup (pa_cons pe_non (pa_cons pe_bl (pa_cons pe_bl (pa_cons pe_int (pa_cons pe_int (pa_cons pe_str (pa_cons pe_str (pa_cons (pe_tup pa_nil) (pa_cons (pe_lst pa_nil) (pa_cons pe_dnewK (pa_cons (pe_tup (pa_cons pe_str (pa_cons pe_int pa_nil))) pa_nil))))))))))))) (blkOk_by (own := [("_law_odd", 3)]) (N := ["_law_script", "_law_pen", "_law_turn", "_law_odd", "_law_wrapped"]) (sc := defScope s_law) (by decide +kernel)) (fun _ _ _ _ _ => (pg_name (i := 3) sc_law.nd rfl (by first | exact Or.inl rfl | exact Or.inr rfl))) (fun _ _ _ _ _ => pts_nil) (fun _ _ _ _ _ => (pe_callG G_right hr_right hG (by rfl) T.g_right T.F_right.kp T.b_right .nil pass0 (pa_cons (pv 3) pa_nil)))) pa_nil)))))), ?_⟩
    refine ⟨_, rfl, _, rfl, a, _, rfl, hS, fun c0 hc0 => ?_⟩
    generalize hX : upd H c0 _ = H1
    obtain ⟨S1, f1⟩ := alloc hc0 hX
    clear hX
    refine ⟨c0, _, rfl, .inl (SqL.of f1), fun c hc => ?_⟩
    generalize hX : upd H1 c _ = H2
    obtain ⟨S2, f2⟩ := alloc hc hX
    clear hX
    refine ⟨(by show 3 ≤ sizeLine; decide), fun p hp0 => ?_⟩
    generalize hX : upd H2 p _ = H3
    obtain ⟨S3, f3⟩ := alloc hp0 hX
    clear hX
    rw [show ((63 : Int)) = ((63 : Nat) : Int) from rfl, cut_all _ _ (by rw [List.length_map]; exact hl)] at f2
    have hp : PenAt H3 p c 0 := ⟨0, 0, f3, Int.le_refl _, Int.le_refl _, Int.le_refl _⟩
    have hc : Cells K H3 p c := ⟨ne_of_none f2 hp0, ns, SqL.of (S3 _ _ f2), hl⟩
    refine ⟨16, rfl, by decide, by decide, ?_⟩
    refine for_it walk_range (fun i σ H' => ∃ (x2 x3 x4 : Option V), σ = [some (.ref a), some (.ref p), x2, x3, x4] ∧ PenAt H' p c (100 * i) ∧ Cells K H' p c)
      ⟨none, none, none, rfl, hp, hc⟩ (fun _ _ _ _ _ => trivial) ?_ ?_
    · rintro i x σ _ H4 hi ⟨x2, x3, x4, rfl, hp2, hc2⟩ ⟨rfl, rfl⟩
      have hi4 : i < 16 := hi
      refine ⟨_, rfl, p, c, _, rfl, hp2, hc2, by omega, fun H5 num g5 hnum => ?_⟩
      refine ⟨_, rfl, p, c, _, rfl, g5.pen, g5.cel, by omega, fun H6 txt g6 htxt => ⟨(by show 2 ≤ sizeLine; decide), fun l hl0 => ?_⟩⟩
      have G6 := g5.trans g6
      generalize hX : upd H6 l _ = H7
      obtain ⟨S7, f7⟩ := alloc hl0 hX
      have G7 := G6.same S7
      have nl := Ne.symm (G6.ne_new hl0)
      clear hX
      refine ⟨_, rfl, p, c, _, _, rfl, G7.pen, G7.cel, by omega, by decide, by decide, fun H8 r8 g8 a8 b8 => ?_⟩
      obtain ⟨v, hv, ev⟩ := atI_lt (xs := [V.int num, V.str txt]) a8 (by show r8 < ((2 : Nat) : Int); exact b8)
      obtain ⟨d, od⟩ : ∃ d, Odd v d := by
        have q : v = V.int num ∨ v = V.str txt := by simpa using hv
        rcases q with q | q <;> subst q
        · exact ⟨_, .int hnum⟩
        · exact ⟨_, .str (htxt.mono (by decide))⟩
      refine ⟨l, _, _, _, rfl, rfl, g8.but.seqL nl (SqL.of f7), ev, ?_⟩
      have G8 := G7.trans g8
      refine ⟨_, rfl, _, rfl, _, rfl, (by show 1 ≤ sizeLine; decide), fun u1 hu1 => ?_⟩
      generalize hX : upd H8 u1 _ = H9
      obtain ⟨S9, f9⟩ := alloc hu1 hX
      have n1 := Ne.symm (G8.ne_new hu1)
      clear hX
      have G9 := G8.same S9
      refine ⟨_, rfl, (by show 1 ≤ sizeLine; decide), fun u2 hu2 => ?_⟩
      generalize hX : upd H9 u2 _ = H10
      obtain ⟨S10, f10⟩ := alloc hu2 hX
      have n2 := Ne.symm (G9.ne_new hu2)
      clear hX
      have G10 := G9.same S10
      intro u3 hu3
      have n3 := Ne.symm (G10.ne_new hu3)
      refine ⟨_, rfl, upd_same, [(.inr (Str.ofString "a"), v)], rfl, by show 1 ≤ 15; decide, ?_⟩
      generalize hX : upd (upd H10 u3 _) u3 _ = H11
      obtain ⟨S11, f11⟩ := owned (same_new (Same.refl _) hu3) hu3 hX
      clear hX
      have G11 := G10.same S11
      refine ⟨_, rfl, ?_⟩
      refine (show ∀ {σ : L2.St} {H : Hp} {Q : List V → Hp → Prop}, Q [] H → tNil σ H Q from fun q => q) ?_
      refine str_odd od fun t ht => ?_
      refine ⟨(by show 6 ≤ sizeLine; decide), fun l2 hl2 => ?_⟩
      generalize hX : upd H11 l2 _ = H12
      obtain ⟨S12, f12⟩ := alloc hl2 hX
      have nl2 := Ne.symm (G11.ne_new hl2)
      clear hX
      have G12 := G11.same S12
      refine ⟨_, rfl, p, c, _, _, rfl, G12.pen, G12.cel, by omega, by decide, by decide, fun H13 r13 g13 a13 b13 => ?_⟩
      obtain ⟨wv, hwv, ev2⟩ := atI_lt (xs := [v, v, V.ref u1, V.ref u2, V.ref u3, V.str t]) a13 (by show r13 < ((6 : Nat) : Int); exact b13)
      have G13 := G12.trans g13
      obtain ⟨wd, tw⟩ : ∃ wd, Told K H13 wv wd := by
        have q : wv = v ∨ wv = V.ref u1 ∨ wv = V.ref u2 ∨ wv = V.ref u3 ∨ wv = V.str t := by simpa using hwv
        rcases q with q | q | q | q | q <;> subst q
        · exact ⟨_, od.told⟩
        · exact ⟨_, tup_told (ds := [d]) (k := 0) (n := 400) (g13.but _ _ n1 (S12 _ _ (S11 _ _ (S10 _ _ f9)))) (.cons od.dp .nil) (fun x hx => by
            have : x = d := by simpa using hx
            subst this
            exact od.rep) (by decide) (by show 1 * 401 ≤ 40000; decide)⟩
        · exact ⟨_, lst_told (ds := [d]) (k := 0) (n := 400) (g13.but _ _ n2 (S12 _ _ (S11 _ _ f10))) (.cons od.dp .nil) (fun x hx => by
            have : x = d := by simpa using hx
            subst this
            exact od.rep) (by decide) (by show 1 * 401 ≤ 40000; decide)⟩
        · have f13 : H13 u3 = some (.dK [(.inr (Str.ofString "a"), v)]) := g13.but _ _ n3 (S12 _ _ f11)
          exact ⟨_, fun _ s => .dict (.base (.dK (s _ _ f13))), .d1 f13 od.sc od.rep (by decide) ⟨by decide +kernel, by decide +kernel⟩⟩
        · exact ⟨_, (Odd.str ht).told⟩
      refine ⟨l2, _, _, _, rfl, rfl, g13.but.seqL nl2 (SqL.of f12), ev2, ?_⟩
      have tv : Told K H13 v d := od.told
      refine ⟨_, rfl, v, d, rfl, tv.any _ (Same.refl _), tv.any, tv.dat, fun H14 S14 => ?_⟩
      refine ⟨_, rfl, ?_⟩
      show if false = true then _ else _
      have tw2 := tw.same S14
      refine ⟨_, rfl, wv, wd, rfl, tw2.any _ (Same.refl _), tw2.any, tw2.dat, fun H15 S15 => ?_⟩
      refine ⟨_, rfl, ?_⟩
      show if false = true then _ else _
      have G15 := G13.same (S14.trans S15)
      exact ⟨_, _, _, rfl, G15.pen.mono (by omega), G15.cel⟩
    · rintro σ H4 ⟨x2, x3, x4, rfl, hp2, hc2⟩
      refine ⟨(by show 0 ≤ sizeLine; decide), fun e1 he1 => ?_⟩
      generalize hX : upd H4 e1 _ = H5
      obtain ⟨S5, f5⟩ := alloc he1 hX
      clear hX
      refine ⟨(by show 0 ≤ sizeLine; decide), fun e2 he2 => ?_⟩
      generalize hX : upd H5 e2 _ = H6
      obtain ⟨S6, f6⟩ := alloc he2 hX
      clear hX
      intro e3 he3
      generalize hX : upd H6 e3 _ = H7
      obtain ⟨S7, f7⟩ := alloc he3 hX
      clear hX
      refine ⟨(by show 2 ≤ sizeLine; decide), fun e4 he4 => ?_⟩
      generalize hX : upd H7 e4 _ = H8
      obtain ⟨S8, f8⟩ := alloc he4 hX
      clear hX
      refine ⟨(by show 11 ≤ sizeLine; decide), fun u hu => ?_⟩
      generalize hX : upd H8 u _ = H9
      obtain ⟨S9, f9⟩ := alloc hu hX
      clear hX
      have all : ∀ x ∈ [V.non, V.bl true, V.bl false, V.int 0, V.int 1, V.str (Str.ofString ""), V.str (Str.ofString "port"), V.ref e1, V.ref e2, V.ref e3, V.ref e4], ∃ d, Told K H9 x d := by
        intro x hx
        have q : x = V.non ∨ x = V.bl true ∨ x = V.bl false ∨ x = V.int 0 ∨ x = V.int 1 ∨ x = V.str (Str.ofString "") ∨ x = V.str (Str.ofString "port") ∨ x = V.ref e1 ∨ x = V.ref e2 ∨ x = V.ref e3 ∨ x = V.ref e4 := by simpa using hx
        rcases q with q | q | q | q | q | q | q | q | q | q | q <;> subst q
        · exact ⟨_, fun _ _ => .non, .dp .non RepOk.none (by decide) (by decide)⟩
        · exact ⟨_, fun _ _ => .bl _, .dp (.bl _) (RepOk.bool _) (by decide) (by decide)⟩
        · exact ⟨_, fun _ _ => .bl _, .dp (.bl _) (RepOk.bool _) (by decide) (by decide)⟩
        · exact ⟨_, (Odd.int (i := 0) (by decide)).told⟩
        · exact ⟨_, (Odd.int (i := 1) (by decide)).told⟩
        · exact ⟨_, (Odd.str (t := Str.ofString "") ⟨by decide +kernel, by decide +kernel⟩).told⟩
        · exact ⟨_, (Odd.str (t := Str.ofString "port") ⟨by decide +kernel, by decide +kernel⟩).told⟩
        · exact ⟨_, tup_told (ds := []) (k := 0) (n := 0) (S9 _ _ (S8 _ _ (S7 _ _ (S6 _ _ f5)))) .nil (fun x hx => by simp at hx) (by decide) (by decide)⟩
        · exact ⟨_, lst_told (ds := []) (k := 0) (n := 0) (S9 _ _ (S8 _ _ (S7 _ _ f6))) .nil (fun x hx => by simp at hx) (by decide) (by decide)⟩
        · have q7 := S9 _ _ (S8 _ _ f7)
          exact ⟨_, fun _ s => .dict (.base (.dK (s _ _ q7))), .d0 q7⟩
        · exact ⟨_, tup_told (ds := [.str (Str.ofString "a"), .int 1]) (k := 0) (n := 8) (S9 _ _ f8) (.cons (.str _) (.cons (.int _) .nil)) (fun x hx => by
            have : x = .str (Str.ofString "a") ∨ x = .int 1 := by simpa using hx
            rcases this with rfl | rfl
            · exact RepOk.tok ⟨by decide +kernel, by decide +kernel⟩
            · exact (RepOk.int (by decide)).mono (by decide) (by decide)) (by decide) (by decide)⟩
      refine ⟨u, rfl, ⟨_, SqT.of f9⟩, fun D hD => ?_⟩
      refine lc_it (walk_tup (xs := [V.non, V.bl true, V.bl false, V.int 0, V.int 1, V.str (Str.ofString ""), V.str (Str.ofString "port"), V.ref e1, V.ref e2, V.ref e3, V.ref e4])) (fun i H' => Same H9 H' ∧ H' D = some (.lst ((List.replicate i true).map V.bl)))
        ⟨same_new (Same.refl _) hD, upd_same⟩ (fun i H' _ q => SqT.of (q.1 _ _ f9)) ?_ ?_
      · rintro i x H10 _ hi ⟨s2, e2⟩ ⟨rfl, hx⟩
        have hi11 : i < 11 := hi
        obtain ⟨d, td⟩ := all x (List.mem_of_getElem? hx)
        have td2 := td.same s2
        refine ⟨rfl, _, rfl, x, d, rfl, td2.any _ (Same.refl _), td2.any, td2.dat, fun H11 S11 => ⟨_, S11 _ _ e2, ?_, same_own (s2.trans S11) hD, ?_⟩⟩
        · rw [List.length_map, List.length_replicate]
          exact small1000 (by omega)
        · rw [upd_same, List.replicate_succ', List.map_append]
          rfl
      · rintro H10 ⟨s2, e7⟩
        refine ⟨D, _, rfl, SqL.of e7, ?_⟩
        have e3 : (List.replicate [V.non, V.bl true, V.bl false, V.int 0, V.int 1, V.str (Str.ofString ""), V.str (Str.ofString "port"), V.ref e1, V.ref e2, V.ref e3, V.ref e4].length true).all id = true := rfl
        rw [e3]
        exact k _
end
theorem all_mk {l : PySem.W.OpenLaw} {w : World} {K : PySem.W.Frag} {h : Heap} {mg : Str → Option Value} {fa : Addr} (X : K.In h) (G : h.Ns mainGlobals mg) (hfa : mg "law" = some (.ref fa))
    {f0 : Addr} {od0 an0 : Option Addr} {sl0 : Array (Option Value)} {oc0 kV0 dc0 pm0 cd0 ct0 : Value} (a0 : PySem.W.nsIn K mainGlobals "is_whole" = some (some (.ref f0))) (l0 : K.lookup f0 = some ⟨oc0, od0, .func (PySem.W.fnOf "is_whole" "is_whole" (defArgs s_is_whole) (defBody s_is_whole) (defScope s_is_whole) .none kV0 dc0 pm0 an0 cd0 ct0), sl0⟩) (c0 : PySem.W.codeIn K cd0 "is_whole" = true) (k0 : PySem.W.keepIn K (.ref f0) = true)
    {f1 : Addr} {od1 an1 : Option Addr} {sl1 : Array (Option Value)} {oc1 kV1 dc1 pm1 cd1 ct1 : Value} (a1 : PySem.W.nsIn K mainGlobals "is_minute" = some (some (.ref f1))) (l1 : K.lookup f1 = some ⟨oc1, od1, .func (PySem.W.fnOf "is_minute" "is_minute" (defArgs s_is_minute) (defBody s_is_minute) (defScope s_is_minute) .none kV1 dc1 pm1 an1 cd1 ct1), sl1⟩) (c1 : PySem.W.codeIn K cd1 "is_minute" = true) (k1 : PySem.W.keepIn K (.ref f1) = true)
    {f2 : Addr} {od2 an2 : Option Addr} {sl2 : Array (Option Value)} {oc2 kV2 dc2 pm2 cd2 ct2 : Value} (a2 : PySem.W.nsIn K mainGlobals "is_order" = some (some (.ref f2))) (l2 : K.lookup f2 = some ⟨oc2, od2, .func (PySem.W.fnOf "is_order" "is_order" (defArgs s_is_order) (defBody s_is_order) (defScope s_is_order) .none kV2 dc2 pm2 an2 cd2 ct2), sl2⟩) (c2 : PySem.W.codeIn K cd2 "is_order" = true) (k2 : PySem.W.keepIn K (.ref f2) = true)
    {f3 : Addr} {od3 an3 : Option Addr} {sl3 : Array (Option Value)} {oc3 kV3 dc3 pm3 cd3 ct3 : Value} (a3 : PySem.W.nsIn K mainGlobals "is_name" = some (some (.ref f3))) (l3 : K.lookup f3 = some ⟨oc3, od3, .func (PySem.W.fnOf "is_name" "is_name" (defArgs s_is_name) (defBody s_is_name) (defScope s_is_name) .none kV3 dc3 pm3 an3 cd3 ct3), sl3⟩) (c3 : PySem.W.codeIn K cd3 "is_name" = true) (k3 : PySem.W.keepIn K (.ref f3) = true)
    {f4 : Addr} {od4 an4 : Option Addr} {sl4 : Array (Option Value)} {oc4 kV4 dc4 pm4 cd4 ct4 : Value} (a4 : PySem.W.nsIn K mainGlobals "_law_draw" = some (some (.ref f4))) (l4 : K.lookup f4 = some ⟨oc4, od4, .func (PySem.W.fnOf "_law_draw" "_law_draw" (defArgs s_draw) (defBody s_draw) (defScope s_draw) .none kV4 dc4 pm4 an4 cd4 ct4), sl4⟩) (c4 : PySem.W.codeIn K cd4 "_law_draw" = true) (k4 : PySem.W.keepIn K (.ref f4) = true)
    {f5 : Addr} {od5 an5 : Option Addr} {sl5 : Array (Option Value)} {oc5 kV5 dc5 pm5 cd5 ct5 : Value} (a5 : PySem.W.nsIn K mainGlobals "_law_number" = some (some (.ref f5))) (l5 : K.lookup f5 = some ⟨oc5, od5, .func (PySem.W.fnOf "_law_number" "_law_number" (defArgs s_number) (defBody s_number) (defScope s_number) .none kV5 dc5 pm5 an5 cd5 ct5), sl5⟩) (c5 : PySem.W.codeIn K cd5 "_law_number" = true) (k5 : PySem.W.keepIn K (.ref f5) = true)
    {f6 : Addr} {od6 an6 : Option Addr} {sl6 : Array (Option Value)} {oc6 kV6 dc6 pm6 cd6 ct6 : Value} (a6 : PySem.W.nsIn K mainGlobals "_law_text" = some (some (.ref f6))) (l6 : K.lookup f6 = some ⟨oc6, od6, .func (PySem.W.fnOf "_law_text" "_law_text" (defArgs s_text) (defBody s_text) (defScope s_text) .none kV6 dc6 pm6 an6 cd6 ct6), sl6⟩) (c6 : PySem.W.codeIn K cd6 "_law_text" = true) (k6 : PySem.W.keepIn K (.ref f6) = true)
    {f7 : Addr} {od7 an7 : Option Addr} {sl7 : Array (Option Value)} {oc7 kV7 dc7 pm7 cd7 ct7 : Value} (a7 : PySem.W.nsIn K mainGlobals "_law_whole" = some (some (.ref f7))) (l7 : K.lookup f7 = some ⟨oc7, od7, .func (PySem.W.fnOf "_law_whole" "_law_whole" (defArgs s_whole) (defBody s_whole) (defScope s_whole) .none kV7 dc7 pm7 an7 cd7 ct7), sl7⟩) (c7 : PySem.W.codeIn K cd7 "_law_whole" = true) (k7 : PySem.W.keepIn K (.ref f7) = true)
    {f8 : Addr} {od8 an8 : Option Addr} {sl8 : Array (Option Value)} {oc8 kV8 dc8 pm8 cd8 ct8 : Value} (a8 : PySem.W.nsIn K mainGlobals "_law_named" = some (some (.ref f8))) (l8 : K.lookup f8 = some ⟨oc8, od8, .func (PySem.W.fnOf "_law_named" "_law_named" (defArgs s_named) (defBody s_named) (defScope s_named) .none kV8 dc8 pm8 an8 cd8 ct8), sl8⟩) (c8 : PySem.W.codeIn K cd8 "_law_named" = true) (k8 : PySem.W.keepIn K (.ref f8) = true)
    {f9 : Addr} {od9 an9 : Option Addr} {sl9 : Array (Option Value)} {oc9 kV9 dc9 pm9 cd9 ct9 : Value} (a9 : PySem.W.nsIn K mainGlobals "_law_right" = some (some (.ref f9))) (l9 : K.lookup f9 = some ⟨oc9, od9, .func (PySem.W.fnOf "_law_right" "_law_right" (defArgs s_right) (defBody s_right) (defScope s_right) .none kV9 dc9 pm9 an9 cd9 ct9), sl9⟩) (c9 : PySem.W.codeIn K cd9 "_law_right" = true) (k9 : PySem.W.keepIn K (.ref f9) = true)
    {f10 : Addr} {od10 an10 : Option Addr} {sl10 : Array (Option Value)} {oc10 kV10 dc10 pm10 cd10 ct10 : Value} (a10 : PySem.W.nsIn K mainGlobals "law" = some (some (.ref f10))) (l10 : K.lookup f10 = some ⟨oc10, od10, .func (PySem.W.fnOf "law" "law" (defArgs s_law) (defBody s_law) (defScope s_law) .none kV10 dc10 pm10 an10 cd10 ct10), sl10⟩) (c10 : PySem.W.codeIn K cd10 "law" = true) (k10 : PySem.W.keepIn K (.ref f10) = true)
    (z_abs : PySem.W.nsIn K mainGlobals "abs" = some none)
    (z_all : PySem.W.nsIn K mainGlobals "all" = some none)
    (z_bool : PySem.W.nsIn K mainGlobals "bool" = some none)
    (z_int : PySem.W.nsIn K mainGlobals "int" = some none)
    (z_isinstance : PySem.W.nsIn K mainGlobals "isinstance" = some none)
    (z_len : PySem.W.nsIn K mainGlobals "len" = some none)
    (z_list : PySem.W.nsIn K mainGlobals "list" = some none)
    (z_range : PySem.W.nsIn K mainGlobals "range" = some none)
    (z_repr : PySem.W.nsIn K mainGlobals "repr" = some none)
    (z_str : PySem.W.nsIn K mainGlobals "str" = some none)
    {t_FULL_AHEAD : Tok} (m_FULL_AHEAD : PySem.W.nsIn K mainGlobals "FULL_AHEAD" = some (some (.int (4) t_FULL_AHEAD)))
    {t_FULL_ASTERN : Tok} (m_FULL_ASTERN : PySem.W.nsIn K mainGlobals "FULL_ASTERN" = some (some (.int (-4) t_FULL_ASTERN)))
    {t_LAST_MINUTE : Tok} (m_LAST_MINUTE : PySem.W.nsIn K mainGlobals "LAST_MINUTE" = some (some (.int (99999) t_LAST_MINUTE)))
    {t_LONGEST_NAME : Tok} (m_LONGEST_NAME : PySem.W.nsIn K mainGlobals "LONGEST_NAME" = some (some (.int (8) t_LONGEST_NAME))) :
    ∃ fd : FuncData, (∀ (s : Shared) (v : Value), BindsTo s fd ⟨[v], []⟩ [("_law_script", v)]) ∧ ∀ base : Heap, K.In base → base.Ns mainGlobals mg → GOk l.prog w K mg base CX0 4 fa fd ["_law_script"] (spLaw K) := by
  have e := hfa.symm.trans (PySem.W.mg_of X G a10)
  cases e
  have F0 := fun_mk (st := s_is_whole) l0 c0 k0
  have F1 := fun_mk (st := s_is_minute) l1 c1 k1
  have F2 := fun_mk (st := s_is_order) l2 c2 k2
  have F3 := fun_mk (st := s_is_name) l3 c3 k3
  have F4 := fun_mk (st := s_draw) l4 c4 k4
  have F5 := fun_mk (st := s_number) l5 c5 k5
  have F6 := fun_mk (st := s_text) l6 c6 k6
  have F7 := fun_mk (st := s_whole) l7 c7 k7
  have F8 := fun_mk (st := s_named) l8 c8 k8
  have F9 := fun_mk (st := s_right) l9 c9 k9
  have F10 := fun_mk (st := s_law) l10 c10 k10
  let T : Txt w K mg := {
    a_is_whole := f0, d_is_whole := _, F_is_whole := F0, b_is_whole := F0.binds (ps := ["thing"]) (fun _ _ _ _ _ _ us hl => match us, hl with | [_], _ => rfl), g_is_whole := PySem.W.mg_of X G a0,
    a_is_minute := f1, d_is_minute := _, F_is_minute := F1, b_is_minute := F1.binds (ps := ["thing"]) (fun _ _ _ _ _ _ us hl => match us, hl with | [_], _ => rfl), g_is_minute := PySem.W.mg_of X G a1,
    a_is_order := f2, d_is_order := _, F_is_order := F2, b_is_order := F2.binds (ps := ["thing"]) (fun _ _ _ _ _ _ us hl => match us, hl with | [_], _ => rfl), g_is_order := PySem.W.mg_of X G a2,
    a_is_name := f3, d_is_name := _, F_is_name := F3, b_is_name := F3.binds (ps := ["thing"]) (fun _ _ _ _ _ _ us hl => match us, hl with | [_], _ => rfl), g_is_name := PySem.W.mg_of X G a3,
    a_draw := f4, d_draw := _, F_draw := F4, b_draw := F4.binds (ps := ["_law_pen", "_law_many"]) (fun _ _ _ _ _ _ us hl => match us, hl with | [_, _], _ => rfl), g_draw := PySem.W.mg_of X G a4,
    a_number := f5, d_number := _, F_number := F5, b_number := F5.binds (ps := ["_law_pen"]) (fun _ _ _ _ _ _ us hl => match us, hl with | [_], _ => rfl), g_number := PySem.W.mg_of X G a5,
    a_text := f6, d_text := _, F_text := F6, b_text := F6.binds (ps := ["_law_pen"]) (fun _ _ _ _ _ _ us hl => match us, hl with | [_], _ => rfl), g_text := PySem.W.mg_of X G a6,
    a_whole := f7, d_whole := _, F_whole := F7, b_whole := F7.binds (ps := ["_law_odd", "_law_least", "_law_most"]) (fun _ _ _ _ _ _ us hl => match us, hl with | [_, _, _], _ => rfl), g_whole := PySem.W.mg_of X G a7,
    a_named := f8, d_named := _, F_named := F8, b_named := F8.binds (ps := ["_law_odd"]) (fun _ _ _ _ _ _ us hl => match us, hl with | [_], _ => rfl), g_named := PySem.W.mg_of X G a8,
    a_right := f9, d_right := _, F_right := F9, b_right := F9.binds (ps := ["_law_odd"]) (fun _ _ _ _ _ _ us hl => match us, hl with | [_], _ => rfl), g_right := PySem.W.mg_of X G a9,
    a_law := fa, d_law := _, F_law := F10, b_law := F10.binds (ps := ["_law_script"]) (fun _ _ _ _ _ _ us hl => match us, hl with | [_], _ => rfl), g_law := PySem.W.mg_of X G a10,
    kb0_is_name := ⟨fun s us ws _ hl => (match us, ws, hl with | [], [_], _ => .of_eq rfl), fun r1 r2 => by (cases r1 with | nil => (cases r2 with | nil => exact .nil | cons q0 r2 => (cases r2 with | nil => exact .cons q0 (.nil) | cons _ _ => exact .nil)) | cons _ _ => exact .nil)⟩,
    kb0_is_order := ⟨fun s us ws _ hl => (match us, ws, hl with | [], [_], _ => .of_eq rfl), fun r1 r2 => by (cases r1 with | nil => (cases r2 with | nil => exact .nil | cons q0 r2 => (cases r2 with | nil => exact .cons q0 (.nil) | cons _ _ => exact .nil)) | cons _ _ => exact .nil)⟩,
    kb0_is_minute := ⟨fun s us ws _ hl => (match us, ws, hl with | [], [_], _ => .of_eq rfl), fun r1 r2 => by (cases r1 with | nil => (cases r2 with | nil => exact .nil | cons q0 r2 => (cases r2 with | nil => exact .cons q0 (.nil) | cons _ _ => exact .nil)) | cons _ _ => exact .nil)⟩,
    z_abs := PySem.W.mg_none_of X G z_abs,
    z_all := PySem.W.mg_none_of X G z_all,
    z_bool := PySem.W.mg_none_of X G z_bool,
    z_int := PySem.W.mg_none_of X G z_int,
    z_isinstance := PySem.W.mg_none_of X G z_isinstance,
    z_len := PySem.W.mg_none_of X G z_len,
    z_list := PySem.W.mg_none_of X G z_list,
    z_range := PySem.W.mg_none_of X G z_range,
    z_repr := PySem.W.mg_none_of X G z_repr,
    z_str := PySem.W.mg_none_of X G z_str,
    t_FULL_AHEAD := t_FULL_AHEAD, c_FULL_AHEAD := PySem.W.mg_of X G m_FULL_AHEAD,
    t_FULL_ASTERN := t_FULL_ASTERN, c_FULL_ASTERN := PySem.W.mg_of X G m_FULL_ASTERN,
    t_LAST_MINUTE := t_LAST_MINUTE, c_LAST_MINUTE := PySem.W.mg_of X G m_LAST_MINUTE,
    t_LONGEST_NAME := t_LONGEST_NAME, c_LONGEST_NAME := PySem.W.mg_of X G m_LONGEST_NAME }
  exact ⟨PySem.W.fnOf "law" "law" (defArgs s_law) (defBody s_law) (defScope s_law) .none kV10 dc10 pm10 an10 cd10 ct10, fun s v => .of_eq rfl, fun base _ _ => ok_law T⟩
end RO
open PySem PySem.W PyProof.Rows in
set_option maxRecDepth 100000 in
set_option maxHeartbeats 0 in
theorem PySem.Challenge.cw_ringorders_k01_minutes_orders_names_know_holds : PySem.Challenge.rw_ringorders_k01_minutes_orders_names_know.Holds := by
  w_on; o_law; k_head; (case hw => w_witness2)
  k_fill
  refine RO.walk_G (l := PySem.Challenge.rw_ringorders_k01_minutes_orders_names_know) (n := 63) (k := 4) (x := "_law_script") (sp := RO.spLaw) rfl (by decide) rfl ⟨rfl, by decide, by decide⟩ (fun w h Y => PySem.W.kIn_of Y) ?F RO.law_in
  case F =>
    intro w mg fa h KX G hmg
    refine' RO.all_mk KX G hmg ?a0 ?l0 ?c0 ?k0 ?a1 ?l1 ?c1 ?k1 ?a2 ?l2 ?c2 ?k2 ?a3 ?l3 ?c3 ?k3 ?a4 ?l4 ?c4 ?k4 ?a5 ?l5 ?c5 ?k5 ?a6 ?l6 ?c6 ?k6 ?a7 ?l7 ?c7 ?k7 ?a8 ?l8 ?c8 ?k8 ?a9 ?l9 ?c9 ?k9 ?a10 ?l10 ?c10 ?k10 ?z_abs ?z_all ?z_bool ?z_int ?z_isinstance ?z_len ?z_list ?z_range ?z_repr ?z_str ?m_FULL_AHEAD ?m_FULL_ASTERN ?m_LAST_MINUTE ?m_LONGEST_NAME
    (case a0 => k_is)
    (case l0 => k_is)
    (case c0 => k_is)
    (case k0 => k_is)
    (case a1 => k_is)
    (case l1 => k_is)
    (case c1 => k_is)
    (case k1 => k_is)
    (case a2 => k_is)
    (case l2 => k_is)
    (case c2 => k_is)
    (case k2 => k_is)
    (case a3 => k_is)
    (case l3 => k_is)
    (case c3 => k_is)
    (case k3 => k_is)
    (case a4 => k_is)
    (case l4 => k_is)
    (case c4 => k_is)
    (case k4 => k_is)
    (case a5 => k_is)
    (case l5 => k_is)
    (case c5 => k_is)
    (case k5 => k_is)
    (case a6 => k_is)
    (case l6 => k_is)
    (case c6 => k_is)
    (case k6 => k_is)
    (case a7 => k_is)
    (case l7 => k_is)
    (case c7 => k_is)
    (case k7 => k_is)
    (case a8 => k_is)
    (case l8 => k_is)
    (case c8 => k_is)
    (case k8 => k_is)
    (case a9 => k_is)
    (case l9 => k_is)
    (case c9 => k_is)
    (case k9 => k_is)
    (case a10 => k_is)
    (case l10 => k_is)
    (case c10 => k_is)
    (case k10 => k_is)
    (case z_abs => k_is)
    (case z_all => k_is)
    (case z_bool => k_is)
    (case z_int => k_is)
    (case z_isinstance => k_is)
    (case z_len => k_is)
    (case z_list => k_is)
    (case z_range => k_is)
    (case z_repr => k_is)
    (case z_str => k_is)
    (case m_FULL_AHEAD => k_is)
    (case m_FULL_ASTERN => k_is)
    (case m_LAST_MINUTE => k_is)
    (case m_LONGEST_NAME => k_is)
