import PyProof.Rows.All
import Wide.All
import OpenK.AllK
import Wide.FinOn
import HandS.ForMost
import HandS.Walk
import HandS.Wide
import HandS.Style
import HandS.More
import HandS.SetFor
import HandS.SortInts
import HandS.IsInst
import HandS.Codes
import PyProof.ReprRoads
import HandS.Defaults
import HandS.FStr
import HandS.RaiseMore
import KE.KIndexOf
import PySem.Challenge.RW_holdtap_k65_layout_texts
set_option Elab.async false
set_option linter.all false
set_option maxRecDepth 100000
set_option maxHeartbeats 4000000
/-! A layer over the hand layer in which a def knows that no display is being shown (A.guards): repr needs it. -/
namespace Gd
open PySem PySem.Spec PyProof.Rows L2

/-- what a def promises where no guard stands -/
structure FnG (P : Program) (w : World) (K : PySem.W.Frag) (mg : Str → Option Value) (base : Heap)
    (k : Nat) (f : Addr) (fd : FuncData) (ps : List Str) (sp : Sp) : Prop where
  len : ∀ vs H Q E, sp vs H Q E → vs.length = ps.length
  go : ∀ (A : Around) (outer : List Env) (s : Shared) (H : Hp) (args : Args) (us : List Value) (vs : List V) (Q : VK),
    A.guards = some [] → Room k A → Env0 P w K mg base A outer s H → BindsTo s fd args (ps.zip us) →
    Vals vs us → sp vs H Q E0 →
    codeAny (model P w) A (.call (.ref f) args) (CR CX0 outer P w H s Q E0) s

theorem deep_guards {A : Around} {e : Env} (h : A.guards = some []) : (A.deeper e).guards = some [] := h

section
variable {P : Program} {w : World} {K : PySem.W.Frag} {mg : Str → Option Value} {base : Heap}
theorem fnG {x qual : Str} {st : Stmt} {f : Addr} {fd : FuncData} {N ps : List Str} {k : Nat} {sp : Sp}
    (F : Fun K x qual st f fd) (S : FnScope N ps (defScope st))
    (len : ∀ vs H Q E, sp vs H Q E → vs.length = ps.length)
    (hb : ∀ (cdv : Value) (A : Around) (outer : List Env) (s : Shared) (H : Hp) (vs : List V) (Q : VK),
      A.guards = some [] → Room k (A.deeper (envOfC qual (defScope st) s.heap.objs.size f cdv)) → sp vs H Q E0 →
      ∃ t, PSs (cxOf CX0 P w K mg base N qual (defScope st) f cdv A outer s H E0).nox (defBody st) t ∧
        t { nx := fun _ H' => Q .non H', rt := Q } (start N vs) H) :
    FnG P w K mg base (k + 1) f fd ps sp := by
  obtain ⟨oc, od, kV, doc, pm, an, cdv, ct, osl, rfl, lk, hcd⟩ := F.ex
  refine ⟨len, fun A outer s H args us vs Q hg hr e0 bt rv hsp => ?_⟩
  have kin : K.In s.heap := e0.mod.kin.keeps (fun b o e => (e0.bs b o e).1)
  have nol : s.heap.NoLimit := e0.mod.nolimit.keeps (fun b o e => (e0.bs b o e).1)
  have pk : ((ps.zip us).all fun y => (defScope st).names.lookup y.1 == some NameKind.local ||
      (defScope st).names.lookup y.1 == some NameKind.cell) = true := by
    rw [List.all_eq_true]
    rintro ⟨n, v⟩ hm
    have hp := S.par n (List.of_mem_zip hm).1
    rcases hp with e | e <;> simp [e]
  refine Att.call_fn kin nol lk hcd hr.depth bt pk (fun s1 ic => ?_) S.co S.gen S.kind
  obtain ⟨t, ht, hq⟩ := hb cdv A outer s H vs Q hg (hr.deeper _) hsp
  have J := inv_start (CX := CX0) (E := E0) (P := P) (w := w) (mg := mg) (base := base) S hr.hd e0 (len _ _ _ _ hsp) rv ic
  have J' := J.wish (fun _ _ => False)
  refine wpAny_mono (ht.run [] s1 (start N vs) H _ J' hq) (fun fl s' sp' => ?_) (fun _ _ z => z.elim)
  match fl, sp' with
  | .next, ⟨σ', H', L, q⟩ => exact ⟨.non, H', L.os, L.bare, L.base, L.hok, rfl, q⟩
  | .ret u, ⟨v, σ', H', L, rr, q⟩ => exact ⟨v, H', L.os, L.bare, L.base, L.hok, rr, q⟩
  | .brk, ⟨_, _, _, q⟩ => exact False.elim q
  | .cont, ⟨_, _, _, q⟩ => exact False.elim q
end

/-- a def that may be called by its name -/
structure Cl (P : Program) (w : World) (K : PySem.W.Frag) (mg : Str → Option Value) (base : Heap) (k : Nat) (x : Str) (sp : Sp) : Prop where
  ex : ∃ (f : Addr) (fd : FuncData) (ps : List Str), FnG P w K mg base k f fd ps sp ∧ mg x = some (.ref f) ∧
    PySem.W.keepIn K (.ref f) = true ∧ Binds K fd ps []
/-- where a def stands: its text, its name in the module -/
structure At (K : PySem.W.Frag) (mg : Str → Option Value) (x : Str) (st : Stmt) (ps : List Str) : Prop where
  ex : ∃ (f : Addr) (fd : FuncData), Fun K x x st f fd ∧ mg x = some (.ref f) ∧ Binds K fd ps []
section
variable {P : Program} {w : World} {K : PySem.W.Frag} {mg : Str → Option Value} {base : Heap}
theorem clG {x : Str} {st : Stmt} {N ps : List Str} {k : Nat} {sp : Sp} (a : At K mg x st ps) (S : FnScope N ps (defScope st))
    (len : ∀ vs H Q E, sp vs H Q E → vs.length = ps.length)
    (hb : ∀ (f : Addr) (cdv : Value) (A : Around) (outer : List Env) (s : Shared) (H : Hp) (vs : List V) (Q : VK),
      A.guards = some [] → Room k (A.deeper (envOfC x (defScope st) s.heap.objs.size f cdv)) → sp vs H Q E0 →
      ∃ t, PSs (cxOf CX0 P w K mg base N x (defScope st) f cdv A outer s H E0).nox (defBody st) t ∧
        t { nx := fun _ H' => Q .non H', rt := Q } (start N vs) H) : Cl P w K mg base (k + 1) x sp := by
  obtain ⟨f, fd, F, hm, b⟩ := a.ex
  exact ⟨f, fd, ps, fnG F S len (hb f), hm, F.kp, b⟩
theorem Cl.imp {x : Str} {k : Nat} {sp sp' : Sp} (c : Cl P w K mg base k x sp) (h : ∀ vs H Q E, sp' vs H Q E → sp vs H Q E) :
    Cl P w K mg base k x sp' := by
  obtain ⟨f, fd, ps, F, hm, kp, b⟩ := c.ex
  exact ⟨f, fd, ps, ⟨fun vs H Q E z => F.len vs H Q E (h _ _ _ _ z), fun A o s H as us vs Q g r e bt rv z => F.go A o s H as us vs Q g r e bt rv (h _ _ _ _ z)⟩, hm, kp, b⟩
end
section
variable {X : Cx} {k j : Nat} {x : Str} {sp : Sp} {p pos : Pos} {e : Expr} {es : List Expr} {t : TA}
theorem run_cl {f : Addr} {fd : FuncData} {ps : List Str} {pins : List (Addr × Obj)} {σ : L2.St} {H : Hp} {s : Shared} {Q : VK} {us : List Value} {vs : List V}
    (F : FnG X.prog X.w X.K X.mg X.base k f fd ps sp) (hg : X.A.guards = some []) (hr : Room k X.A) (b : Binds X.K fd ps [])
    (I : Inv X pins σ H s) (rv : Vals vs us) (h : sp vs H Q E0) : wpAny (model X.prog X.w) X.A (call (.ref f) us) (EP X pins σ Q) X.xe s := by
  have hl : us.length = ps.length := rv.length.symm.trans (F.len _ _ _ _ h)
  have bt := b s us I.kIn (by simpa using hl)
  rw [List.append_nil] at bt
  refine wpAny_call (codeAny_mono (F.go X.A X.stack s H ⟨us, []⟩ us vs Q hg hr I.env0 bt rv h) (fun r s' hq => ?_))
  match r, hq with
  | .ok (.ret u), hq => exact I.after hq
  | .ok .next, hq => exact False.elim hq
  | .ok .brk, hq => exact False.elim hq
  | .ok .cont, hq => exact False.elim hq
  | .error _, hq => exact False.elim hq
/-- f(e, ..) -/
theorem pe_cl (c : Cl X.prog X.w X.K X.mg X.base k x sp) (hg : X.A.guards = some []) (hr : Room j X.A) (hk : k ≤ j) (gl : Gl X x) (ha : PA X (e :: es) t)
    (hd : (x == ("__debug__" : Str)) = false := by decide)
    (he : starEach (e :: es) X.env = (false, eval e X.env) :: starEach es X.env := by rfl)
    (hp : (backTo pos (starEach es X.env)).any (·.1) = false := by rfl) :
    PE X (.Call (.Name x p) (e :: es) [] pos) (tCall sp [] E0 t) := by
  obtain ⟨f, fd, ps, F, hm, kp, b⟩ := c.ex
  refine ⟨fun pins s σ H Q I h => wpAny_Call_Name_kw (ld_glob I gl hm (PySem.W.callWith_K (h₀ := X.base) I.ok.mod.kin kp ?_ he hp) hd)⟩
  refine thn (ha.run pos pins s σ H _ I h) (fun us s1 z => ?_)
  obtain ⟨vs, H1, I1, rv, q⟩ := z
  exact ⟨I1.kIn, run_cl F hg (hr.mono hk) b I1 rv (by simpa using q)⟩
/-- f() -/
theorem pe_cl0 (c : Cl X.prog X.w X.K X.mg X.base k x sp) (hg : X.A.guards = some []) (hr : Room j X.A) (hk : k ≤ j) (gl : Gl X x)
    (hd : (x == ("__debug__" : Str)) = false := by decide) :
    PE X (.Call (.Name x p) [] [] pos) (tCall sp [] E0 tNil) := by
  obtain ⟨f, fd, ps, F, hm, kp, b⟩ := c.ex
  refine ⟨fun pins s σ H Q I h => wpAny_Call_Name_kw (ld_glob I gl hm (PySem.W.callWith_K0 I.kIn kp ?_) hd)⟩
  exact run_cl (us := []) F hg (hr.mono hk) b I .nil h
end

/-! ### rules that lack: a great power, repr of data -/
def CPowW (i j : Int) : Prop := 0 ≤ j ∧ (Builtin.Int.intBits i : Int) * j ≤ 2 ^ 27
theorem op_powW {X : Cx} : OpR X (binaryOp .Pow) (rI CPowW fun i j => .int (i ^ j.toNat)) := opI fun _ _ _ _ _ _ _ hc q => pow_int hc.1 hc.2 q
theorem bits_le {i : Int} {n : Nat} (h : i.natAbs < 2 ^ n) : Builtin.Int.intBits i ≤ n := by
  unfold Builtin.Int.intBits
  split
  · exact Nat.zero_le _
  · rename_i hz
    have h0 : i.natAbs ≠ 0 := by
      intro z
      apply hz
      have : i = 0 := Int.natAbs_eq_zero.mp z
      simp [this]
    have := (Nat.log2_lt h0).mpr h
    omega
theorem powW {i : Int} {n k : Nat} (h : i.natAbs < 2 ^ n) (hs : n * k ≤ 2 ^ 27) : CPowW i (k : Int) := by
  refine ⟨by omega, ?_⟩
  have b := bits_le h
  have m : Builtin.Int.intBits i * k ≤ 2 ^ 27 := Nat.le_trans (Nat.mul_le_mul_right k b) hs
  exact_mod_cast m

/-- repr(x), x a list or a tuple of data -/
def rRep (K : PySem.W.Frag) : List V → Hp → VK → Prop := fun xs H Q => ∃ (a : Addr) (d : PyData), xs = [.ref a] ∧ Dp K H (.ref a) d ∧
  d.showable = true ∧ d.depth ≤ 50 ∧ d.shown.length ≤ sizeLine ∧ Q (.str d.shown) H
mutual
theorem dp_nodict {K : PySem.W.Frag} {H : Hp} : ∀ (d : PyData) (v : V), Dp K H v d → d.hasDict = false
  | .none, _, _ => rfl
  | .bool _, _, _ => rfl
  | .int _, _, _ => rfl
  | .str _, _, _ => rfl
  | .list ds, _, h => by
    cases h with
    | lst _ ha => exact dps_nodict ds _ ha
  | .tuple ds, _, h => by
    cases h with
    | tup _ ha => exact dps_nodict ds _ ha
  | .dict _, _, h => by cases h
theorem dps_nodict {K : PySem.W.Frag} {H : Hp} : ∀ (ds : List PyData) (vs : List V), DpAll K H vs ds → PyData.hasDictAll ds = false
  | [], _, _ => rfl
  | d :: ds, _, h => by
    cases h with
    | cons h1 h2 =>
      show (d.hasDict || PyData.hasDictAll ds) = false
      rw [dp_nodict d _ h1, dps_nodict ds _ h2]
      rfl
end
theorem call_rep {X : Cx} {k : Nat} (hg : X.A.guards = some []) (hr : Room k X.A) : CallR X (.builtin "repr") (rRep X.K) := by
  intro pins s σ H xs us Q I r h
  obtain ⟨a, d, rfl, hd, hs, hdp, hz, q⟩ := h
  obtain ⟨u, rfl, ru⟩ := vals1 r
  obtain ⟨as, rd⟩ := Dp.reads I d (.ref a) u hd ru
  cases ru
  have hu := hr.un
  exact repr_of_reads' rd hs (PyData.noDict_hsm (dp_nodict d _ hd)) hg (by omega) (fun _ _ e => e)
    (fun h' t tk hk => ⟨.str d.shown, H, I.kept (t' := tk) hk, ⟨t, rfl⟩, q⟩) hz

/-! ### the law's own call -/
section
variable {P : Program} {w : World} {K : PySem.W.Frag} {mg mb : Str → Option Value} {k : Nat} {fa a : Addr} {fd : FuncData} {x : Str} {sp : Sp} {s₁ : Shared} {vs : List Value} {ns : List Int}
/-- the heap as the caller has it, H what is tracked of it: at most the script -/
theorem top_run (KX : K.In s₁.heap) (gl : s₁.heap.Ns mainGlobals mg) (bl : s₁.heap.Ns builtinsNs mb) (bb : ∀ y : Str, y ≠ "__name__" → mb y = bootBuiltins y)
    (nol : s₁.heap.NoLimit) (ng : s₁.gens = #[]) (oa : s₁.heap.get? a = some { cls := .type "list", data := .seq vs.toArray }) (hr : Room k callerA)
    (F : ∀ base : Heap, K.In base → base.Ns mainGlobals mg → FnG P w K mg base k fa fd [x] sp)
    (bt : ∀ (s : Shared) (u : Value), BindsTo s fd ⟨[u], []⟩ [(x, u)]) {H : Hp} (only : Only H) (hok : HOk P w H s₁.heap)
    (at_a : ∀ b, H b ≠ none → b = a ∧ K.lookup a = none) (h : sp [.ref a] H (fun v _ => v = .bl true) E0) :
    codeAny (model P w) callerA (.call (.ref fa) ⟨[.ref a], []⟩)
      (fun r s' => r = .ok (.ret (.bool true)) ∧ OldK s₁.heap s'.heap ∧ s'.os = s₁.os ∧ AllBare s'.gens) s₁ := by
  have free : ∀ {b : Addr} {o : Obj}, s₁.heap.get? b = some o → (b = a → ∃ es ep, o.data = .dict es ep) → H b = none := by
    intro b o e d
    rcases Classical.em (H b = none) with z | z
    · exact z
    · obtain ⟨rfl, _⟩ := at_a b z
      obtain ⟨es, ep, hd⟩ := d rfl
      rw [oa] at e
      cases e
      cases hd
  have nsAt : ∀ {b : Addr} {m : Str → Option Value}, s₁.heap.Ns b m → (hidT s₁.heap H).Ns b m := by
    intro b m z
    obtain ⟨o, es, ep, e, d, r⟩ := z
    exact ⟨o, es, ep, hidT_get e (free e fun _ => ⟨es, ep, d⟩), d, r⟩
  have KB : K.In (hidT s₁.heap H) := by
    intro b o e
    refine hidT_get (KX b o e) ?_
    rcases Classical.em (H b = none) with z | z
    · exact z
    · obtain ⟨rfl, q⟩ := at_a b z
      rw [q] at e
      cases e
  obtain ⟨ml, l1, l2⟩ := nol
  have M : Mod K mg (hidT s₁.heap H) := ⟨KB, nsAt gl, ⟨mb, nsAt bl, bb⟩, ⟨ml, nsAt l1, l2⟩⟩
  have E : Env0 P w K mg (hidT s₁.heap H) callerA [] s₁ H := by
    refine ⟨rfl, M, fun b o e => of_hidT e, Nat.le_of_eq (hidT_size _ _), True.intro, fun b hb => ?_, hok, .of_eq ng⟩
    exact nomatch (show b ∈ ([] : List Addr) from hb)
  refine codeAny_mono ((F _ KB (nsAt gl)).go callerA [] s₁ H ⟨[.ref a], []⟩ [.ref a] [.ref a] _ rfl hr E (bt s₁ (.ref a)) (.cons rfl .nil) h) ?_
  intro r s' z
  match r, z with
  | .ok .next, z => exact False.elim z
  | .ok .brk, z => exact False.elim z
  | .ok .cont, z => exact False.elim z
  | .error _, z => exact False.elim z
  | .ok (.ret u), ⟨v, H', os, bare, un, hok', rv, q⟩ =>
    have q : v = .bl true := q
    subst q
    have ru : u = Value.bool true := rv
    subst ru
    refine ⟨rfl, OldK.of_keep fun b o e => ?_, os, bare⟩
    rcases only b with n | ⟨ob, xs, n⟩
    · exact un.keep b o e n (fun m => nomatch (show b ∈ ([] : List Addr) from m)) (fun m => nomatch m)
    · have f1 := hok b _ n
      have f2 := hok' b _ (un.frzs b ob _ n)
      have g1 : s₁.heap.get? b = some ob := f1.1
      have g2 : s'.heap.get? b = some ob := f2.1
      rw [e] at g1
      cases g1
      exact g2
theorem law_callG (KX : K.In s₁.heap) (gl : s₁.heap.Ns mainGlobals mg) (bl : s₁.heap.Ns builtinsNs mb) (bb : ∀ y : Str, y ≠ "__name__" → mb y = bootBuiltins y)
    (nol : s₁.heap.NoLimit) (ng : s₁.gens = #[]) (oa : s₁.heap.get? a = some { cls := .type "list", data := .seq vs.toArray }) (hi : IntsAre vs ns) (hl : ns.length ≤ sizeLine) (hr : Room k callerA)
    (F : ∀ base : Heap, K.In base → base.Ns mainGlobals mg → FnG P w K mg base k fa fd [x] sp)
    (bt : ∀ (s : Shared) (u : Value), BindsTo s fd ⟨[u], []⟩ [(x, u)])
    (hsp : ∀ H : Hp, Only H → SqL K H a (ns.map V.int) → sp [.ref a] H (fun v _ => v = .bl true) E0) :
    codeAny (model P w) callerA (.call (.ref fa) ⟨[.ref a], []⟩)
      (fun r s' => r = .ok (.ret (.bool true)) ∧ OldK s₁.heap s'.heap ∧ s'.os = s₁.os ∧ AllBare s'.gens) s₁ := by
  have rv := vals_ints hi
  have lenV := hi.length
  by_cases hk : K.lookup a = none
  · let H : Hp := fun b => if b = a then some (.frz { cls := .type "list", data := .seq vs.toArray } (.lst (ns.map V.int))) else none
    have Ha : H a = some (.frz { cls := .type "list", data := .seq vs.toArray } (.lst (ns.map V.int))) := if_pos rfl
    have Hn : ∀ {b : Addr}, b ≠ a → H b = none := fun h => if_neg h
    have only : Only H := by
      intro b
      by_cases e : b = a
      · subst e; exact .inr ⟨_, _, Ha⟩
      · exact .inl (Hn e)
    refine top_run KX gl bl bb nol ng oa hr F bt (H := H) only ?_ ?_ (hsp H only (.inl (.inr ⟨_, Ha⟩)))
    · intro b u z
      by_cases e : b = a
      · subst e
        rw [Ha] at z
        cases z
        exact ⟨oa, by rw [List.length_map]; exact hl, vs, _, rv, oa⟩
      · rw [Hn e] at z; cases z
    · intro b z
      by_cases e : b = a
      · exact ⟨e, hk⟩
      · exact absurd (Hn e) z
  · obtain ⟨o, ho⟩ := Option.ne_none_iff_exists'.mp hk
    have e := KX a o ho
    rw [oa] at e
    cases e
    have only : Only (fun _ => none) := fun _ => .inl rfl
    refine top_run KX gl bl bb nol ng oa hr F bt (H := fun _ => none) only (fun b u z => nomatch z) (fun b z => absurd rfl z) (hsp _ only (.inr ?_))
    exact ⟨_, vs.toArray, _, ho, rfl, rfl, rfl, by rw [List.size_toArray, lenV]; exact hl, by simpa using rv⟩
end
/-- what k_head leaves, from the promise of the law's def -/
theorem walkG {l : PySem.W.OpenLaw} {n k : Nat} {q : Program} {loose : List Str} {XP : (Str → Option Value) → Heap → Prop} {YP : World → Heap → Prop} {d : DefRec} {K : Params → PySem.W.Frag} {sp : PySem.W.Frag → Sp} {x : Str}
    (hn : l.most = some n) (hn2 : n ≤ sizeLine) (hdf : d.params.defaults = []) (hr : Room k callerA)
    (hY : ∀ (w : World) (h : Heap), YP w h → (K w.params).In h)
    (F : ∀ (w : World) (mg : Str → Option Value) (fa : Addr) (h : Heap), (K w.params).In h → h.Ns mainGlobals mg → mg d.name = some (.ref fa) →
      ∃ fd : FuncData, (∀ (s : Shared) (u : Value), BindsTo s fd ⟨[u], []⟩ [(x, u)]) ∧
        ∀ base : Heap, (K w.params).In base → base.Ns mainGlobals mg → FnG l.prog w (K w.params) mg base k fa fd [x] (sp (K w.params)))
    (hsp : ∀ (K : PySem.W.Frag) (H : Hp) (a : Addr) (ns : List Int), ns.length ≤ n → SqL K H a (ns.map V.int) →
      sp K [.ref a] H (fun v _ => v = .bl true) E0) :
    PySem.W.WalkO q loose XP YP l.row.toRowW d [] (fun f vs => PySem.call f vs) := by
  refine Att.attach_call hn hdf ?_
  intro w s₀ s₁ mg mb fa o pm cd doc a vs ns G Y ho hd hcd hmg oa hi hlen ng
  have KX := hY w _ Y
  obtain ⟨fd, bt, hF⟩ := F w mg fa _ KX G.T.g hmg
  exact law_callG KX G.T.g G.T.b G.T.builtins G.T.nolimit ng oa hi (Nat.le_trans hlen hn2) hr hF bt (fun H _ hS => hsp _ H a ns hlen hS)
end Gd

set_option Elab.async false
set_option linter.all false
set_option maxRecDepth 100000
set_option maxHeartbeats 4000000
/-! a def with defaults, called with all of its arguments, or with some of them -/
namespace Gd
open PySem PySem.Spec PyProof.Rows L2
theorem room65 {k : Nat} {A : Around} (r : Room k A) : A.units + 65 < cLine := by have := r.un; omega
/-- where a def with defaults stands; ds: the values that fill up -/
structure AtX (K : PySem.W.Frag) (mg : Str → Option Value) (x : Str) (st : Stmt) (ps : List Str) (ds : List Value) : Prop where
  ex : ∃ (f : Addr) (oc : Value) (od : Option Addr) (dV kV doc pm : Value) (an : Option Addr) (cdv ct : Value) (osl : Array (Option Value)),
    K.lookup f = some ⟨oc, od, .func (PySem.W.fnOf x x (defArgs st) (defBody st) (defScope st) dV kV doc pm an cdv ct), osl⟩ ∧ PySem.W.codeIn K cdv x = true ∧ PySem.W.keepIn K (.ref f) = true ∧ mg x = some (.ref f) ∧
    Binds K (PySem.W.fnOf x x (defArgs st) (defBody st) (defScope st) dV kV doc pm an cdv ct) ps ds
section
variable {P : Program} {w : World} {K : PySem.W.Frag} {mg : Str → Option Value} {base : Heap}
theorem clX {x : Str} {st : Stmt} {N ps : List Str} {k : Nat} {sp : Sp} (a : AtX K mg x st ps []) (S : FnScope N ps (defScope st))
    (len : ∀ vs H Q E, sp vs H Q E → vs.length = ps.length)
    (hb : ∀ (f : Addr) (cdv : Value) (A : Around) (outer : List Env) (s : Shared) (H : Hp) (vs : List V) (Q : VK),
      A.guards = some [] → Room k (A.deeper (envOfC x (defScope st) s.heap.objs.size f cdv)) → sp vs H Q E0 →
      ∃ t, PSs (cxOf CX0 P w K mg base N x (defScope st) f cdv A outer s H E0).nox (defBody st) t ∧
        t { nx := fun _ H' => Q .non H', rt := Q } (start N vs) H) : Cl P w K mg base (k + 1) x sp := by
  obtain ⟨f, oc, od, dV, kV, doc, pm, an, cdv, ct, osl, lk, hcd, kp, hm, bd⟩ := a.ex
  refine ⟨f, _, ps, ⟨len, fun A outer s H args us vs Q hg hr e0 bt rv hsp => ?_⟩, hm, kp, bd⟩
  have kin : K.In s.heap := e0.mod.kin.keeps (fun b o e => (e0.bs b o e).1)
  have nol : s.heap.NoLimit := e0.mod.nolimit.keeps (fun b o e => (e0.bs b o e).1)
  have pk : ((ps.zip us).all fun y => (defScope st).names.lookup y.1 == some NameKind.local ||
      (defScope st).names.lookup y.1 == some NameKind.cell) = true := by
    rw [List.all_eq_true]
    rintro ⟨n, v⟩ hm
    have hp := S.par n (List.of_mem_zip hm).1
    rcases hp with e | e <;> simp [e]
  refine Att.call_fn kin nol lk hcd hr.depth bt pk (fun s1 ic => ?_) S.co S.gen S.kind
  obtain ⟨t, ht, hq⟩ := hb f cdv A outer s H vs Q hg (hr.deeper _) hsp
  have J := inv_start (CX := CX0) (E := E0) (P := P) (w := w) (mg := mg) (base := base) S hr.hd e0 (len _ _ _ _ hsp) rv ic
  have J' := J.wish (fun _ _ => False)
  refine wpAny_mono (ht.run [] s1 (start N vs) H _ J' hq) (fun fl s' sp' => ?_) (fun _ _ z => z.elim)
  match fl, sp' with
  | .next, ⟨σ', H', L, q⟩ => exact ⟨.non, H', L.os, L.bare, L.base, L.hok, rfl, q⟩
  | .ret u, ⟨v, σ', H', L, rr, q⟩ => exact ⟨v, H', L.os, L.bare, L.base, L.hok, rr, q⟩
  | .brk, ⟨_, _, _, q⟩ => exact False.elim q
  | .cont, ⟨_, _, _, q⟩ => exact False.elim q
end
/-- one default behind: all arguments are given -/
theorem atX_all {K : PySem.W.Frag} {h : Heap} {mg : Str → Option Value} {x : Str} {st : Stmt} {ps : List Str} {f T : Addr} {od an td : Option Addr} {sl ts : Array (Option Value)} {oc kV dc pm cd ct d : Value} {tn : Nat} (X : K.In h) (G : h.Ns mainGlobals mg)
    (a : PySem.W.nsIn K mainGlobals x = some (some (.ref f))) (l : K.lookup f = some ⟨oc, od, .func (PySem.W.fnOf x x (defArgs st) (defBody st) (defScope st) (.ref T) kV dc pm an cd ct), sl⟩) (c : PySem.W.codeIn K cd x = true) (k : PySem.W.keepIn K (.ref f) = true)
    (u : K.lookup T = some ⟨.type "tuple", td, .seq #[d] tn, ts⟩)
    (hb : ∀ (T : Addr) (kV doc pm : Value) (an : Option Addr) (cdv ct : Value) (us its : List Value), us.length = ps.length → its.length = 1 →
      ∃ k, bindArgs (PySem.W.fnOf x x (defArgs st) (defBody st) (defScope st) (.ref T) kV doc pm an cdv ct) ⟨us, []⟩ = seqItems? (.ref T) >>= k ∧ k (some its.toArray) = pure (ps.zip us)) : AtX K mg x st ps [] := by
  refine ⟨f, oc, od, .ref T, kV, dc, pm, an, cd, ct, sl, l, c, k, PySem.W.mg_of X G a, fun s us KX hl => ?_⟩
  rw [List.append_nil] at hl ⊢
  obtain ⟨g, e1, e2⟩ := hb T kV dc pm an cd ct us [d] hl rfl
  refine BindsTo.of_looks fun M => ?_
  rw [e1]
  exact looks_items (its := #[d]) KX u rfl (PySem.W.Looks.of_pure e2)
/-- a method's call within a comprehension: the constants said -/
theorem pe_bmB {X : Cx} {K0 : PySem.W.Frag} {T : String} {name : Str} {id : String} {r : V → List V → Hp → VK → Prop} {o e : Expr} {es : List Expr} {to : TE} {t : TA} {apos cpos : Pos} (hK : X.K = K0) (pa : PlainAttrs T) (slot : Slot T name id) (hty : typeOf (.builtin id) = pure (.type "method_descriptor")) (hm : MtR X id r) (ho : PE X o to) (ha : PA X (e :: es) t)
    (hbase : attributeBase o name X.env (eval o X.env) = eval o X.env := by rfl)
    (hfew : ((backTo cpos (starEach (e :: es) X.env)).all (fun x => !x.1) && (backToKw cpos (keywordEach [] X.env)).all (fun x => x.1.isSome)
      && decide ((e :: es).length + ([] : List Keyword).length + (if ([] : List Keyword).isEmpty then 0 else 1) < 30)) = true := by rfl)
    (hline : (apos.endLine == cpos.line) = true := by rfl) (hs : starEach (e :: es) X.env = (false, eval e X.env) :: starEach es X.env := by rfl) (hplain : (backTo cpos (starEach es X.env)).any (·.1) = false := by rfl) :
    PE X (.Call (.Attribute o name apos) (e :: es) [] cpos) (tBM K0 T r to t) := by
  subst hK
  exact pe_bm pa slot hty hm ho ha hbase hfew hline hs hplain
end Gd

set_option Elab.async false
set_option linter.all false
set_option maxRecDepth 100000
set_option maxHeartbeats 4000000
namespace Rm
open PySem PySem.Spec PyProof.Rows L2 Gd

/-! ### how long a display is -/
structure Fit (L n : Nat) (d : PyData) : Prop where
  sh : d.showable = true
  dp : d.depth ≤ n
  ln : d.shown.length ≤ L
theorem Fit.mono {L n L' n' : Nat} {d : PyData} (f : Fit L n d) (h : L ≤ L') (h' : n ≤ n') : Fit L' n' d := ⟨f.sh, by have := f.dp; omega, by have := f.ln; omega⟩
theorem allSh {L n : Nat} : ∀ {ds : List PyData}, (∀ d ∈ ds, Fit L n d) → PyData.showableAll ds = true ∧ PyData.depthAll ds ≤ n ∧ piled (PyData.shownAll ds) ≤ ds.length * (L + 2)
  | [], _ => ⟨rfl, Nat.zero_le _, Nat.zero_le _⟩
  | d :: ds, h => by
    obtain ⟨a, b, c⟩ := allSh (ds := ds) fun x hx => h x (List.mem_cons_of_mem _ hx)
    have f := h d List.mem_cons_self
    refine ⟨?_, ?_, ?_⟩
    · show (d.showable && PyData.showableAll ds) = true
      rw [f.sh, a]; rfl
    · show max d.depth (PyData.depthAll ds) ≤ n
      have := f.dp
      omega
    · show piled (d.shown :: PyData.shownAll ds) ≤ _
      rw [piled_cons, List.length_cons]
      have := f.ln
      have e : (ds.length + 1) * (L + 2) = ds.length * (L + 2) + (L + 2) := Nat.succ_mul _ _
      omega
theorem listText_le (ts : List Str) : (listText ts).length ≤ piled ts + 2 := by
  cases ts with
  | nil => decide
  | cons t r =>
    have h := textFrom_length_pos r 1 (("[" : Str) ++ (if (0 : Nat) > 0 then ", " else "" : String) ++ t) (Nat.succ_pos 0)
    have e : ((("[" : Str) ++ (if (0 : Nat) > 0 then ", " else "" : String) ++ t)).length = 1 + t.length := by
      rw [strLen_append, strLen_append]; rfl
    have x : (listText (t :: r)).length = (textFrom 1 (("[" : Str) ++ (if (0 : Nat) > 0 then ", " else "" : String) ++ t) r).length + 1 := by
      show (textFrom 1 (("[" : Str) ++ (if (0 : Nat) > 0 then ", " else "" : String) ++ t) r ++ "]").length = _
      rw [strLen_append]; rfl
    rw [x, h, e, piled_cons]
    omega
theorem tupleText_le (ts : List Str) : (tupleText ts).length ≤ piled ts + 3 := by
  unfold tupleText
  rw [strLen_append, strLen_append]
  have e1 : ((("(" : String) : Str)).length = 1 := rfl
  have e3 : (((if ts.length == 1 then ",)" else ")" : String) : Str)).length ≤ 2 := by split <;> decide
  rw [e1]
  cases ts with
  | nil =>
    have : (Str.join ", " []).length = 0 := by decide
    omega
  | cons t r =>
    have := join_length_add (t :: r) (by simp)
    omega
theorem fit_list {L n : Nat} {ds : List PyData} (h : ∀ d ∈ ds, Fit L n d) : Fit (ds.length * (L + 2) + 3) (n + 1) (.list ds) := by
  obtain ⟨a, b, c⟩ := allSh h
  have := listText_le (PyData.shownAll ds)
  exact ⟨a, by show PyData.depthAll ds + 1 ≤ _; omega, by show (listText (PyData.shownAll ds)).length ≤ _; omega⟩
theorem fit_tup {L n : Nat} {ds : List PyData} (h : ∀ d ∈ ds, Fit L n d) : Fit (ds.length * (L + 2) + 3) (n + 1) (.tuple ds) := by
  obtain ⟨a, b, c⟩ := allSh h
  have := tupleText_le (PyData.shownAll ds)
  exact ⟨a, by show PyData.depthAll ds + 1 ≤ _; omega, by show (tupleText (PyData.shownAll ds)).length ≤ _; omega⟩
theorem fit_int {i : Int} (h : i.natAbs < 2 ^ 200) : Fit 210 0 (.int i) := by
  have hl : i.natAbs.log2 < 200 := PySem.Flt.log2_lt_of (by decide) h
  refine ⟨?_, Nat.le_refl _, ?_⟩
  · show decide (i.natAbs.log2 < 1920) = true
    exact decide_eq_true (by omega)
  · show (Str.ofString (toString i)).length ≤ 210
    rw [PySem.ofString_length]
    have := int_text_length_le (k := 200) (by decide) hl
    omega
theorem fit_none : Fit 210 0 .none := ⟨rfl, Nat.le_refl _, by decide +kernel⟩
theorem fit_bool (b : Bool) : Fit 210 0 (.bool b) := ⟨rfl, Nat.le_refl _, by cases b <;> decide +kernel⟩

/-! ### records -/
structure Ev where
  t : Int
  k : Int
  d : Bool
def wayS (d : Bool) : Str := if d then "down" else "up"
theorem wayS_inj {a b : Bool} : wayS a = wayS b ↔ a = b := by cases a <;> cases b <;> decide +kernel
theorem wayS_down (d : Bool) : decide (V.str (wayS d) = V.str "down") = d := by cases d <;> decide +kernel
def evD (e : Ev) : PyData := .tuple [.int e.t, .int e.k, .str (wayS e.d)]
def stD (e : Ev) : PyData := .tuple [.int e.k, .str (wayS e.d)]
def evV (e : Ev) : List V := [.int e.t, .int e.k, .str (wayS e.d)]
def stV (e : Ev) : List V := [.int e.k, .str (wayS e.d)]
def recD (es : List Ev) : PyData := .list (es.map evD)
def ordD (es : List Ev) : PyData := .list (es.map stD)
def after (h : Int → Bool) (e : Ev) : Int → Bool := fun k => if k = e.k then e.d else h k
def heldB (es : List Ev) : Int → Bool := es.foldl after fun _ => false
theorem heldB_snoc (es : List Ev) (e : Ev) : heldB (es ++ [e]) = after (heldB es) e := by unfold heldB; rw [List.foldl_append]; rfl
theorem heldB_take {es : List Ev} {i : Nat} {e : Ev} (h : es[i]? = some e) : heldB (es.take (i + 1)) = after (heldB (es.take i)) e := by
  rw [List.take_add_one, h]
  exact heldB_snoc _ _
/-- a record as the document has it -/
def Valid (es : List Ev) : Prop := ∀ (i : Nat) (e : Ev), es[i]? = some e → 0 ≤ e.k ∧ heldB (es.take i) e.k = !e.d ∧ ∀ (j : Nat) (e' : Ev), j < i → es[j]? = some e' → e'.t ≤ e.t
/-- an order: the same without ticks -/
def ValidO (es : List Ev) : Prop := ∀ (i : Nat) (e : Ev), es[i]? = some e → 0 ≤ e.k ∧ heldB (es.take i) e.k = !e.d
theorem Valid.o {es : List Ev} (h : Valid es) : ValidO es := fun i e x => ⟨(h i e x).1, (h i e x).2.1⟩
theorem Valid.nil : Valid [] := fun _ _ h => by simp at h
theorem Valid.take {es : List Ev} (h : Valid es) (n : Nat) : Valid (es.take n) := fun i e x => by
  have hi : i < n := by
    rcases Nat.lt_or_ge i n with q | q
    · exact q
    · rw [List.getElem?_eq_none (by rw [List.length_take]; omega)] at x; cases x
  rw [List.getElem?_take_of_lt hi] at x
  obtain ⟨a, b, c⟩ := h i e x
  refine ⟨a, ?_, fun j e' hj y => ?_⟩
  · rw [List.take_take, Nat.min_eq_left (by omega)]; exact b
  · rw [List.getElem?_take_of_lt (by omega)] at y
    exact c j e' hj y
theorem ValidO.take {es : List Ev} (h : ValidO es) (n : Nat) : ValidO (es.take n) := fun i e x => by
  have hi : i < n := by
    rcases Nat.lt_or_ge i n with q | q
    · exact q
    · rw [List.getElem?_eq_none (by rw [List.length_take]; omega)] at x; cases x
  rw [List.getElem?_take_of_lt hi] at x
  obtain ⟨a, b⟩ := h i e x
  exact ⟨a, by rw [List.take_take, Nat.min_eq_left (by omega)]; exact b⟩
theorem Valid.snoc {es : List Ev} {e : Ev} (h : Valid es) (h0 : 0 ≤ e.k) (hb : heldB es e.k = !e.d) (ht : ∀ e' ∈ es, e'.t ≤ e.t) : Valid (es ++ [e]) := fun i x hx => by
  rcases Nat.lt_or_ge i es.length with q | q
  · rw [List.getElem?_append_left q] at hx
    obtain ⟨a, b, c⟩ := h i x hx
    refine ⟨a, ?_, fun j e' hj y => ?_⟩
    · rw [List.take_append_of_le_length (by omega)]; exact b
    · rw [List.getElem?_append_left (by omega)] at y
      exact c j e' hj y
  · have hi : i = es.length := by
      have := (List.getElem?_eq_some_iff.mp hx).1
      rw [List.length_append] at this
      simp at this
      omega
    subst hi
    rw [List.getElem?_append_right (Nat.le_refl _), Nat.sub_self] at hx
    have ex : e = x := Option.some.inj hx
    subst ex
    refine ⟨h0, ?_, fun j e' hj y => ?_⟩
    · rw [List.take_append_of_le_length (Nat.le_refl _), List.take_length]; exact hb
    · rw [List.getElem?_append_left hj] at y
      exact ht e' (List.mem_of_getElem? y)
/-- the ticks and keys are not too great to be shown -/
def Small (es : List Ev) : Prop := ∀ e ∈ es, e.t.natAbs < 2 ^ 200 ∧ e.k.natAbs < 2 ^ 200
theorem fit_ev {e : Ev} (h : e.t.natAbs < 2 ^ 200 ∧ e.k.natAbs < 2 ^ 200) : Fit 1000 1 (evD e) := by
  refine Fit.mono (fit_tup (L := 210) (n := 0) fun d hd => ?_) (by show 3 * 212 + 3 ≤ 1000; decide) (Nat.le_refl _)
  simp only [List.mem_cons, List.mem_nil_iff, or_false] at hd
  rcases hd with rfl | rfl | rfl
  · exact fit_int h.1
  · exact fit_int h.2
  · exact ⟨rfl, Nat.le_refl _, by cases e.d <;> decide +kernel⟩
theorem fit_st {e : Ev} (h : e.k.natAbs < 2 ^ 200) : Fit 1000 1 (stD e) := by
  refine Fit.mono (fit_tup (L := 210) (n := 0) fun d hd => ?_) (by show 2 * 212 + 3 ≤ 1000; decide) (Nat.le_refl _)
  simp only [List.mem_cons, List.mem_nil_iff, or_false] at hd
  rcases hd with rfl | rfl
  · exact fit_int h
  · exact ⟨rfl, Nat.le_refl _, by cases e.d <;> decide +kernel⟩
theorem fit_rec {es : List Ev} (h : Small es) (hl : es.length ≤ 1000) : Fit 1100000 2 (recD es) := by
  refine Fit.mono (fit_list (L := 1000) (n := 1) fun d hd => ?_) (by rw [List.length_map]; omega) (Nat.le_refl _)
  obtain ⟨e, he, rfl⟩ := List.mem_map.mp hd
  exact fit_ev (h e he)
theorem fit_ord {es : List Ev} (h : Small es) (hl : es.length ≤ 1000) : Fit 1100000 2 (ordD es) := by
  refine Fit.mono (fit_list (L := 1000) (n := 1) fun d hd => ?_) (by rw [List.length_map]; omega) (Nat.le_refl _)
  obtain ⟨e, he, rfl⟩ := List.mem_map.mp hd
  exact fit_st (h e he).2

/-! ### the dict of what is held -/
structure HeldK (kvs : List (Key × V)) (h : Int → Bool) : Prop where
  fm : ∀ p ∈ kvs, ∃ (k : Int) (b : Bool), p = (Sum.inl k, V.bl b)
  nd : (kvs.map (·.1)).Nodup
  at_ : ∀ k : Int, (valV kvs (Sum.inl k)).getD (.bl false) = .bl (h k)
theorem HeldK.nil : HeldK [] fun _ => false := ⟨fun _ h => by simp at h, List.nodup_nil, fun _ => rfl⟩
theorem put_len (kvs : List (Key × V)) (k : Key) (v : V) : (putK kvs k v).length ≤ kvs.length + 1 := by
  unfold putK
  split
  · rw [List.length_map]; omega
  · rw [List.length_append]; exact Nat.le_refl _
theorem put_keys (kvs : List (Key × V)) (k : Key) (v : V) (h : (kvs.map (·.1)).Nodup) : ((putK kvs k v).map (·.1)).Nodup := by
  cases e : valV kvs k with
  | none => exact nd_putK v h e
  | some x =>
    have a : (kvs.any fun kv => decide (kv.1 = k)) = true := by rw [valV_any, e]; rfl
    unfold putK
    rw [if_pos a, List.map_map]
    have : ((fun p : Key × V => p.1) ∘ fun kv => if kv.1 = k then (kv.1, v) else kv) = (·.1) := by
      funext p
      show (if p.1 = k then (p.1, v) else p).1 = p.1
      split <;> rfl
    rw [this]
    exact h
theorem HeldK.put {kvs : List (Key × V)} {es : List Ev} {e : Ev} (h : HeldK kvs (heldB es)) : HeldK (putK kvs (Sum.inl e.k) (.bl e.d)) (heldB (es ++ [e])) := by
  refine ⟨fun p hp => ?_, put_keys _ _ _ h.nd, fun k => ?_⟩
  · unfold putK at hp
    split at hp
    · obtain ⟨q, hq, rfl⟩ := List.mem_map.mp hp
      obtain ⟨k, b, rfl⟩ := h.fm q hq
      by_cases z : (Sum.inl k : Key) = Sum.inl e.k
      · exact ⟨k, e.d, by simp [z]⟩
      · exact ⟨k, b, by simp [z]⟩
    · rcases List.mem_append.mp hp with hp | hp
      · exact h.fm p hp
      · exact ⟨e.k, e.d, List.mem_singleton.mp hp⟩
  · rw [valV_put, heldB_snoc]
    unfold after
    by_cases z : k = e.k
    · subst z; simp
    · rw [if_neg (fun q => z (Sum.inl.inj q)), if_neg z]
      exact h.at_ k
def downs (kvs : List (Key × V)) : List Int := kvs.filterMap fun p => match p with
  | (Sum.inl k, .bl true) => some k
  | _ => none
theorem downs_cons (k : Int) (b : Bool) (r : List (Key × V)) : downs ((Sum.inl k, .bl b) :: r) = if b then k :: downs r else downs r := by
  cases b <;> simp [downs, List.filterMap_cons]
theorem downs_sub : ∀ {kvs : List (Key × V)} {k : Int}, k ∈ downs kvs → (Sum.inl k : Key) ∈ kvs.map (·.1)
  | kvs, k, h => by
    obtain ⟨p, hp, e⟩ := List.mem_filterMap.mp h
    refine List.mem_map.mpr ⟨p, hp, ?_⟩
    obtain ⟨a, b⟩ := p
    cases a with
    | inr _ => cases e
    | inl k' =>
      cases b with
      | bl c => cases c <;> simp at e; rw [e]
      | non => cases e
      | int _ => cases e
      | str _ => cases e
      | byt _ => cases e
      | flt _ => cases e
      | ref _ => cases e
      | ty _ => cases e
theorem downs_nd : ∀ {kvs : List (Key × V)}, (∀ p ∈ kvs, ∃ (k : Int) (b : Bool), p = (Sum.inl k, V.bl b)) → (kvs.map (·.1)).Nodup → (downs kvs).Nodup
  | [], _, _ => List.nodup_nil
  | p :: r, fm, nd => by
    obtain ⟨k, b, rfl⟩ := fm p List.mem_cons_self
    have nd' : ((Sum.inl k : Key) :: r.map (·.1)).Nodup := nd
    obtain ⟨n1, n2⟩ := List.nodup_cons.mp nd'
    have ih := downs_nd (fun q hq => fm q (List.mem_cons_of_mem _ hq)) n2
    rw [downs_cons]
    split
    · exact List.nodup_cons.mpr ⟨fun m => n1 (downs_sub m), ih⟩
    · exact ih
theorem downs_mem : ∀ {kvs : List (Key × V)}, (∀ p ∈ kvs, ∃ (k : Int) (b : Bool), p = (Sum.inl k, V.bl b)) → (kvs.map (·.1)).Nodup → ∀ k : Int, k ∈ downs kvs ↔ valV kvs (Sum.inl k) = some (.bl true)
  | [], _, _, k => by simp [downs, valV]
  | p :: r, fm, nd, k => by
    obtain ⟨k', b, rfl⟩ := fm p List.mem_cons_self
    have nd' : ((Sum.inl k' : Key) :: r.map (·.1)).Nodup := nd
    obtain ⟨n1, n2⟩ := List.nodup_cons.mp nd'
    have ih := downs_mem (fun q hq => fm q (List.mem_cons_of_mem _ hq)) n2 k
    rw [downs_cons]
    by_cases z : k' = k
    · subst z
      rw [valV_pos rfl]
      cases b with
      | true => simp
      | false =>
        simp only [Bool.false_eq_true, if_false]
        constructor
        · intro m; exact absurd (downs_sub m) n1
        · intro m; cases m
    · rw [valV_neg (fun q => z (Sum.inl.inj q))]
      rw [← ih]
      split
      · rw [List.mem_cons]
        exact ⟨fun q => q.resolve_left fun e => z e.symm, .inr⟩
      · exact Iff.rfl
theorem HeldK.mem {kvs : List (Key × V)} {h : Int → Bool} (x : HeldK kvs h) (k : Int) : k ∈ downs kvs ↔ h k = true := by
  rw [downs_mem x.fm x.nd k]
  have q := x.at_ k
  cases e : valV kvs (Sum.inl k) with
  | none =>
    rw [e] at q
    have q : V.bl false = .bl (h k) := q
    have : h k = false := (V.bl.inj q).symm
    simp [this]
  | some v =>
    rw [e] at q
    have q : v = .bl (h k) := q
    subst q
    constructor
    · intro z
      exact V.bl.inj (Option.some.inj z)
    · intro z
      rw [z]
/-- two ascending lists of the same keys -/
theorem same_sorted {a b c d : List Int} (h : ∀ k, k ∈ a ↔ k ∈ b) (na : a.Nodup) (nb : b.Nodup) (pa : c.Perm a) (pb : d.Perm b) (sa : c.Pairwise (· ≤ ·)) (sb : d.Pairwise (· ≤ ·)) : c = d := by
  have p : a.Perm b := (List.perm_ext_iff_of_nodup na nb).mpr h
  exact List.Perm.eq_of_pairwise (fun x y _ _ h1 h2 => Int.le_antisymm h1 h2) sa sb ((pa.trans p).trans pb.symm)

/-! ### heaps that change at one address alone -/
def Off (r : Addr) (H H' : Hp) : Prop := ∀ b o, H b = some o → b ≠ r → H' b = some o
theorem Off.refl {r : Addr} (H : Hp) : Off r H H := fun _ _ h _ => h
theorem Off.trans {r : Addr} {H H1 H2 : Hp} (a : Off r H H1) (b : Off r H1 H2) : Off r H H2 := fun c o h n => b c o (a c o h n) n
theorem Off.of {r : Addr} {H H1 : Hp} (a : Same H H1) : Off r H H1 := fun c o h _ => a c o h
theorem off_upd {r : Addr} {H : Hp} {o : HO} : Off r H (upd H r o) := fun b _ h n => by rw [upd_ne n]; exact h
theorem same_upd {H : Hp} {p : Addr} {o : HO} (h : H p = none) : Same H (upd H p o) := fun b x e => by
  rw [upd_ne (ne_of_none e h)]
  exact e
/-- what is new may change -/
theorem Same.off {H H1 H2 : Hp} {p : Addr} (s : Same H H1) (h : H p = none) (o : Off p H1 H2) : Same H H2 := fun b x e => o b x (s b x e) (ne_of_none e h)

/-! ### lists of tuples -/
def Tups {α : Type} (H : Hp) (f : α → List V) (as : List Addr) (es : List α) : Prop := as.length = es.length ∧ ∀ (i : Nat) (a : Addr) (e : α), as[i]? = some a → es[i]? = some e → H a = some (.tup (f e))
def Lst {α : Type} (f : α → List V) (H : Hp) (c : Addr) (es : List α) : Prop := ∃ as : List Addr, H c = some (.lst (as.map V.ref)) ∧ Tups H f as es
section
variable {α : Type} {f : α → List V} {H H' : Hp} {c r : Addr} {as : List Addr} {es : List α}
theorem Tups.nil : Tups H f [] ([] : List α) := ⟨rfl, fun i a e h _ => by simp at h⟩
theorem Tups.same (h : Tups H f as es) (s : Same H H') : Tups H' f as es := ⟨h.1, fun i a e x y => s _ _ (h.2 i a e x y)⟩
theorem Tups.off {ys : List V} (h : Tups H f as es) (hr : H r = some (.lst ys)) (o : Off r H H') : Tups H' f as es :=
  ⟨h.1, fun i a e x y => o _ _ (h.2 i a e x y) (ne_of (h.2 i a e x y) hr (by intro z; cases z))⟩
theorem Tups.snoc {a : Addr} {e : α} (h : Tups H f as es) (ha : H a = some (.tup (f e))) : Tups H f (as ++ [a]) (es ++ [e]) := by
  refine ⟨by rw [List.length_append, List.length_append, h.1]; rfl, fun i b x hb hx => ?_⟩
  rcases Nat.lt_or_ge i as.length with q | q
  · rw [List.getElem?_append_left q] at hb
    rw [List.getElem?_append_left (by rw [← h.1]; exact q)] at hx
    exact h.2 i b x hb hx
  · have hl := h.1
    have hi : i = as.length := by
      have := (List.getElem?_eq_some_iff.mp hb).1
      rw [List.length_append] at this
      simp at this
      omega
    subst hi
    rw [List.getElem?_append_right (Nat.le_refl _), Nat.sub_self] at hb
    rw [List.getElem?_append_right (by omega), show as.length - es.length = 0 by omega] at hx
    have e1 : a = b := Option.some.inj hb
    have e2 : e = x := Option.some.inj hx
    subst e1 e2
    exact ha
theorem Tups.take (h : Tups H f as es) (n : Nat) : Tups H f (as.take n) (es.take n) := by
  refine ⟨by rw [List.length_take, List.length_take, h.1], fun i b x hb hx => ?_⟩
  have hi : i < n := by
    rcases Nat.lt_or_ge i n with q | q
    · exact q
    · rw [List.getElem?_eq_none (by rw [List.length_take]; omega)] at hb; cases hb
  rw [List.getElem?_take_of_lt hi] at hb hx
  exact h.2 i b x hb hx
theorem Tups.append {bs : List Addr} {gs : List α} (h : Tups H f as es) (h' : Tups H f bs gs) : Tups H f (as ++ bs) (es ++ gs) := by
  refine ⟨by rw [List.length_append, List.length_append, h.1, h'.1], fun i b x hb hx => ?_⟩
  have hl := h.1
  rcases Nat.lt_or_ge i as.length with q | q
  · rw [List.getElem?_append_left q] at hb
    rw [List.getElem?_append_left (by omega)] at hx
    exact h.2 i b x hb hx
  · rw [List.getElem?_append_right q] at hb
    rw [List.getElem?_append_right (by omega), ← hl] at hx
    exact h'.2 _ b x hb hx
theorem Tups.at_ (h : Tups H f as es) {i : Nat} (hi : i < es.length) : ∃ a, as[i]? = some a ∧ H a = some (.tup (f es[i])) := by
  have hl := h.1
  exact ⟨as[i], List.getElem?_eq_getElem (by omega), h.2 i _ _ (List.getElem?_eq_getElem (by omega)) (List.getElem?_eq_getElem hi)⟩
theorem Tups.map {β : Type} {g : β → α} {bs : List β} (h : Tups H f as (bs.map g)) : Tups H (fun b => f (g b)) as bs := by
  refine ⟨by rw [h.1, List.length_map], fun i a b x y => h.2 i a (g b) x (by rw [List.getElem?_map, y]; rfl)⟩
theorem Tups.map' {β : Type} {g : β → α} {bs : List β} (h : Tups H (fun b => f (g b)) as bs) : Tups H f as (bs.map g) := by
  refine ⟨by rw [h.1, List.length_map], fun i a e x y => ?_⟩
  rw [List.getElem?_map] at y
  cases z : bs[i]? with
  | none => rw [z] at y; cases y
  | some b =>
    rw [z] at y
    have y : g b = e := Option.some.inj y
    subst y
    exact h.2 i a b x z
theorem Lst.same (h : Lst f H c es) (s : Same H H') : Lst f H' c es := by
  obtain ⟨as, a, b⟩ := h
  exact ⟨as, s _ _ a, b.same s⟩
theorem Lst.off {ys : List V} (h : Lst f H c es) (hr : H r = some (.lst ys)) (n : c ≠ r) (o : Off r H H') : Lst f H' c es := by
  obtain ⟨as, a, b⟩ := h
  exact ⟨as, o _ _ a n, b.off hr o⟩
end
theorem dp_int {K : PySem.W.Frag} {H : Hp} {i : Int} : Dp K H (.int i) (.int i) := .int i
theorem dpAll_of {K : PySem.W.Frag} {H : Hp} {α : Type} {f : α → List V} {g : α → PyData} (hg : ∀ (a : Addr) (e : α), H a = some (.tup (f e)) → Dp K H (.ref a) (g e)) :
    ∀ (as : List Addr) (es : List α), Tups H f as es → DpAll K H (as.map V.ref) (es.map g)
  | [], [], _ => .nil
  | [], _ :: _, h => by have := h.1; simp at this
  | _ :: _, [], h => by have := h.1; simp at this
  | a :: as, e :: es, h => .cons (hg a e (h.2 0 a e rfl rfl)) (dpAll_of hg as es ⟨by have := h.1; simpa using this, fun i b x hb hx => h.2 (i + 1) b x (by simpa using hb) (by simpa using hx)⟩)
theorem Lst.dp {K : PySem.W.Frag} {H : Hp} {c : Addr} {es : List Ev} (h : Lst evV H c es) : Dp K H (.ref c) (recD es) := by
  obtain ⟨as, a, b⟩ := h
  refine .lst (SqL.of a) (dpAll_of (fun a e ha => ?_) as es b)
  exact .tup (SqT.of ha) (.cons (.int _) (.cons (.int _) (.cons (.str _) .nil)))
theorem Lst.dpO {K : PySem.W.Frag} {H : Hp} {c : Addr} {es : List Ev} (h : Lst stV H c es) : Dp K H (.ref c) (ordD es) := by
  obtain ⟨as, a, b⟩ := h
  refine .lst (SqL.of a) (dpAll_of (fun a e ha => ?_) as es b)
  exact .tup (SqT.of ha) (.cons (.int _) (.cons (.str _) .nil))
theorem dpInts {K : PySem.W.Frag} {H : Hp} : ∀ ns : List Int, DpAll K H (ns.map V.int) (ns.map PyData.int)
  | [] => .nil
  | n :: ns => .cons (.int n) (dpInts ns)
theorem Lst.sql {K : PySem.W.Frag} {α : Type} {f : α → List V} {H : Hp} {c : Addr} {es : List α} (h : Lst f H c es) : ∃ xs : List V, SqL K H c xs ∧ xs.length = es.length := by
  obtain ⟨as, a, b⟩ := h
  exact ⟨_, SqL.of a, by rw [List.length_map]; exact b.1⟩

theorem val_at : ∀ {kvs : List (Key × V)} {i : Nat} {k : Key} {v : V}, (kvs.map (·.1)).Nodup → kvs[i]? = some (k, v) → valV kvs k = some v
  | [], _, _, _, _, h => by simp at h
  | p :: r, 0, k, v, _, h => by
    have e : p = (k, v) := Option.some.inj h
    subst e
    exact valV_pos rfl
  | p :: r, i + 1, k, v, nd, h => by
    have nd' : (p.1 :: r.map (·.1)).Nodup := nd
    obtain ⟨n1, n2⟩ := List.nodup_cons.mp nd'
    have h' : r[i]? = some (k, v) := by simpa using h
    have m : k ∈ r.map (·.1) := List.mem_map.mpr ⟨(k, v), List.mem_of_getElem? h', rfl⟩
    rw [valV_neg (fun e => n1 (e ▸ m))]
    exact val_at n2 h'
theorem downs_append (a b : List (Key × V)) : downs (a ++ b) = downs a ++ downs b := by unfold downs; rw [List.filterMap_append]
theorem downs_take {kvs : List (Key × V)} {i : Nat} {k : Int} {b : Bool} (h : kvs[i]? = some (Sum.inl k, .bl b)) : downs (kvs.take (i + 1)) = if b then downs (kvs.take i) ++ [k] else downs (kvs.take i) := by
  rw [List.take_add_one, h, downs_append]
  cases b <;> simp [downs]
theorem downs_len (kvs : List (Key × V)) : (downs kvs).length ≤ kvs.length := by unfold downs; exact List.length_filterMap_le _ _
end Rm

set_option Elab.async false
set_option linter.all false
set_option maxRecDepth 100000
set_option maxHeartbeats 4000000
namespace Rm
open PySem PySem.Spec PyProof.Rows L2 Gd

theorem Off.new {r p : Addr} {H H1 : Hp} {o : HO} (a : Off r H H1) (n : H p = none) : Off r H (upd H1 p o) := fun b x e ne => by
  rw [upd_ne (ne_of_none e n)]
  exact a b x e ne
theorem Off.at_ {r : Addr} {H H1 : Hp} {o : HO} (a : Off r H H1) : Off r H (upd H1 r o) := a.trans off_upd
theorem Off.sameTrans {r : Addr} {H H1 H2 : Hp} (a : Off r H H1) (b : Same H1 H2) : Off r H H2 := a.trans (Off.of b)
/-- what was free stays free of it: a new address of a later heap is new for the earlier one too -/
theorem Off.free {r p : Addr} {H H1 : Hp} {o : HO} (a : Off r H H1) (hr : H1 r = some o) (n : H1 p = none) : H p = none := by
  cases e : H p with
  | none => rfl
  | some x =>
    have h : p ≠ r := fun z => by rw [z, hr] at n; cases n
    rw [a p x e h] at n
    cases n

theorem getI {ns : List Int} {d : Int} (h0 : 0 ≤ d) (h1 : d < (ns.length : Int)) : ∃ (v : Int), atI (ns.map V.int) d = some (.int v) ∧ ns[d.toNat]? = some v := by
  have hd : d.toNat < ns.length := by omega
  refine ⟨ns[d.toNat], ?_, List.getElem?_eq_getElem hd⟩
  refine at_of (j := d.toNat) (by omega) ?_
  rw [List.getElem?_map, List.getElem?_eq_getElem hd]
  rfl
theorem inv_int (k : Int) : ∀ ns : List Int, inV (.int k) (ns.map V.int) = decide (k ∈ ns)
  | [] => rfl
  | n :: ns => by
    show (eqV (.int n) (.int k) || inV (.int k) (ns.map V.int)) = _
    rw [inv_int k ns]
    have e : eqV (.int n) (.int k) = decide (n = k) := by
      by_cases z : n = k <;> simp [eqV, z]
    rw [e]
    by_cases z : n = k
    · subst z; simp
    · have z' : ¬ k = n := fun q => z q.symm
      simp [z, z']
theorem flat_ints : ∀ ns : List Int, (ns.map V.int).all flatV = true
  | [] => rfl
  | n :: ns => by
    show (flatV (.int n) && (ns.map V.int).all flatV) = true
    rw [flat_ints ns]
    rfl
theorem lay_ints : ∀ ns : List Int, PyData.canLayAll0 (ns.map PyData.int) = true ∧ PyData.depthAll (ns.map PyData.int) = 0
  | [] => ⟨rfl, rfl⟩
  | n :: ns => by
    obtain ⟨a, b⟩ := lay_ints ns
    refine ⟨?_, ?_⟩
    · show (PyData.canLay0 (.int n) && PyData.canLayAll0 (ns.map PyData.int)) = true
      rw [a]
      rfl
    · show max (PyData.depth (.int n)) (PyData.depthAll (ns.map PyData.int)) = 0
      rw [b]
      rfl
theorem shaped_ints (ns : List Int) : SeqAt.shaped (.list (ns.map PyData.int)) = true := by
  obtain ⟨a, b⟩ := lay_ints ns
  show (PyData.canLayAll0 (ns.map PyData.int) && decide (PyData.depthAll (ns.map PyData.int) + 1 ≤ 64)) = true
  rw [a, b]
  rfl
theorem eqv_nil (ds : List PyData) : PyData.eqv (.list ds) (.list []) = ds.isEmpty := by
  cases ds <;> rfl
theorem mem_eraseIdx {ns : List Int} {j : Nat} {k : Int} (nd : ns.Nodup) (h : ns[j]? = some k) (x : Int) : x ∈ ns.eraseIdx j ↔ x ≠ k ∧ x ∈ ns := by
  rw [List.mem_eraseIdx_iff_getElem?]
  constructor
  · rintro ⟨i, hi, e⟩
    refine ⟨fun z => ?_, List.mem_of_getElem? e⟩
    subst z
    exact hi (nd_ix nd e h)
  · rintro ⟨hx, hm⟩
    obtain ⟨i, e⟩ := List.getElem?_of_mem hm
    refine ⟨i, fun z => ?_, e⟩
    subst z
    rw [h] at e
    exact hx (Option.some.inj e).symm
theorem first_ix {ns : List Int} {j : Nat} {k : Int} (nd : ns.Nodup) (h : ns[j]? = some k) : ∀ m : Nat, m < j → ns[m]? ≠ some k := fun m hm e => by
  have := nd_ix nd e h
  omega

/-! ### the keys that are down, as a list -/
structure DownOk (ns : List Int) (es : List Ev) : Prop where
  nd : ns.Nodup
  mem : ∀ k, k ∈ ns ↔ heldB es k = true
theorem DownOk.nil : DownOk [] [] := ⟨List.nodup_nil, fun k => by simp [heldB]⟩
theorem DownOk.down {ns : List Int} {es : List Ev} {t k : Int} (h : DownOk ns es) (n : ¬ k ∈ ns) : DownOk (ns ++ [k]) (es ++ [⟨t, k, true⟩]) := by
  refine ⟨nd_snoc h.nd n, fun x => ?_⟩
  rw [heldB_snoc]
  unfold after
  rw [List.mem_append, List.mem_singleton, h.mem]
  by_cases z : x = k
  · subst z; simp
  · simp [z]
theorem DownOk.up {ns : List Int} {es : List Ev} {t k : Int} {j : Nat} (h : DownOk ns es) (e : ns[j]? = some k) : DownOk (ns.eraseIdx j) (es ++ [⟨t, k, false⟩]) := by
  refine ⟨h.nd.eraseIdx j, fun x => ?_⟩
  rw [heldB_snoc, mem_eraseIdx h.nd e, h.mem]
  unfold after
  by_cases z : x = k
  · subst z; simp
  · simp [z]
theorem DownOk.not {ns : List Int} {es : List Ev} {k : Int} (h : DownOk ns es) (n : ¬ k ∈ ns) : heldB es k = false := by
  cases e : heldB es k with
  | false => rfl
  | true => exact absurd ((h.mem k).mpr e) n
/-- other keys for the same -/
theorem heldB_map {f : Int → Int} (hf : ∀ a b, f a = f b → a = b) : ∀ (es : List Ev) (k : Int), heldB (es.map fun e => ⟨e.t, f e.k, e.d⟩) (f k) = heldB es k := by
  intro es k
  suffices h : ∀ (es : List Ev) (g g' : Int → Bool), (∀ k, g' (f k) = g k) → ∀ k, (es.map fun e => (⟨e.t, f e.k, e.d⟩ : Ev)).foldl after g' (f k) = es.foldl after g k from h es _ _ (fun _ => rfl) k
  intro es
  induction es with
  | nil => intro g g' h k; exact h k
  | cons e es ih =>
    intro g g' h k
    refine ih (after g e) (after g' ⟨e.t, f e.k, e.d⟩) (fun x => ?_) k
    unfold after
    by_cases z : x = e.k
    · subst z; simp
    · have z' : ¬ f x = f e.k := fun q => z (hf _ _ q)
      show (if f x = f e.k then e.d else g' (f x)) = if x = e.k then e.d else g x
      rw [if_neg z, if_neg z', h]
theorem Valid.rekey {f : Int → Int} (hf : ∀ a b, f a = f b → a = b) {es : List Ev} (h : Valid es) (h0 : ∀ e ∈ es, 0 ≤ f e.k) : Valid (es.map fun e => ⟨e.t, f e.k, e.d⟩) := fun i e x => by
  rw [List.getElem?_map] at x
  cases y : es[i]? with
  | none => rw [y] at x; cases x
  | some e' =>
    rw [y] at x
    have x : (⟨e'.t, f e'.k, e'.d⟩ : Ev) = e := Option.some.inj x
    subst x
    obtain ⟨a, b, c⟩ := h i e' y
    refine ⟨h0 e' (List.mem_of_getElem? y), ?_, fun j g hj z => ?_⟩
    · rw [← List.map_take]
      show heldB _ (f e'.k) = !e'.d
      rw [heldB_map hf]
      exact b
    · rw [List.getElem?_map] at z
      cases y2 : es[j]? with
      | none => rw [y2] at z; cases z
      | some g' =>
        rw [y2] at z
        have z : (⟨g'.t, f g'.k, g'.d⟩ : Ev) = g := Option.some.inj z
        subst z
        exact c j g' hj y2
/-- ups behind all for keys that are down -/
theorem Valid.ups {t : Int} : ∀ (ns : List Int) {es : List Ev}, Valid es → ns.Nodup → (∀ k ∈ ns, heldB es k = true ∧ 0 ≤ k) → (∀ e ∈ es, e.t ≤ t) → Valid (es ++ ns.map fun k => ⟨t, k, false⟩)
  | [], es, h, _, _, _ => by simpa using h
  | k :: ns, es, h, nd, hb, ht => by
    obtain ⟨n1, n2⟩ := List.nodup_cons.mp nd
    have h1 : Valid (es ++ [⟨t, k, false⟩]) := h.snoc (hb k List.mem_cons_self).2 (by have := (hb k List.mem_cons_self).1; simpa using this) ht
    have := Valid.ups ns h1 n2 (fun x hx => ⟨by
        rw [heldB_snoc]
        unfold after
        have z : x ≠ k := fun q => n1 (q ▸ hx)
        rw [if_neg z]
        exact (hb x (List.mem_cons_of_mem _ hx)).1, (hb x (List.mem_cons_of_mem _ hx)).2⟩) (fun e he => by
        rcases List.mem_append.mp he with he | he
        · exact ht e he
        · rw [List.mem_singleton.mp he]; exact Int.le_refl _)
    simpa using this
theorem heldB_ups {t : Int} : ∀ (ns : List Int) (es : List Ev) (k : Int), heldB (es ++ ns.map fun k => ⟨t, k, false⟩) k = (heldB es k && !decide (k ∈ ns))
  | [], es, k => by simp
  | n :: ns, es, k => by
    have e : es ++ (n :: ns).map (fun k => (⟨t, k, false⟩ : Ev)) = (es ++ [⟨t, n, false⟩]) ++ ns.map fun k => ⟨t, k, false⟩ := by simp
    rw [e, heldB_ups ns, heldB_snoc]
    unfold after
    by_cases z : k = n
    · subst z; simp
    · have : (k ∈ n :: ns) ↔ k ∈ ns := by simp [z]
      simp [z]
/-- who is down is a key of the record -/
theorem held_mem : ∀ {es : List Ev} {k : Int}, heldB es k = true → ∃ e ∈ es, e.k = k := by
  intro es k
  suffices h : ∀ (es : List Ev) (g : Int → Bool), es.foldl after g k = true → g k = true ∨ ∃ e ∈ es, e.k = k by
    intro z
    rcases h es _ z with q | q
    · cases q
    · exact q
  intro es
  induction es with
  | nil => intro g h; exact .inl h
  | cons e es ih =>
    intro g h
    rcases ih (after g e) h with q | ⟨e', he, hk⟩
    · unfold after at q
      by_cases z : k = e.k
      · exact .inr ⟨e, List.mem_cons_self, z.symm⟩
      · rw [if_neg z] at q
        exact .inl q
    · exact .inr ⟨e', List.mem_cons_of_mem _ he, hk⟩
theorem Valid.mono {es : List Ev} (h : Valid es) : ∀ (i j : Nat) (a b : Ev), i < j → es[i]? = some a → es[j]? = some b → a.t ≤ b.t := fun i j a b hij ha hb => (h j b hb).2.2 i a hij ha
theorem lay_st : ∀ es : List Ev, PyData.canLayAll0 (es.map stD) = true ∧ PyData.depthAll (es.map stD) ≤ 1
  | [] => ⟨rfl, Nat.zero_le _⟩
  | e :: es => by
    obtain ⟨a, b⟩ := lay_st es
    refine ⟨?_, ?_⟩
    · have h : PyData.canLay0 (.str (wayS e.d)) = true := by cases e.d <;> decide +kernel
      show ((true && (PyData.canLay0 (.str (wayS e.d)) && true)) && PyData.canLayAll0 (es.map stD)) = true
      rw [a, h]
      rfl
    · show max (PyData.depth (stD e)) (PyData.depthAll (es.map stD)) ≤ 1
      have : PyData.depth (stD e) = 1 := rfl
      omega
theorem shaped_ord (es : List Ev) : SeqAt.shaped (ordD es) = true := by
  obtain ⟨a, b⟩ := lay_st es
  show (PyData.canLayAll0 (es.map stD) && decide (PyData.depthAll (es.map stD) + 1 ≤ 64)) = true
  rw [a, decide_eq_true (by omega)]
  rfl
theorem shaped_nil : SeqAt.shaped (.list []) = true := rfl
end Rm

set_option Elab.async false
set_option linter.all false
set_option maxRecDepth 100000
set_option maxHeartbeats 4000000
namespace La
open PySem PySem.Spec PyProof.Rows L2 Gd Rm

/-! ### codes -/
def signs : Str := "abcdefghijklmnopqrstuvwxyz0123456789"
def CodeOk (c : Str) : Prop := 1 ≤ c.cps.size ∧ c.cps.size ≤ 8 ∧ ∀ x ∈ c.cps.toList, x ∈ signs.cps.toList
instance (c : Str) : Decidable (CodeOk c) := by unfold CodeOk; infer_instance
theorem signs_low : ∀ x ∈ signs.cps.toList, x < 16 ^ 8 := by decide +kernel
theorem fit_code {c : Str} (h : CodeOk c) : Fit 210 0 (.str c) := by
  refine ⟨rfl, Nat.le_refl _, ?_⟩
  have q := PySem.StrLaws.reprText_len c fun x hx => signs_low x (h.2.2 x hx)
  have e : c.length = c.cps.size := rfl
  have := h.2.1
  show (reprText c).length ≤ 210
  omega
theorem joinL_one : ∀ cs : List Nat, TL.joinL [] (cs.map fun c => [c]) = cs
  | [] => rfl
  | [c] => rfl
  | c :: d :: r => by
    have ih := joinL_one (d :: r)
    show [c] ++ ([] ++ TL.joinL [] ((d :: r).map fun c => [c])) = c :: d :: r
    rw [ih]
    rfl
theorem join_one (cs : List Nat) : (Txt.join (("" : String) : Str) (cs.map fun c => (⟨#[c]⟩ : Str))).cps.toList = cs := by
  have h : ∀ a ys, Txt.join a ys = Str.join a ys := fun a ys => TL.join_eq a ys
  rw [h]
  show TL.tl (Str.join _ _) = cs
  rw [TL.tl_join, List.map_map]
  exact joinL_one cs
theorem code_join {cs : List Nat} (h1 : 1 ≤ cs.length) (h8 : cs.length ≤ 8) (h : ∀ c ∈ cs, c ∈ signs.cps.toList) : CodeOk (Txt.join (("" : String) : Str) (cs.map fun c => (⟨#[c]⟩ : Str))) := by
  have e := join_one cs
  refine ⟨?_, ?_, fun x hx => ?_⟩
  · rw [← Array.length_toList, e]; exact h1
  · rw [← Array.length_toList, e]; exact h8
  · rw [e] at hx; exact h x hx

/-! ### actions -/
inductive Actn where
  | none
  | thr
  | code (c : Str)
  | lay (w : Str) (j : Int)
  | dualC (c d : Str) (t : Int) (r : Str)
  | dualL (c : Str) (j t : Int) (r : Str)
def layWords : List Str := ["layer", "lock", "once"]
def rules : List Str := ["time", "other", "within"]
def ActOk (n i : Int) : Actn → Prop
  | .none => True
  | .thr => 0 < i
  | .code c => CodeOk c
  | .lay w j => w ∈ layWords ∧ 1 ≤ j ∧ j ≤ n - 1
  | .dualC c d t r => CodeOk c ∧ CodeOk d ∧ (1 ≤ t ∧ t ≤ 1000000000) ∧ r ∈ rules
  | .dualL c j t r => CodeOk c ∧ (1 ≤ j ∧ j ≤ n - 1) ∧ (1 ≤ t ∧ t ≤ 1000000000) ∧ r ∈ rules
def ActV (H : Hp) : Actn → V → Prop
  | .none, v => v = .str "none"
  | .thr, v => v = .str "through"
  | .code c, v => ∃ a, v = .ref a ∧ H a = some (.tup [.str "code", .str c])
  | .lay w j, v => ∃ a, v = .ref a ∧ H a = some (.tup [.str w, .int j])
  | .dualC c d t r, v => ∃ a b, v = .ref a ∧ H a = some (.tup [.str "dual", .str c, .ref b, .int t, .str r]) ∧ H b = some (.tup [.str "code", .str d])
  | .dualL c j t r, v => ∃ a b, v = .ref a ∧ H a = some (.tup [.str "dual", .str c, .ref b, .int t, .str r]) ∧ H b = some (.tup [.str "layer", .int j])
def actD : Actn → PyData
  | .none => .str "none"
  | .thr => .str "through"
  | .code c => .tuple [.str "code", .str c]
  | .lay w j => .tuple [.str w, .int j]
  | .dualC c d t r => .tuple [.str "dual", .str c, .tuple [.str "code", .str d], .int t, .str r]
  | .dualL c j t r => .tuple [.str "dual", .str c, .tuple [.str "layer", .int j], .int t, .str r]
theorem fit_word {w : Str} (h : w ∈ layWords ∨ w ∈ rules) : Fit 210 0 (.str w) := by
  refine ⟨rfl, Nat.le_refl _, ?_⟩
  unfold layWords rules at h
  simp only [List.mem_cons, List.mem_nil_iff, or_false] at h
  rcases h with (rfl | rfl | rfl) | (rfl | rfl | rfl) <;> decide +kernel
theorem fit_const (w : Str) (h : (reprText w).length ≤ 210 := by decide +kernel) : Fit 210 0 (.str w) := ⟨rfl, Nat.le_refl _, h⟩
theorem fit_two' {a b : PyData} (ha : Fit 210 0 a) (hb : Fit 210 0 b) : Fit 500 1 (.tuple [a, b]) := by
  refine Fit.mono (fit_tup (L := 210) (n := 0) fun d hd => ?_) (by show 2 * 212 + 3 ≤ 500; decide) (Nat.le_refl _)
  simp only [List.mem_cons, List.mem_nil_iff, or_false] at hd
  rcases hd with rfl | rfl
  · exact ha
  · exact hb
theorem fit_five {a b c d e : PyData} (ha : Fit 210 0 a) (hb : Fit 210 0 b) (hc : Fit 500 1 c) (hd : Fit 210 0 d) (he : Fit 210 0 e) : Fit 3000 2 (.tuple [a, b, c, d, e]) := by
  refine Fit.mono (fit_tup (L := 500) (n := 1) fun x hx => ?_) (by show 5 * 502 + 3 ≤ 3000; decide) (Nat.le_refl _)
  simp only [List.mem_cons, List.mem_nil_iff, or_false] at hx
  rcases hx with rfl | rfl | rfl | rfl | rfl
  · exact ha.mono (by decide) (by decide)
  · exact hb.mono (by decide) (by decide)
  · exact hc
  · exact hd.mono (by decide) (by decide)
  · exact he.mono (by decide) (by decide)
theorem fit_low {i : Int} (h : 0 ≤ i) (h2 : i ≤ 1000000000) : Fit 210 0 (.int i) := fit_int (by
  have : (2 : Nat) ^ 200 > 1000000000 := by decide
  omega)
theorem fit_act {n i : Int} {x : Actn} (h : ActOk n i x) (hn : n ≤ 1000) : Fit 3000 2 (actD x) := by
  cases x with
  | none => exact (fit_const "none").mono (by decide) (by decide)
  | thr => exact (fit_const "through").mono (by decide) (by decide)
  | code c => exact (fit_two' (fit_const "code") (fit_code h)).mono (by decide) (by decide)
  | lay w j =>
    obtain ⟨a, b, c⟩ := h
    exact (fit_two' (fit_word (.inl a)) (fit_low (by omega) (by omega))).mono (by decide) (by decide)
  | dualC c d t r =>
    obtain ⟨a, b, ⟨c1, c2⟩, e⟩ := h
    exact fit_five (fit_const "dual") (fit_code a) (fit_two' (fit_const "code") (fit_code b)) (fit_low (by omega) c2) (fit_word (.inr e))
  | dualL c j t r =>
    obtain ⟨a, ⟨b1, b2⟩, ⟨c1, c2⟩, e⟩ := h
    exact fit_five (fit_const "dual") (fit_code a) (fit_two' (fit_const "layer") (fit_low (by omega) (by omega))) (fit_low (by omega) c2) (fit_word (.inr e))

/-! ### heaps in which tuples stay -/
def Tk (H H' : Hp) : Prop := ∀ b xs, H b = some (.tup xs) → H' b = some (.tup xs)
theorem Tk.of {H H' : Hp} (s : Same H H') : Tk H H' := fun b xs h => s _ _ h
theorem Tk.trans {H H1 H2 : Hp} (a : Tk H H1) (b : Tk H1 H2) : Tk H H2 := fun c xs h => b c xs (a c xs h)
theorem Tk.refl (H : Hp) : Tk H H := fun _ _ h => h
theorem tk_upd {H : Hp} {r : Addr} {ys zs : List V} (h : H r = some (.lst ys)) : Tk H (upd H r (.lst zs)) := fun b xs e => by
  rw [upd_ne (ne_of e h (by intro z; cases z))]
  exact e
theorem ActV.keep {H H' : Hp} (t : Tk H H') : ∀ {x : Actn} {v : V}, ActV H x v → ActV H' x v
  | .none, _, h => h
  | .thr, _, h => h
  | .code _, _, ⟨a, e, h⟩ => ⟨a, e, t _ _ h⟩
  | .lay _ _, _, ⟨a, e, h⟩ => ⟨a, e, t _ _ h⟩
  | .dualC _ _ _ _, _, ⟨a, b, e, h, g⟩ => ⟨a, b, e, t _ _ h, t _ _ g⟩
  | .dualL _ _ _ _, _, ⟨a, b, e, h, g⟩ => ⟨a, b, e, t _ _ h, t _ _ g⟩
theorem ActV.dp {K : PySem.W.Frag} {H : Hp} : ∀ {x : Actn} {v : V}, ActV H x v → Dp K H v (actD x)
  | .none, _, h => by cases h; exact .str _
  | .thr, _, h => by cases h; exact .str _
  | .code _, _, ⟨a, e, h⟩ => by cases e; exact .tup (SqT.of h) (.cons (.str _) (.cons (.str _) .nil))
  | .lay _ _, _, ⟨a, e, h⟩ => by cases e; exact .tup (SqT.of h) (.cons (.str _) (.cons (.int _) .nil))
  | .dualC _ _ _ _, _, ⟨a, b, e, h, g⟩ => by
    cases e
    exact .tup (SqT.of h) (.cons (.str _) (.cons (.str _) (.cons (.tup (SqT.of g) (.cons (.str _) (.cons (.str _) .nil))) (.cons (.int _) (.cons (.str _) .nil)))))
  | .dualL _ _ _ _, _, ⟨a, b, e, h, g⟩ => by
    cases e
    exact .tup (SqT.of h) (.cons (.str _) (.cons (.str _) (.cons (.tup (SqT.of g) (.cons (.str _) (.cons (.int _) .nil))) (.cons (.int _) (.cons (.str _) .nil)))))

/-! ### rows and layouts -/
def Acts (H : Hp) (vs : List V) (xs : List Actn) : Prop := vs.length = xs.length ∧ ∀ (i : Nat) (v : V) (x : Actn), vs[i]? = some v → xs[i]? = some x → ActV H x v
def Row (H : Hp) (r : Addr) (xs : List Actn) : Prop := ∃ vs, H r = some (.lst vs) ∧ Acts H vs xs
def Rows (H : Hp) (rs : List Addr) (L : List (List Actn)) : Prop := rs.length = L.length ∧ ∀ (i : Nat) (r : Addr) (row : List Actn), rs[i]? = some r → L[i]? = some row → Row H r row
def Lay (H : Hp) (c : Addr) (L : List (List Actn)) : Prop := ∃ rs : List Addr, H c = some (.lst (rs.map V.ref)) ∧ Rows H rs L
def rowD (xs : List Actn) : PyData := .list (xs.map actD)
def layD (L : List (List Actn)) : PyData := .list (L.map rowD)
structure LayOk (L : List (List Actn)) (m : Nat) : Prop where
  n1 : 1 ≤ L.length
  n6 : L.length ≤ 6
  m1 : 1 ≤ m
  m16 : m ≤ 16
  len : ∀ row ∈ L, row.length = m
  ok : ∀ (i : Nat) (row : List Actn), L[i]? = some row → ∀ x ∈ row, ActOk L.length i x
section
variable {H H' : Hp} {c r : Addr} {vs : List V} {xs : List Actn} {rs : List Addr} {L : List (List Actn)} {m : Nat}
theorem Acts.nil : Acts H [] [] := ⟨rfl, fun i v x h _ => by simp at h⟩
theorem Acts.keep (h : Acts H vs xs) (t : Tk H H') : Acts H' vs xs := ⟨h.1, fun i v x a b => (h.2 i v x a b).keep t⟩
theorem Acts.at_ (h : Acts H vs xs) {i : Nat} (hi : i < xs.length) : ∃ v, vs[i]? = some v ∧ ActV H xs[i] v := by
  have hl := h.1
  exact ⟨vs[i], List.getElem?_eq_getElem (by omega), h.2 i _ _ (List.getElem?_eq_getElem (by omega)) (List.getElem?_eq_getElem hi)⟩
theorem Acts.snoc {v : V} {x : Actn} (h : Acts H vs xs) (hv : ActV H x v) : Acts H (vs ++ [v]) (xs ++ [x]) := by
  refine ⟨by rw [List.length_append, List.length_append, h.1]; rfl, fun i u y a b => ?_⟩
  have hl := h.1
  rcases Nat.lt_or_ge i vs.length with q | q
  · rw [List.getElem?_append_left q] at a
    rw [List.getElem?_append_left (by omega)] at b
    exact h.2 i u y a b
  · have hi : i = vs.length := by
      have := (List.getElem?_eq_some_iff.mp a).1
      rw [List.length_append] at this
      simp at this
      omega
    subst hi
    rw [List.getElem?_append_right (Nat.le_refl _), Nat.sub_self] at a
    rw [List.getElem?_append_right (by omega), show vs.length - xs.length = 0 by omega] at b
    have e1 : v = u := Option.some.inj a
    have e2 : x = y := Option.some.inj b
    subst e1 e2
    exact hv
theorem Acts.set {v : V} {x : Actn} {j : Nat} (h : Acts H vs xs) (hv : ActV H x v) : Acts H (vs.set j v) (xs.set j x) := by
  refine ⟨by rw [List.length_set, List.length_set, h.1], fun i u y a b => ?_⟩
  have hl := h.1
  by_cases z : j = i
  · subst z
    have hj : j < vs.length := by
      have := (List.getElem?_eq_some_iff.mp a).1
      rwa [List.length_set] at this
    rw [List.getElem?_set_self hj] at a
    rw [List.getElem?_set_self (by omega)] at b
    have e1 : v = u := Option.some.inj a
    have e2 : x = y := Option.some.inj b
    subst e1 e2
    exact hv
  · rw [List.getElem?_set_ne z] at a b
    exact h.2 i u y a b
theorem Row.same (h : Row H r xs) (s : Same H H') : Row H' r xs := by
  obtain ⟨vs, a, b⟩ := h
  exact ⟨vs, s _ _ a, b.keep (Tk.of s)⟩
theorem Rows.same (h : Rows H rs L) (s : Same H H') : Rows H' rs L := ⟨h.1, fun i r row a b => (h.2 i r row a b).same s⟩
theorem Lay.same (h : Lay H c L) (s : Same H H') : Lay H' c L := by
  obtain ⟨rs, a, b⟩ := h
  exact ⟨rs, s _ _ a, b.same s⟩
theorem Rows.at_ (h : Rows H rs L) {i : Nat} (hi : i < L.length) : ∃ r, rs[i]? = some r ∧ Row H r L[i] := by
  have hl := h.1
  exact ⟨rs[i], List.getElem?_eq_getElem (by omega), h.2 i _ _ (List.getElem?_eq_getElem (by omega)) (List.getElem?_eq_getElem hi)⟩
theorem Acts.dp {K : PySem.W.Frag} : ∀ {vs : List V} {xs : List Actn}, Acts H vs xs → DpAll K H vs (xs.map actD)
  | [], [], _ => .nil
  | [], _ :: _, h => by have := h.1; simp at this
  | _ :: _, [], h => by have := h.1; simp at this
  | v :: vs, x :: xs, h => .cons ((h.2 0 v x rfl rfl).dp) (Acts.dp ⟨by have := h.1; simpa using this, fun i u y a b => h.2 (i + 1) u y (by simpa using a) (by simpa using b)⟩)
theorem Row.dp {K : PySem.W.Frag} (h : Row H r xs) : Dp K H (.ref r) (rowD xs) := by
  obtain ⟨vs, a, b⟩ := h
  exact .lst (SqL.of a) b.dp
theorem Rows.dp {K : PySem.W.Frag} : ∀ {rs : List Addr} {L : List (List Actn)}, Rows H rs L → DpAll K H (rs.map V.ref) (L.map rowD)
  | [], [], _ => .nil
  | [], _ :: _, h => by have := h.1; simp at this
  | _ :: _, [], h => by have := h.1; simp at this
  | r :: rs, row :: L, h => .cons ((h.2 0 r row rfl rfl).dp) (Rows.dp ⟨by have := h.1; simpa using this, fun i u y a b => h.2 (i + 1) u y (by simpa using a) (by simpa using b)⟩)
theorem Lay.dp {K : PySem.W.Frag} (h : Lay H c L) : Dp K H (.ref c) (layD L) := by
  obtain ⟨rs, a, b⟩ := h
  exact .lst (SqL.of a) b.dp
theorem LayOk.fit (h : LayOk L m) : Fit 300100 4 (layD L) := by
  refine Fit.mono (fit_list (L := 50000) (n := 3) fun d hd => ?_) (by rw [List.length_map]; have := h.n6; omega) (Nat.le_refl _)
  obtain ⟨row, hr, rfl⟩ := List.mem_map.mp hd
  obtain ⟨i, hi⟩ := List.getElem?_of_mem hr
  refine Fit.mono (fit_list (L := 3000) (n := 2) fun d hd => ?_) (by rw [List.length_map, h.len row hr]; have := h.m16; omega) (Nat.le_refl _)
  obtain ⟨x, hx, rfl⟩ := List.mem_map.mp hd
  exact fit_act (h.ok i row hi x hx) (by have := h.n6; omega)
theorem LayOk.set (h : LayOk L m) {i j : Nat} {x : Actn} {row : List Actn} (hi : L[i]? = some row) (hx : ActOk L.length i x) : LayOk (L.set i (row.set j x)) m := by
  have hil := (List.getElem?_eq_some_iff.mp hi).1
  refine ⟨by rw [List.length_set]; exact h.n1, by rw [List.length_set]; exact h.n6, h.m1, h.m16, fun r hr => ?_, fun k r hk y hy => ?_⟩
  · rcases List.mem_or_eq_of_mem_set hr with q | q
    · exact h.len r q
    · rw [q, List.length_set]; exact h.len row (List.mem_of_getElem? hi)
  · rw [List.length_set]
    by_cases z : i = k
    · subst z
      rw [List.getElem?_set_self hil] at hk
      have e : row.set j x = r := Option.some.inj hk
      subst e
      rcases List.mem_or_eq_of_mem_set hy with q | q
      · exact h.ok i row hi y q
      · rw [q]; exact hx
    · rw [List.getElem?_set_ne z] at hk
      exact h.ok k r hk y hy
end
theorem inv_str (k : Str) : ∀ ws : List Str, inV (.str k) (ws.map V.str) = decide (k ∈ ws)
  | [] => rfl
  | n :: ns => by
    show (eqV (.str n) (.str k) || inV (.str k) (ns.map V.str)) = _
    rw [inv_str k ns]
    have e : eqV (.str n) (.str k) = decide (n = k) := by
      by_cases z : n = k <;> simp [eqV, z]
    rw [e]
    by_cases z : n = k
    · subst z; simp
    · have z' : ¬ k = n := fun q => z q.symm
      simp [z, z']
end La

set_option Elab.async false
set_option linter.all false
set_option maxRecDepth 100000
set_option maxHeartbeats 4000000
namespace Tx
open PySem PySem.Spec PyProof.Rows L2 Gd Rm La

/-! ### signs and numbers -/
theorem empty_app (x : Str) : Str.empty ++ x = x := TL.ext_tl (by rw [TL.tl_append]; rfl)
def numS (i : Int) : Str := Str.ofString (toString i)
theorem numS_tl {i : Int} (h : 0 ≤ i) : TL.tl (numS i) = TL.numL i.toNat := by
  have e : i = ((i.toNat : Nat) : Int) := by omega
  unfold numS
  rw [e]
  exact TL.tl_num _
theorem numL_head : ∀ n : Nat, 1 ≤ n → ∃ c r, TL.numL n = c :: r ∧ c ≠ 48 := by
  intro n
  induction n using Nat.strongRecOn with
  | _ n ih =>
    intro h
    by_cases z : n < 10
    · exact ⟨48 + n, [], TL.numL_lt z, by omega⟩
    · obtain ⟨c, r, e, hc⟩ := ih (n / 10) (by omega) (by omega)
      refine ⟨c, r ++ [48 + n % 10], ?_, hc⟩
      rw [TL.numL_step (by omega), e]
      rfl
theorem numL_low {n c : Nat} (h : c ∈ TL.numL n) : 48 ≤ c ∧ c ≤ 57 := TL.numL_digits n c h
theorem numS_len {i : Int} (h0 : 0 ≤ i) (h : i ≤ 1000000000) : (numS i).length ≤ 10 := by
  rw [TL.len_tl, numS_tl h0]
  refine TL.numL_len (by decide) ?_
  have : (10 : Nat) ^ 10 = 10000000000 := by decide
  omega
theorem numS_int {i : Int} (h0 : 0 ≤ i) (h : i ≤ 1000000000) : intText? (numS i) = some i := by
  have e : i = ((i.toNat : Nat) : Int) := by omega
  have l := numS_len h0 h
  rw [TL.len_tl, numS_tl h0] at l
  have := TL.int_num (n := i.toNat) (by omega)
  unfold numS
  rw [e]
  exact this
def sgn (w : Str) : Str := if w = ("layer" : String) then "@" else if w = ("lock" : String) then "!" else "^"
def rsg (r : Str) : Str := if r = ("time" : String) then "t" else if r = ("other" : String) then "o" else "w"
theorem signs_cases : ∀ c ∈ signs.cps.toList, (48 ≤ c ∧ c ≤ 57) ∨ (97 ≤ c ∧ c ≤ 122) := by decide +kernel
theorem code_low {c : Str} (h : CodeOk c) : ∀ x ∈ TL.tl c, (48 ≤ x ∧ x ≤ 57) ∨ (97 ≤ x ∧ x ≤ 122) := fun x hx => signs_cases x (h.2.2 x hx)
theorem code_len {c : Str} (h : CodeOk c) : c.length ≤ 8 := h.2.1
theorem sgn_tl {w : Str} (h : w ∈ layWords) : ∃ c, TL.tl (sgn w) = [c] ∧ (c = 64 ∨ c = 33 ∨ c = 94) ∧ sgn w = ⟨#[c]⟩ := by
  unfold layWords at h
  simp only [List.mem_cons, List.mem_nil_iff, or_false] at h
  rcases h with rfl | rfl | rfl
  · exact ⟨64, by decide +kernel, .inl rfl, by decide +kernel⟩
  · exact ⟨33, by decide +kernel, .inr (.inl rfl), by decide +kernel⟩
  · exact ⟨94, by decide +kernel, .inr (.inr rfl), by decide +kernel⟩
theorem rsg_tl {r : Str} (h : r ∈ rules) : ∃ c, TL.tl (rsg r) = [c] ∧ 97 ≤ c ∧ c ≤ 122 ∧ rsg r = ⟨#[c]⟩ := by
  unfold rules at h
  simp only [List.mem_cons, List.mem_nil_iff, or_false] at h
  rcases h with rfl | rfl | rfl
  · exact ⟨116, by decide +kernel, by decide, by decide, by decide +kernel⟩
  · exact ⟨111, by decide +kernel, by decide, by decide, by decide +kernel⟩
  · exact ⟨119, by decide +kernel, by decide, by decide, by decide +kernel⟩
/-- the word of an action -/
def wtx : Actn → Str
  | .none => "."
  | .thr => "-"
  | .code c => c
  | .lay w j => sgn w ++ numS j
  | .dualC c d t r => c ++ "/" ++ d ++ ":" ++ numS t ++ rsg r
  | .dualL c j t r => c ++ "/" ++ (sgn "layer" ++ numS j) ++ ":" ++ numS t ++ rsg r
theorem tl_s1 : TL.tl (("/" : String) : Str) = [47] := by decide +kernel
theorem tl_s2 : TL.tl (((":" : String)) : Str) = [58] := by decide +kernel
theorem tl_s3 : TL.tl (((" " : String)) : Str) = [32] := by decide +kernel
theorem tl_s4 : TL.tl (((  "\n" : String)) : Str) = [10] := by decide +kernel
theorem lay_in : (("layer" : String) : Str) ∈ layWords := by decide +kernel
theorem low33 {n i : Int} {x : Actn} (h : ActOk n i x) : ∀ c ∈ TL.tl (wtx x), 33 ≤ c := by
  have code : ∀ {c : Str}, CodeOk c → ∀ x ∈ TL.tl c, 33 ≤ x := fun hc x hx => by
    rcases code_low hc x hx with z | z <;> omega
  have num : ∀ {j : Int}, 0 ≤ j → ∀ x ∈ TL.tl (numS j), 33 ≤ x := fun hj x hx => by
    rw [numS_tl hj] at hx
    have := numL_low hx
    omega
  cases x with
  | none => decide +kernel
  | thr => decide +kernel
  | code c => exact code h
  | lay w j =>
    obtain ⟨h1, h2, h3⟩ := h
    intro c hc
    obtain ⟨d, e, hd, _⟩ := sgn_tl h1
    rw [wtx, TL.tl_append, e] at hc
    rcases List.mem_append.mp hc with z | z
    · rw [List.mem_singleton.mp z]; omega
    · exact num (by omega) c z
  | dualC c d t r =>
    obtain ⟨h1, h2, ⟨h3, h4⟩, h5⟩ := h
    obtain ⟨k, e, k1, k2, _⟩ := rsg_tl h5
    intro x hx
    simp only [wtx, TL.tl_append, tl_s1, tl_s2, e, List.mem_append, List.mem_singleton] at hx
    rcases hx with ((((z | z) | z) | z) | z) | z
    · exact code h1 x z
    · omega
    · exact code h2 x z
    · omega
    · exact num (by omega) x z
    · omega
  | dualL c j t r =>
    obtain ⟨h1, ⟨h2, h2'⟩, ⟨h3, h4⟩, h5⟩ := h
    obtain ⟨k, e, k1, k2, _⟩ := rsg_tl h5
    obtain ⟨g, eg, hg, _⟩ := sgn_tl lay_in
    intro x hx
    simp only [wtx, TL.tl_append, tl_s1, tl_s2, e, eg, List.mem_append, List.mem_singleton] at hx
    rcases hx with ((((z | z) | z) | z) | z) | z
    · exact code h1 x z
    · omega
    · rcases z with z | z
      · omega
      · exact num (by omega) x z
    · omega
    · exact num (by omega) x z
    · omega
theorem len_app (x y : Str) : (x ++ y).length = x.length + y.length := by
  rw [TL.len_tl, TL.tl_append, List.length_append, ← TL.len_tl, ← TL.len_tl]
theorem sgn_len {w : Str} (h : w ∈ layWords) : (sgn w).length = 1 := by
  obtain ⟨c, e, _⟩ := sgn_tl h
  rw [TL.len_tl, e]; rfl
theorem rsg_len {r : Str} (h : r ∈ rules) : (rsg r).length = 1 := by
  obtain ⟨c, e, _⟩ := rsg_tl h
  rw [TL.len_tl, e]; rfl
theorem wtx_len {n i : Int} {x : Actn} (h : ActOk n i x) (hn : n ≤ 1000) : (wtx x).length ≤ 40 := by
  have l1 : ((("/" : String) : Str)).length = 1 := by rw [TL.len_tl, tl_s1]; rfl
  have l2 : (((":" : String) : Str)).length = 1 := by rw [TL.len_tl, tl_s2]; rfl
  cases x with
  | none => decide +kernel
  | thr => decide +kernel
  | code c => have := code_len h; show c.length ≤ 40; omega
  | lay w j =>
    obtain ⟨h1, h2, h3⟩ := h
    have := numS_len (i := j) (by omega) (by omega)
    rw [wtx, len_app, sgn_len h1]; omega
  | dualC c d t r =>
    obtain ⟨h1, h2, ⟨h3, h4⟩, h5⟩ := h
    have a1 := numS_len (i := t) (by omega) (by omega)
    have a2 := code_len h1
    have a3 := code_len h2
    simp only [wtx, len_app, l1, l2, rsg_len h5]; omega
  | dualL c j t r =>
    obtain ⟨h1, ⟨h2, h2'⟩, ⟨h3, h4⟩, h5⟩ := h
    have a1 := numS_len (i := t) (by omega) (by omega)
    have a2 := code_len h1
    have a3 := numS_len (i := j) (by omega) (by omega)
    simp only [wtx, len_app, l1, l2, rsg_len h5, sgn_len lay_in]; omega

/-! ### joined, split -/
theorem joinL_len (S : List Nat) : ∀ ps : List (List Nat), (TL.joinL S ps).length ≤ (ps.map (·.length)).sum + ps.length * S.length
  | [] => Nat.zero_le _
  | [p] => by simp [TL.joinL]
  | p :: q :: r => by
    have ih := joinL_len S (q :: r)
    simp only [TL.joinL, List.length_append, List.map_cons, List.sum_cons, List.length_cons, Nat.add_mul] at ih ⊢
    omega
theorem joinL_mem (S : List Nat) (c : Nat) : ∀ ps : List (List Nat), c ∈ TL.joinL S ps → c ∈ S ∨ ∃ p ∈ ps, c ∈ p
  | [], h => by cases h
  | [p], h => .inr ⟨p, List.mem_singleton.mpr rfl, h⟩
  | p :: q :: r, h => by
    simp only [TL.joinL, List.mem_append] at h
    rcases h with z | z | z
    · exact .inr ⟨p, List.mem_cons_self .., z⟩
    · exact .inl z
    · rcases joinL_mem S c (q :: r) z with y | ⟨p', a, b⟩
      · exact .inl y
      · exact .inr ⟨p', List.mem_cons_of_mem _ a, b⟩
theorem join_tl (y : Str) (ps : List Str) : TL.tl (Txt.join y ps) = TL.joinL (TL.tl y) (ps.map TL.tl) := by rw [TL.join_eq, TL.tl_join]
theorem sum_le {k : Nat} : ∀ {ps : List Str}, (∀ p ∈ ps, p.length ≤ k) → (ps.map (·.length)).sum ≤ ps.length * k
  | [], _ => Nat.zero_le _
  | p :: r, h => by
    have ih := sum_le (fun q hq => h q (List.mem_cons_of_mem _ hq))
    have := h p (List.mem_cons_self ..)
    simp only [List.map_cons, List.sum_cons, List.length_cons, Nat.add_mul]
    omega
theorem join_len {y : Str} {ps : List Str} {k : Nat} (h : ∀ p ∈ ps, p.length ≤ k) (hy : y.length = 1) : (Txt.join y ps).length ≤ ps.length * (k + 1) := by
  rw [TL.len_tl, join_tl]
  have a := joinL_len (TL.tl y) (ps.map TL.tl)
  have b := sum_le h
  rw [List.length_map, ← TL.len_tl, hy, List.map_map] at a
  have e : (ps.map ((fun x : List Nat => x.length) ∘ TL.tl)) = ps.map (·.length) := List.map_congr_left fun p _ => (TL.len_tl p).symm
  rw [e] at a
  rw [Nat.mul_add]
  omega
def rowT (xs : List Actn) : Str := Txt.join ((" " : String) : Str) (xs.map wtx)
def layT (L : List (List Actn)) : Str := Txt.join (("\n" : String) : Str) (L.map rowT)
theorem sp_len : ((" " : String) : Str).length = 1 := by rw [TL.len_tl, tl_s3]; rfl
theorem nl_len : (("\n" : String) : Str).length = 1 := by rw [TL.len_tl, tl_s4]; rfl
def RowsOk (n : Int) (xs : List Actn) : Prop := xs ≠ [] ∧ xs.length ≤ 16 ∧ ∀ x ∈ xs, ∃ i, ActOk n i x
theorem words_len {n : Int} {xs : List Actn} (h : RowsOk n xs) (hn : n ≤ 1000) : ∀ p ∈ xs.map wtx, p.length ≤ 40 := fun p hp => by
  obtain ⟨x, hx, rfl⟩ := List.mem_map.mp hp
  obtain ⟨i, hi⟩ := h.2.2 x hx
  exact wtx_len hi hn
theorem rowT_len {n : Int} {xs : List Actn} (h : RowsOk n xs) (hn : n ≤ 1000) : (rowT xs).length ≤ 700 := by
  have a := join_len (words_len h hn) sp_len
  have := h.2.1
  rw [List.length_map] at a
  unfold rowT
  omega
theorem split_row {n : Int} {xs : List Actn} (h : RowsOk n xs) : Txt.split (rowT xs) ((" " : String) : Str) = xs.map wtx :=
  TL.split_join tl_s3 (by decide +kernel) (fun z => h.1 (List.map_eq_nil_iff.mp z)) fun p hp hm => by
    obtain ⟨x, hx, rfl⟩ := List.mem_map.mp hp
    obtain ⟨i, hi⟩ := h.2.2 x hx
    have := low33 hi 32 hm
    omega
theorem split_lay {n : Int} {L : List (List Actn)} (hL : L ≠ []) (h : ∀ xs ∈ L, RowsOk n xs) : Txt.split (layT L) (("\n" : String) : Str) = L.map rowT :=
  TL.split_join tl_s4 (by decide +kernel) (fun z => hL (List.map_eq_nil_iff.mp z)) fun p hp hm => by
    obtain ⟨xs, hx, rfl⟩ := List.mem_map.mp hp
    unfold rowT at hm
    rw [join_tl, tl_s3] at hm
    rcases joinL_mem _ _ _ hm with z | ⟨q, hq, z⟩
    · exact absurd (List.mem_singleton.mp z) (by decide)
    · rw [List.map_map] at hq
      obtain ⟨x, hx', rfl⟩ := List.mem_map.mp hq
      obtain ⟨i, hi⟩ := (h xs hx).2.2 x hx'
      have := low33 hi 10 z
      omega
theorem layT_len {n : Int} {L : List (List Actn)} (h6 : L.length ≤ 6) (h : ∀ xs ∈ L, RowsOk n xs) (hn : n ≤ 1000) : (layT L).length ≤ 5000 := by
  have a := join_len (y := (("\n" : String) : Str)) (ps := L.map rowT) (k := 700) (fun p hp => by
    obtain ⟨xs, hx, rfl⟩ := List.mem_map.mp hp
    exact rowT_len (h xs hx) hn) nl_len
  rw [List.length_map] at a
  unfold layT
  omega

/-! ### pieces of texts -/
theorem cut_last (a : Str) (c : Nat) : cutS (a ++ ⟨#[c]⟩) none (some (-1)) = a := by
  refine TL.ext_tl ?_
  unfold cutS
  rw [TL.tl_mk]
  have hl : (a ++ (⟨#[c]⟩ : Str)).length = a.length + 1 := by rw [len_app]; rfl
  rw [hl]
  have e1 : HT.sIx (a.length + 1) 0 none = 0 := rfl
  have e2 : HT.sIx (a.length + 1) (a.length + 1) (some (-1)) = a.length := by
    show (if (-1 : Int) < 0 then ((-1 : Int) + ((a.length + 1 : Nat) : Int)).toNat else min ((-1 : Int).toNat) (a.length + 1)) = _
    rw [if_pos (by decide)]
    omega
  rw [e1, e2, List.drop_zero, Nat.sub_zero]
  show ((TL.tl (a ++ (⟨#[c]⟩ : Str))).take a.length) = _
  rw [TL.tl_append, TL.len_tl, List.take_left]
theorem cut_end (a : Str) (c : Nat) : cutS (a ++ ⟨#[c]⟩) (some (-1)) none = ⟨#[c]⟩ := by
  refine TL.ext_tl ?_
  unfold cutS
  rw [TL.tl_mk]
  have hl : (a ++ (⟨#[c]⟩ : Str)).length = a.length + 1 := by rw [len_app]; rfl
  rw [hl]
  have e1 : HT.sIx (a.length + 1) (a.length + 1) none = a.length + 1 := rfl
  have e2 : HT.sIx (a.length + 1) 0 (some (-1)) = a.length := by
    show (if (-1 : Int) < 0 then ((-1 : Int) + ((a.length + 1 : Nat) : Int)).toNat else min ((-1 : Int).toNat) (a.length + 1)) = _
    rw [if_pos (by decide)]
    omega
  rw [e1, e2]
  show (((TL.tl (a ++ (⟨#[c]⟩ : Str))).drop a.length).take _) = _
  rw [TL.tl_append, TL.len_tl, List.drop_left, Nat.add_sub_cancel_left]
  rfl
theorem cut_head (a : Str) (c : Nat) : cutS (⟨#[c]⟩ ++ a) none (some 1) = ⟨#[c]⟩ := by
  refine TL.ext_tl ?_
  unfold cutS
  rw [TL.tl_mk]
  have hl : ((⟨#[c]⟩ : Str) ++ a).length = a.length + 1 := by rw [len_app, Nat.add_comm]; rfl
  rw [hl]
  have e1 : HT.sIx (a.length + 1) 0 none = 0 := rfl
  have e2 : HT.sIx (a.length + 1) (a.length + 1) (some 1) = 1 := by
    show (if (1 : Int) < 0 then ((1 : Int) + ((a.length + 1 : Nat) : Int)).toNat else min ((1 : Int).toNat) (a.length + 1)) = _
    rw [if_neg (by decide)]
    show min 1 (a.length + 1) = 1
    omega
  rw [e1, e2, List.drop_zero]
  show ((TL.tl ((⟨#[c]⟩ : Str) ++ a)).take 1) = _
  rw [TL.tl_append]
  rfl
theorem cut_tail (a : Str) (c : Nat) : cutS (⟨#[c]⟩ ++ a) (some 1) none = a := by
  refine TL.ext_tl ?_
  unfold cutS
  rw [TL.tl_mk]
  have hl : ((⟨#[c]⟩ : Str) ++ a).length = a.length + 1 := by rw [len_app, Nat.add_comm]; rfl
  rw [hl]
  have e1 : HT.sIx (a.length + 1) (a.length + 1) none = a.length + 1 := rfl
  have e2 : HT.sIx (a.length + 1) 0 (some 1) = 1 := by
    show (if (1 : Int) < 0 then ((1 : Int) + ((a.length + 1 : Nat) : Int)).toNat else min ((1 : Int).toNat) (a.length + 1)) = _
    rw [if_neg (by decide)]
    show min 1 (a.length + 1) = 1
    omega
  rw [e1, e2]
  show (((TL.tl ((⟨#[c]⟩ : Str) ++ a)).drop 1).take _) = _
  rw [TL.tl_append]
  show ((TL.tl a).take (a.length + 1 - 1)) = _
  rw [Nat.add_sub_cancel, TL.len_tl, List.take_length]
/-- the text of a hold -/
def HoldT (h : Str) : Prop := 47 ∉ TL.tl h ∧ 58 ∉ TL.tl h ∧ h.length ≤ 20
theorem hold_code {d : Str} (h : CodeOk d) : HoldT d := by
  refine ⟨fun z => ?_, fun z => ?_, by have := code_len h; omega⟩
  · rcases code_low h _ z with q | q <;> omega
  · rcases code_low h _ z with q | q <;> omega
theorem hold_lay {j : Int} (h : 1 ≤ j) (h2 : j ≤ 1000000000) : HoldT (sgn "layer" ++ numS j) := by
  obtain ⟨g, eg, hg, _⟩ := sgn_tl lay_in
  refine ⟨fun z => ?_, fun z => ?_, ?_⟩
  · rw [TL.tl_append, eg] at z
    rcases List.mem_append.mp z with q | q
    · have := List.mem_singleton.mp q; omega
    · rw [numS_tl (by omega)] at q
      have := numL_low q; omega
  · rw [TL.tl_append, eg] at z
    rcases List.mem_append.mp z with q | q
    · have := List.mem_singleton.mp q; omega
    · rw [numS_tl (by omega)] at q
      have := numL_low q; omega
  · have := numS_len (i := j) (by omega) h2
    rw [len_app, sgn_len lay_in]; omega
theorem part1 {c h : Str} {t : Int} {r : Str} (hc : CodeOk c) : Txt.partition (c ++ "/" ++ h ++ ":" ++ numS t ++ rsg r) (("/" : String) : Str) = (c, (("/" : String) : Str), h ++ ":" ++ (numS t ++ rsg r)) := by
  have e : c ++ "/" ++ h ++ ":" ++ numS t ++ rsg r = c ++ (("/" : String) : Str) ++ (h ++ ":" ++ (numS t ++ rsg r)) := TL.ext_tl (by simp only [TL.tl_append, List.append_assoc])
  rw [e]
  exact TL.partition_app tl_s1 (hold_code hc).1
theorem part2 {h : Str} {t : Int} {r : Str} (hh : HoldT h) : Txt.partition (h ++ ":" ++ (numS t ++ rsg r)) ((":" : String) : Str) = (h, ((":" : String) : Str), numS t ++ rsg r) :=
  TL.partition_app tl_s2 hh.2.1
theorem no_slash_code {c : Str} (h : CodeOk c) : 47 ∉ TL.tl c := (hold_code h).1
theorem no_slash_lay {w : Str} {j : Int} (h : w ∈ layWords) (hj : 1 ≤ j) : 47 ∉ TL.tl (sgn w ++ numS j) := fun z => by
  obtain ⟨g, eg, hg, _⟩ := sgn_tl h
  rw [TL.tl_append, eg] at z
  rcases List.mem_append.mp z with q | q
  · have := List.mem_singleton.mp q; omega
  · rw [numS_tl (by omega)] at q
    have := numL_low q; omega
theorem slash_in {c h : Str} {t : Int} {r : Str} : 47 ∈ TL.tl (c ++ "/" ++ h ++ ":" ++ numS t ++ rsg r) := by
  simp only [TL.tl_append, tl_s1, List.mem_append, List.mem_singleton]
  exact .inl (.inl (.inl (.inl (.inr trivial))))

/-! ### rules: index of a sign, of a word -/
section
variable {X : Cx}
def rSIndex : V → List V → Hp → VK → Prop := fun x xs H Q => ∃ (a b : Str) (i : Nat) (rest : List Nat), x = .str a ∧ xs = [.str b] ∧ Builtin.Str.occurrences a b 0 a.length 1 = i :: rest ∧ Q (.int (i : Nat)) H
theorem mt_sindex : MtR X "str.index" rSIndex := by
  intro pins s σ H x xs v us Q I rx rs h
  obtain ⟨a, b, i, rest, rfl, rfl, ho, q⟩ := h
  obtain ⟨t, rfl⟩ := rx
  cases rs with
  | cons r1 rs =>
    cases rs
    obtain ⟨u, rfl⟩ := r1
    exact PySem.SC.index ho ⟨.int (i : Nat), H, I.tok _, ⟨_, rfl⟩, q⟩
def rTIndex (K : PySem.W.Frag) : V → List V → Hp → VK → Prop := fun x xs H Q => ∃ (a : Addr) (ys : List Str) (y : Str), x = .ref a ∧ xs = [.str y] ∧ SqT K H a (ys.map V.str) ∧ y ∈ ys ∧ Q (.int (ys.idxOf y : Nat)) H
theorem mt_tindex : MtR X "tuple.index" (rTIndex X.K) := by
  intro pins s σ H x xs v us Q I rx rs h
  obtain ⟨a, ys, y, rfl, rfl, hs, hy, q⟩ := h
  cases rx
  cases rs with
  | cons r1 rs =>
    cases rs
    obtain ⟨u, rfl⟩ := r1
    obtain ⟨its, r, ht, _⟩ := I.tuple hs
    exact PySem.SeqAt.tuple_index_strs ht (L2.strs_of_vals r) hy ⟨.int _, H, I.tok _, ⟨_, rfl⟩, q⟩
theorem call_strB : CallR X (.type "str") (fun xs H Q => (∃ a, xs = [.str a] ∧ Q (.str a) H) ∨ (∃ i : Int, xs = [.int i] ∧ i.natAbs.log2 < 1920 ∧ Q (.str (numS i)) H)) := by
  intro pins s σ H xs us Q I r h
  rcases h with h | ⟨i, e, a, q⟩
  · exact SkE.call_str_str pins s σ H xs us Q I r h
  · exact call_str_int pins s σ H xs us Q I r ⟨i, e, a, q⟩
end
end Tx
namespace Tx
open PySem PySem.Spec PyProof.Rows L2 Gd Rm La
def rJoin (K : PySem.W.Frag) : V → List V → Hp → VK → Prop := fun x xs H Q => ∃ a p, ∃ ys : List Str, x = .str a ∧ xs = [.ref p] ∧ (SqL K H p (ys.map V.str) ∨ SqT K H p (ys.map V.str)) ∧
    (ys.map (·.length)).sum + ys.length * a.length ≤ 16777216 ∧ Q (.str (Txt.join a ys)) H
end Tx

set_option Elab.async false
set_option linter.all false
set_option maxRecDepth 100000
set_option maxHeartbeats 4000000
namespace K65
open PySem PySem.Spec PyProof.Rows L2 Gd Rm La
def topS (i : Nat) : Stmt := PySem.Challenge.pw_holdtap_k65_layout_texts.main.body.getD i (.Pass ⟨0, 0, 0, 0⟩)
abbrev s_is_an_integer : Stmt := topS 5
abbrev n_is_an_integer : List Str := ["value"]
theorem sc_is_an_integer : FnScope n_is_an_integer ["value"] (defScope s_is_an_integer) := ⟨rfl, rfl, rfl, by decide +kernel, rfl, by decide +kernel, by decide +kernel⟩
-- 0 value
abbrev s_is_between : Stmt := topS 6
abbrev n_is_between : List Str := ["value", "low", "high"]
theorem sc_is_between : FnScope n_is_between ["value", "low", "high"] (defScope s_is_between) := ⟨rfl, rfl, rfl, by decide +kernel, rfl, by decide +kernel, by decide +kernel⟩
-- 0 value, 1 low, 2 high
abbrev s_check_layout : Stmt := topS 15
abbrev n_check_layout : List Str := ["value", "layer", "actions", "key", "action"]
theorem sc_check_layout : FnScope n_check_layout ["value"] (defScope s_check_layout) := ⟨rfl, rfl, rfl, by decide +kernel, rfl, by decide +kernel, by decide +kernel⟩
-- 0 value, 1 layer, 2 actions, 3 key, 4 action
abbrev s_has_layout_form : Stmt := topS 16
abbrev n_has_layout_form : List Str := ["value", "many", "actions"]
theorem sc_has_layout_form : FnScope n_has_layout_form ["value"] (defScope s_has_layout_form) := ⟨rfl, rfl, rfl, by decide +kernel, rfl, by decide +kernel, by decide +kernel⟩
-- 0 value, 1 many*, 2 actions*
abbrev s_can_stand : Stmt := topS 17
abbrev n_can_stand : List Str := ["action", "layer", "layer_count"]
theorem sc_can_stand : FnScope n_can_stand ["action", "layer", "layer_count"] (defScope s_can_stand) := ⟨rfl, rfl, rfl, by decide +kernel, rfl, by decide +kernel, by decide +kernel⟩
-- 0 action, 1 layer, 2 layer_count
abbrev s_is_code_action : Stmt := topS 18
abbrev n_is_code_action : List Str := ["action", "word", "code"]
theorem sc_is_code_action : FnScope n_is_code_action ["action"] (defScope s_is_code_action) := ⟨rfl, rfl, rfl, by decide +kernel, rfl, by decide +kernel, by decide +kernel⟩
-- 0 action, 1 word, 2 code
abbrev s_is_layer_action : Stmt := topS 19
abbrev n_is_layer_action : List Str := ["action", "words", "layer_count", "word", "layer"]
theorem sc_is_layer_action : FnScope n_is_layer_action ["action", "words", "layer_count"] (defScope s_is_layer_action) := ⟨rfl, rfl, rfl, by decide +kernel, rfl, by decide +kernel, by decide +kernel⟩
-- 0 action, 1 words, 2 layer_count, 3 word, 4 layer
abbrev s_is_dual_action : Stmt := topS 20
abbrev n_is_dual_action : List Str := ["action", "layer_count", "word", "tap", "hold", "time", "rule"]
theorem sc_is_dual_action : FnScope n_is_dual_action ["action", "layer_count"] (defScope s_is_dual_action) := ⟨rfl, rfl, rfl, by decide +kernel, rfl, by decide +kernel, by decide +kernel⟩
-- 0 action, 1 layer_count, 2 word, 3 tap, 4 hold, 5 time, 6 rule
abbrev s_is_hold : Stmt := topS 21
abbrev n_is_hold : List Str := ["value", "layer_count"]
theorem sc_is_hold : FnScope n_is_hold ["value", "layer_count"] (defScope s_is_hold) := ⟨rfl, rfl, rfl, by decide +kernel, rfl, by decide +kernel, by decide +kernel⟩
-- 0 value, 1 layer_count
abbrev s_is_code : Stmt := topS 22
abbrev n_is_code : List Str := ["value", "sign"]
theorem sc_is_code : FnScope n_is_code ["value"] (defScope s_is_code) := ⟨rfl, rfl, rfl, by decide +kernel, rfl, by decide +kernel, by decide +kernel⟩
-- 0 value, 1 sign*
abbrev s_is_dual : Stmt := topS 23
abbrev n_is_dual : List Str := ["action"]
theorem sc_is_dual : FnScope n_is_dual ["action"] (defScope s_is_dual) := ⟨rfl, rfl, rfl, by decide +kernel, rfl, by decide +kernel, by decide +kernel⟩
-- 0 action
abbrev s_format_layout : Stmt := topS 29
abbrev n_format_layout : List Str := ["layout", "actions", "action"]
theorem sc_format_layout : FnScope n_format_layout ["layout"] (defScope s_format_layout) := ⟨rfl, rfl, rfl, by decide +kernel, rfl, by decide +kernel, by decide +kernel⟩
-- 0 layout, 1 actions*, 2 action*
abbrev s_parse_layout : Stmt := topS 30
abbrev n_parse_layout : List Str := ["text", "lines", "layout", "line", "row", "words", "most", "at", "word"]
theorem sc_parse_layout : FnScope n_parse_layout ["text"] (defScope s_parse_layout) := ⟨rfl, rfl, rfl, by decide +kernel, rfl, by decide +kernel, by decide +kernel⟩
-- 0 text, 1 lines, 2 layout, 3 line, 4 row, 5 words, 6 most, 7 at, 8 word
abbrev s_action_text : Stmt := topS 31
abbrev n_action_text : List Str := ["action", "_", "tap", "hold", "time", "rule", "word", "about"]
theorem sc_action_text : FnScope n_action_text ["action"] (defScope s_action_text) := ⟨rfl, rfl, rfl, by decide +kernel, rfl, by decide +kernel, by decide +kernel⟩
-- 0 action, 1 _, 2 tap, 3 hold, 4 time, 5 rule, 6 word, 7 about
abbrev s_action_of : Stmt := topS 32
abbrev n_action_of : List Str := ["word"]
theorem sc_action_of : FnScope n_action_of ["word"] (defScope s_action_of) := ⟨rfl, rfl, rfl, by decide +kernel, rfl, by decide +kernel, by decide +kernel⟩
-- 0 word
abbrev s_plain_action_of : Stmt := topS 33
abbrev n_plain_action_of : List Str := ["word", "sign", "number"]
theorem sc_plain_action_of : FnScope n_plain_action_of ["word"] (defScope s_plain_action_of) := ⟨rfl, rfl, rfl, by decide +kernel, rfl, by decide +kernel, by decide +kernel⟩
-- 0 word, 1 sign, 2 number
abbrev s_dual_of : Stmt := topS 34
abbrev n_dual_of : List Str := ["word", "tap", "_", "rest", "hold", "end", "number", "sign"]
theorem sc_dual_of : FnScope n_dual_of ["word"] (defScope s_dual_of) := ⟨rfl, rfl, rfl, by decide +kernel, rfl, by decide +kernel, by decide +kernel⟩
-- 0 word, 1 tap, 2 _, 3 rest, 4 hold, 5 end, 6 number, 7 sign
abbrev s_is_number : Stmt := topS 35
abbrev n_is_number : List Str := ["text", "sign"]
theorem sc_is_number : FnScope n_is_number ["text"] (defScope s_is_number) := ⟨rfl, rfl, rfl, by decide +kernel, rfl, by decide +kernel, by decide +kernel⟩
-- 0 text, 1 sign*
abbrev s__law_reel : Stmt := topS 37
abbrev n__law_reel : List Str := ["_law_script", "_law_index", "_law_mixed", "_law_cell"]
theorem sc__law_reel : FnScope n__law_reel ["_law_script", "_law_index"] (defScope s__law_reel) := ⟨rfl, rfl, rfl, by decide +kernel, rfl, by decide +kernel, by decide +kernel⟩
-- 0 _law_script, 1 _law_index, 2 _law_mixed, 3 _law_cell
abbrev s__law_spin : Stmt := topS 38
abbrev n__law_spin : List Str := ["_law_reel_here", "_law_size", "_law_digit", "_law_wide"]
theorem sc__law_spin : FnScope n__law_spin ["_law_reel_here", "_law_size"] (defScope s__law_spin) := ⟨rfl, rfl, rfl, by decide +kernel, rfl, by decide +kernel, by decide +kernel⟩
-- 0 _law_reel_here, 1 _law_size, 2 _law_digit, 3 _law_wide
abbrev s__law_code : Stmt := topS 39
abbrev n__law_code : List Str := ["_law_reel_here", "_law_some", "_law_way", "_law_many", "_law_letters", "_law_turn"]
theorem sc__law_code : FnScope n__law_code ["_law_reel_here"] (defScope s__law_code) := ⟨rfl, rfl, rfl, by decide +kernel, rfl, by decide +kernel, by decide +kernel⟩
-- 0 _law_reel_here*, 1 _law_some, 2 _law_way, 3 _law_many, 4 _law_letters*, 5 _law_turn*
abbrev s__law_action : Stmt := topS 40
abbrev n__law_action : List Str := ["_law_reel_here", "_law_layer", "_law_layers", "_law_longest", "_law_way", "_law_hold_here", "_law_time_here"]
theorem sc__law_action : FnScope n__law_action ["_law_reel_here", "_law_layer", "_law_layers", "_law_longest"] (defScope s__law_action) := ⟨rfl, rfl, rfl, by decide +kernel, rfl, by decide +kernel, by decide +kernel⟩
-- 0 _law_reel_here, 1 _law_layer, 2 _law_layers, 3 _law_longest, 4 _law_way, 5 _law_hold_here, 6 _law_time_here
abbrev s__law_layout : Stmt := topS 41
abbrev n__law_layout : List Str := ["_law_reel_here", "_law_layers", "_law_keys", "_law_longest", "_law_found", "_law_layer", "_law_key"]
theorem sc__law_layout : FnScope n__law_layout ["_law_reel_here", "_law_layers", "_law_keys", "_law_longest"] (defScope s__law_layout) := ⟨rfl, rfl, rfl, by decide +kernel, rfl, by decide +kernel, by decide +kernel⟩
-- 0 _law_reel_here*, 1 _law_layers*, 2 _law_keys, 3 _law_longest*, 4 _law_found, 5 _law_layer*, 6 _law_key*
abbrev s__law_word : Stmt := topS 42
abbrev n__law_word : List Str := ["_law_action_here", "_law_word_here", "_law_code_here", "_law_hold_here", "_law_time_here", "_law_rule"]
theorem sc__law_word : FnScope n__law_word ["_law_action_here"] (defScope s__law_word) := ⟨rfl, rfl, rfl, by decide +kernel, rfl, by decide +kernel, by decide +kernel⟩
-- 0 _law_action_here, 1 _law_word_here, 2 _law_code_here, 3 _law_hold_here, 4 _law_time_here, 5 _law_rule
abbrev s__law_text : Stmt := topS 43
abbrev n__law_text : List Str := ["_law_layout_here", "_law_row", "_law_action_here"]
theorem sc__law_text : FnScope n__law_text ["_law_layout_here"] (defScope s__law_text) := ⟨rfl, rfl, rfl, by decide +kernel, rfl, by decide +kernel, by decide +kernel⟩
-- 0 _law_layout_here, 1 _law_row*, 2 _law_action_here*
abbrev s__law_right : Stmt := topS 44
abbrev n__law_right : List Str := ["_law_layout_here", "_law_kept", "_law_text_here", "_law_turn", "_law_told", "_law_row"]
theorem sc__law_right : FnScope n__law_right ["_law_layout_here"] (defScope s__law_right) := ⟨rfl, rfl, rfl, by decide +kernel, rfl, by decide +kernel, by decide +kernel⟩
-- 0 _law_layout_here*, 1 _law_kept, 2 _law_text_here, 3 _law_turn, 4 _law_told, 5 _law_row
abbrev s__law_any_code : Stmt := topS 45
abbrev n__law_any_code : List Str := ["_law_reel_here", "_law_some", "_law_turn"]
theorem sc__law_any_code : FnScope n__law_any_code ["_law_reel_here"] (defScope s__law_any_code) := ⟨rfl, rfl, rfl, by decide +kernel, rfl, by decide +kernel, by decide +kernel⟩
-- 0 _law_reel_here*, 1 _law_some*, 2 _law_turn*
abbrev s_law : Stmt := topS 46
abbrev n_law : List Str := ["_law_script", "_law_index", "_law_reel_here", "_law_turn", "_law_layers", "_law_keys", "_law_layout_here", "_law_layer", "_law_key", "_law_row", "_law_first", "_law_second", "_law_rows"]
theorem sc_law : FnScope n_law ["_law_script"] (defScope s_law) := ⟨rfl, rfl, rfl, by decide +kernel, rfl, by decide +kernel, by decide +kernel⟩
-- 0 _law_script, 1 _law_index, 2 _law_reel_here, 3 _law_turn, 4 _law_layers, 5 _law_keys, 6 _law_layout_here, 7 _law_layer, 8 _law_key, 9 _law_row, 10 _law_first, 11 _law_second, 12 _law_rows


theorem small400 {n : Nat} (h : n ≤ 1000) : n ≤ sizeLine := Nat.le_of_lt (small1000 h)
theorem get_map_ref {as : List Addr} {i : Nat} {b : Addr} (h : as[i]? = some b) : (as.map V.ref)[i]? = some (.ref b) := by rw [List.getElem?_map, h]; rfl
theorem get_map_int {ns : List Int} {i : Nat} {b : Int} (h : ns[i]? = some b) : (ns.map V.int)[i]? = some (.int b) := by rw [List.getElem?_map, h]; rfl
theorem atI_end {xs : List V} {v : V} (h : xs[xs.length - 1]? = some v) : atI xs (-1) = some v := by
  have hn : xs ≠ [] := by
    intro e
    subst e
    simp at h
  have e := List.getLast?_eq_getElem? (l := xs)
  rw [h] at e
  have hz : xs.dropLast ++ [v] = xs := by
    have := List.dropLast_concat_getLast hn
    rw [List.getLast?_eq_some_getLast hn] at e
    rw [← Option.some.inj e]
    exact this
  rw [← hz]
  exact atI_last _ _
/-- a new list of new tuples, one more -/
structure Grown {α : Type} (f : α → List V) (H0 : Hp) (L : Addr) (es : List α) (H : Hp) : Prop where
  same : Same H0 H
  ls : Lst f H L es
theorem Grown.start {α : Type} {f : α → List V} {H0 : Hp} {L : Addr} (n : H0 L = none) : Grown f H0 L [] (upd H0 L (.lst [])) := ⟨same_upd n, [], upd_same, Tups.nil⟩
theorem Grown.more {α : Type} {f : α → List V} {H0 H : Hp} {L p : Addr} {es : List α} {e : α} (g : Grown f H0 L es H) (n : H0 L = none) (np : H p = none) :
    ∃ acc : List V, upd H p (.tup (f e)) L = some (.lst acc) ∧ acc.length = es.length ∧ Grown f H0 L (es ++ [e]) (upd (upd H p (.tup (f e))) L (.lst (acc ++ [.ref p]))) := by
  obtain ⟨s, as, h, t⟩ := g
  have pl : L ≠ p := ne_of_none h np
  have h1 : upd H p (.tup (f e)) L = some (.lst (as.map V.ref)) := (same_upd np) _ _ h
  refine ⟨as.map V.ref, h1, by rw [List.length_map]; exact t.1, Same.off (s.trans (same_upd np)) n off_upd, as ++ [p], ?_, ?_⟩
  · rw [upd_same, List.map_append]; rfl
  · refine Tups.snoc ((t.same (same_upd np)).off h1 off_upd) ?_
    rw [upd_ne pl.symm]
    exact upd_same
def rLenB (K : PySem.W.Frag) : List V → Hp → VK → Prop := fun xs H Q => ∃ p ys, xs = [.ref p] ∧ (SqL K H p ys ∨ SqT K H p ys) ∧ Q (.int ys.length) H
def rListOf (K : PySem.W.Frag) : List V → Hp → VK → Prop := fun xs H Q => ∃ p ys, xs = [.ref p] ∧ (SqL K H p ys ∨ SqT K H p ys) ∧ ∀ l, H l = none → Q (.ref l) (upd H l (.lst ys))
theorem allTrue (n : Nat) : (List.replicate n true).all id = true := by simp
/-! ### the reel -/
def Reel (H : Hp) (r : Addr) (n : Nat) : Prop := ∃ x y z : Int, H r = some (.lst [.int x, .int y, .int z]) ∧ 0 ≤ x ∧ 0 ≤ y ∧ y < 10 ^ 42 ∧ 0 ≤ z ∧ z ≤ (n : Int)
theorem Reel.mono {H : Hp} {r : Addr} {n m : Nat} (h : Reel H r n) (l : n ≤ m) : Reel H r m := by
  obtain ⟨x, y, z, a, b, c, d, e, f⟩ := h
  exact ⟨x, y, z, a, b, c, d, e, by omega⟩
theorem Reel.same {H H' : Hp} {r : Addr} {n : Nat} (h : Reel H r n) (l : Same H H') : Reel H' r n := by
  obtain ⟨x, y, z, a, b⟩ := h
  exact ⟨x, y, z, l _ _ a, b⟩
/-- the draws so far are fewer than this -/
abbrev most : Nat := 1000000000
def spSpin : Sp := fun vs H Q _ => ∃ (r : Addr) (m : Int) (n : Nat), vs = [.ref r, .int m] ∧ 0 < m ∧ m < 10 ^ 40 ∧ n < most ∧ Reel H r n ∧
  ∀ d H', 0 ≤ d → d < m → Reel H' r (n + 1) → Off r H H' → Q (.int d) H'
structure Bt (mg : Str → Option Value) : Prop where
  m_len : mg "len" = none
  m_abs : mg "abs" = none
  m_max : mg "max" = none
  m_repr : mg "repr" = none
  m_isinstance : mg "isinstance" = none
  m_all : mg "all" = none
  m_list : mg "list" = none
  m_tuple : mg "tuple" = none
  m_int : mg "int" = none
  m_bool : mg "bool" = none
  m_str : mg "str" = none
  m_range : mg "range" = none
  m_enumerate : mg "enumerate" = none
  m_min : mg "min" = none
section
variable {P : Program} {w : World} {K : PySem.W.Frag} {mg : Str → Option Value} {base : Heap}
theorem p43 : (10 : Int) ^ (43 : Int).toNat + 57 = 10 ^ 43 + 57 := rfl
theorem ok__law_spin (a : At K mg "_law_spin" s__law_spin ["_law_reel_here", "_law_size"]) : Cl P w K mg base 1 "_law_spin" spSpin := by
  refine clG a sc__law_spin (fun vs H Q E h => ?_) (fun f cdv A outer s H vs Q hg hr h => ?_)
  · obtain ⟨r, m, n, rfl, _⟩ := h
    rfl
  · obtain ⟨r, m, n, rfl, hm, hm2, hn0, ⟨x, y, z, hR, hx, hy, hy2, hz, hz2⟩, q⟩ := h
    have hn : n < 1000000000 := hn0
    refine ⟨_, (pss_cons (ps_if (pt_cmpR op_gt (pe_ix ix_list (pv 0) pe_int (fun _ _ => rfl)) pe_int (nomark _)) (pss_cons (ps_set (i := 2) sc__law_spin.nd rfl (Or.inl rfl) (pe_op op_mod (pe_ix ix_list (pv 0) pe_int (fun _ _ => rfl)) (pv 1)))
      (pss_cons (ps_asg (pe_op op_fdivW (pe_ix ix_list (pv 0) pe_int (fun _ _ => rfl)) (pv 1)) (pg_sub (pv 0) pe_int set_list))
      (pss_one (ps_ret (pv 2))))) pss_nil)
      (pss_cons (ps_asg (pe_op op_add (pe_ix ix_list (pv 0) pe_int (fun _ _ => rfl)) pe_int) (pg_sub (pv 0) pe_int set_list))
      (pss_cons (ps_set (i := 3) sc__law_spin.nd rfl (Or.inl rfl) (pe_op op_mod (pe_op op_powW (pe_op op_add (pe_ix ix_list (pv 0) pe_int (fun _ _ => rfl)) (pe_op op_mulW pe_int (pe_ix ix_list (pv 0) pe_int (fun _ _ => rfl)))) pe_int) (pe_op op_add (pe_op op_powW pe_int pe_int) pe_int)))
      (pss_cons (ps_set (i := 3) sc__law_spin.nd rfl (Or.inl rfl) (pe_op op_mod (pe_op op_powW (pe_op op_add (pv 3) (pe_op op_mulW pe_int (pe_ix ix_list (pv 0) pe_int (fun _ _ => rfl)))) pe_int) (pe_op op_add (pe_op op_powW pe_int pe_int) pe_int)))
      (pss_one (ps_ret (pe_op op_mod (pe_op op_fdivW (pv 3) pe_int) (pv 1)))))))), ?_⟩
    refine ⟨_, rfl, r, _, 0, _, rfl, rfl, SqL.of hR, atI_nat (j := 0) rfl, ?_⟩
    refine ⟨_, _, rfl, rfl, _, rfl, ite2 (fun e => ?_) (fun e => ?_)⟩
    · -- a digit of the great number
      have e0 : 0 < x := of_decide_eq_true e
      refine ⟨_, rfl, r, _, 0, _, rfl, rfl, SqL.of hR, atI_nat (j := 0) rfl, _, rfl, _, _, rfl, rfl, hm, ?_⟩
      refine ⟨_, rfl, r, _, 0, _, rfl, rfl, SqL.of hR, atI_nat (j := 0) rfl, _, rfl, _, _, rfl, rfl, wide_div (b := 140) hm (by omega) (by decide) (by decide), ?_⟩
      refine ⟨_, rfl, r, _, 0, 0, rfl, rfl, hR, rfl, ?_⟩
      refine ⟨_, rfl, q _ _ (Int.emod_nonneg _ (by omega)) (Int.emod_lt_of_pos _ hm) ⟨x / m, y, z, upd_same, Int.ediv_nonneg hx (by omega), hy, hy2, hz, by omega⟩ off_upd⟩
    · refine ⟨_, rfl, r, _, 2, _, rfl, rfl, SqL.of hR, atI_nat (j := 2) rfl, _, _, rfl, rfl, ?_⟩
      refine ⟨_, rfl, r, _, 2, 2, rfl, rfl, hR, rfl, ?_⟩
      have hR1 : upd H r (.lst [.int x, .int y, .int (z + 1)]) r = some (.lst [.int x, .int y, .int (z + 1)]) := upd_same
      refine ⟨_, rfl, r, _, 1, _, rfl, rfl, SqL.of hR1, atI_nat (j := 1) rfl, ?_⟩
      refine ⟨_, rfl, r, _, 2, _, rfl, rfl, SqL.of hR1, atI_nat (j := 2) rfl, ?_⟩
      have b1 : (z + 1).natAbs < 2 ^ 40 := by omega
      have b2 : (49979687 * (z + 1)).natAbs < 2 ^ 80 := by omega
      refine ⟨_, _, rfl, rfl, wide_mul (a := 40) (b := 40) (by decide) b1 (by decide) (by decide) (by decide), ?_⟩
      refine ⟨_, _, rfl, rfl, ?_⟩
      have b3 : (y + 49979687 * (z + 1)).natAbs < 2 ^ 150 := by omega
      refine ⟨_, _, rfl, rfl, powW (n := 150) (k := 3) b3 (by decide), ?_⟩
      refine ⟨_, _, rfl, rfl, powW (n := 40) (k := 43) (by decide) (by decide), ?_⟩
      refine ⟨_, _, rfl, rfl, _, _, rfl, rfl, (show (0 : Int) < 10 ^ 43 + 57 by decide), ?_⟩
      have c1 : 0 ≤ (y + 49979687 * (z + 1)) ^ 3 % (10 ^ 43 + 57) := Int.emod_nonneg _ (by decide)
      have c2 : (y + 49979687 * (z + 1)) ^ 3 % (10 ^ 43 + 57) < 10 ^ 43 + 57 := Int.emod_lt_of_pos _ (by decide)
      generalize hu : (y + 49979687 * (z + 1)) ^ 3 % (10 ^ 43 + 57) = u at c1 c2
      refine ⟨.int u, congrArg (fun v => some (some (V.int v))) hu, ?_⟩
      refine ⟨_, rfl, r, _, 2, _, rfl, rfl, SqL.of hR1, atI_nat (j := 2) rfl, ?_⟩
      have b4 : (22801763 * (z + 1)).natAbs < 2 ^ 80 := by omega
      refine ⟨_, _, rfl, rfl, wide_mul (a := 40) (b := 40) (by decide) b1 (by decide) (by decide) (by decide), ?_⟩
      have b5 : (u + 22801763 * (z + 1)).natAbs < 2 ^ 150 := by omega
      refine ⟨_, _, rfl, rfl, _, _, rfl, rfl, powW (n := 150) (k := 5) b5 (by decide), ?_⟩
      refine ⟨_, _, rfl, rfl, powW (n := 40) (k := 40) (by decide) (by decide), ?_⟩
      refine ⟨_, _, rfl, rfl, _, _, rfl, rfl, (show (0 : Int) < 10 ^ 40 + 121 by decide), ?_⟩
      refine ⟨_, rfl, _, _, rfl, rfl, wide_div (b := 40) (by decide) (by decide) (by decide) (by decide), ?_⟩
      refine ⟨_, rfl, _, _, rfl, rfl, hm, ?_⟩
      exact q _ _ (Int.emod_nonneg _ (by omega)) (Int.emod_lt_of_pos _ hm) ⟨x, y, z + 1, upd_same, hx, hy, hy2, by omega, by omega⟩ off_upd
def spReel (K : PySem.W.Frag) : Sp := fun vs H Q _ => ∃ (s : Addr) (ns : List Int) (i : Nat), vs = [.ref s, .int (i : Int)] ∧ SqL K H s (ns.map V.int) ∧ ns.length ≤ 63 ∧ i < 100 ∧
  ∀ r H', Same H H' → H r = none → Reel H' r 0 → Q (.ref r) H'
theorem ok__law_reel (bt : Bt mg) (a : At K mg "_law_reel" s__law_reel ["_law_script", "_law_index"]) : Cl P w K mg base 1 "_law_reel" (spReel K) := by
  refine clG a sc__law_reel (fun vs H Q E h => ?_) (fun f cdv A outer s H vs Q hg hr h => ?_)
  · obtain ⟨r, m, n, rfl, _⟩ := h
    rfl
  · obtain ⟨sc, ns, i, rfl, hS, hl, hi, q⟩ := h
    refine ⟨_, (pss_cons (ps_set (i := 2) sc__law_reel.nd rfl (Or.inl rfl) (pe_op op_add pe_int (pe_op op_mulW pe_int (pv 1))))
      (pss_cons (ps_for PassesOwn.never rfl (pi_list (pv 0)) (pg_name (i := 3) sc__law_reel.nd rfl (Or.inl rfl)) (pss_one (ps_set (i := 2) sc__law_reel.nd rfl (Or.inl rfl) (pe_op op_mod (pe_op op_add (pe_op op_mulW (pv 2) pe_int) (pe_op op_mod (pv 3) (pe_op op_add (pe_op op_powW pe_int pe_int) pe_int))) (pe_op op_add (pe_op op_powW pe_int pe_int) pe_int)))))
      (pss_cons (ps_set (i := 3) sc__law_reel.nd rfl (Or.inl rfl) (pe_ifExp (pt_cmpR op_lt (pv 1) (pe_callB call_len_seq (by rfl) bt.m_len (by decide +kernel) (pa_cons (pv 0) pa_nil)) (nomark _)) (pe_callB call_abs (by rfl) bt.m_abs (by decide +kernel) (pa_cons (pe_ix ix_list (pv 0) (pv 1) (fun _ _ => rfl)) pa_nil)) pe_int))
      (pss_one (ps_ret (pe_lst (pa_cons (pe_callB (call_max2 rfl) (by rfl) bt.m_max (by decide +kernel) (pa_cons pe_int (pa_cons (pe_op op_sub (pv 3) (pe_op op_powW pe_int pe_int)) pa_nil))) (pa_cons (pv 2) (pa_cons pe_int pa_nil))))))))), ?_⟩
    -- mixed = 60013 + 53 * index
    refine ⟨_, rfl, _, _, rfl, rfl, wide_mul (a := 40) (b := 40) (by decide) (by omega) (by decide) (by decide) (by decide), _, _, rfl, rfl, ?_⟩
    refine ⟨_, rfl, sc, rfl, ⟨_, hS⟩, for_it (walk_list (xs := ns.map V.int)) (fun _ σ H' => H' = H ∧ ∃ m y3, σ = [some (.ref sc), some (.int (i : Int)), some (.int m), y3] ∧ 0 ≤ m ∧ m < 10 ^ 42)
      ⟨rfl, _, _, rfl, by omega, by omega⟩ (fun _ _ H' _ p => by obtain ⟨rfl, _⟩ := p; exact hS) (fun j x σ H1 H2 hj p y => ?_) (fun σ H1 p => ?_)⟩
    · obtain ⟨rfl, m, y3, rfl, m0, m1⟩ := p
      obtain ⟨rfl, hx⟩ := y
      obtain ⟨c, hc, rfl⟩ : ∃ c, ns[j]? = some c ∧ V.int c = x := by
        rw [List.getElem?_map] at hx
        cases e : ns[j]? with
        | none => rw [e] at hx; cases hx
        | some c => rw [e] at hx; exact ⟨c, rfl, Option.some.inj hx⟩
      have b1 : m.natAbs < 2 ^ 140 := by omega
      refine ⟨_, rfl, _, _, rfl, rfl, wide_mul (a := 140) (b := 40) b1 (by decide) (by decide) (by decide) (by decide), ?_⟩
      refine ⟨_, rfl, _, _, rfl, rfl, powW (n := 40) (k := 43) (by decide) (by decide), _, _, rfl, rfl, ?_⟩
      refine ⟨_, _, rfl, rfl, (show (0 : Int) < 10 ^ 43 + 57 by decide), _, _, rfl, rfl, _, _, rfl, rfl, powW (n := 40) (k := 41) (by decide) (by decide), ?_⟩
      refine ⟨_, _, rfl, rfl, _, _, rfl, rfl, (show (0 : Int) < 10 ^ 41 + 37 by decide), ?_⟩
      have c1 := Int.emod_nonneg (m * 8675311 + c % (10 ^ 43 + 57)) (b := 10 ^ 41 + 37) (by decide)
      have c2 := Int.emod_lt_of_pos (m * 8675311 + c % (10 ^ 43 + 57)) (b := 10 ^ 41 + 37) (by decide)
      refine ⟨rfl, _, _, rfl, c1, ?_⟩
      exact Int.lt_trans c2 (by decide)
    · obtain ⟨rfl, m, y3, rfl, m0, m1⟩ := p
      refine ⟨_, rfl, .ref sc, rfl, sc, _, rfl, .inl hS, _, _, rfl, rfl, _, rfl, ite2 (fun e => ?_) (fun e => ?_)⟩
      · have e0 : (i : Int) < ((ns.map V.int).length : Nat) := of_decide_eq_true e
        rw [List.length_map] at e0
        have hlt : i < ns.length := by omega
        have g : (ns.map V.int)[i]? = some (.int ns[i]) := by
          rw [List.getElem?_map, List.getElem?_eq_getElem hlt]; rfl
        refine ⟨_, rfl, _, rfl, sc, _, (i : Int), _, rfl, rfl, hS, atI_nat g, _, rfl, ?_⟩
        refine ⟨_, rfl, _, _, rfl, rfl, powW (n := 40) (k := 18) (by decide) (by decide), _, _, rfl, rfl, _, _, rfl, .int m, rfl, (by show 3 ≤ sizeLine; decide), fun p np => ?_⟩
        exact q p _ (same_upd np) np ⟨_, m, 0, upd_same, by split <;> omega, m0, m1, by decide, by decide⟩
      · refine ⟨_, rfl, _, _, rfl, rfl, powW (n := 40) (k := 18) (by decide) (by decide), _, _, rfl, rfl, _, _, rfl, .int m, rfl, (by show 3 ≤ sizeLine; decide), fun p np => ?_⟩
        exact q p _ (same_upd np) np ⟨_, m, 0, upd_same, by split <;> omega, m0, m1, by decide, by decide⟩
end
end K65

set_option Elab.async false
set_option linter.all false
set_option maxRecDepth 100000
set_option maxHeartbeats 4000000
namespace K65
open PySem PySem.Spec PyProof.Rows L2 Gd Rm La
section
variable {P : Program} {w : World} {K : PySem.W.Frag} {mg : Str → Option Value} {base : Heap}
def spInt : Sp := fun vs H Q _ => ∃ i : Int, vs = [.int i] ∧ Q (.bl true) H
theorem ok_is_an_integer (bt : Bt mg) (a : At K mg "is_an_integer" s_is_an_integer ["value"]) : Cl P w K mg base 1 "is_an_integer" spInt := by
  refine clG a sc_is_an_integer (fun vs H Q E h => ?_) (fun f cdv A outer s H vs Q hg hr h => ?_)
  · obtain ⟨i, rfl, _⟩ := h
    rfl
  · obtain ⟨i, rfl, q⟩ := h
    refine ⟨_, (pss_one (ps_ret (pe_and (pe_callB call_isi (by rfl) bt.m_isinstance (by decide +kernel) (pa_cons (pv 0) (pa_cons (pe_bltn (v := .ty "int") (by rfl) bt.m_int (by decide +kernel) rfl) pa_nil))) (pe_one (pe_not (pe_callB call_isi (by rfl) bt.m_isinstance (by decide +kernel) (pa_cons (pv 0) (pa_cons (pe_bltn (v := .ty "bool") (by rfl) bt.m_bool (by decide +kernel) rfl) pa_nil)))))))), ?_⟩
    refine ⟨_, rfl, _, _, _, _, true, rfl, .ty "int", .base (.int i), kit_ty (by decide +kernel), _, rfl, iteT ?_⟩
    exact ⟨_, rfl, _, _, _, _, false, rfl, .ty "bool", .base (.int i), kit_ty (by decide +kernel), _, rfl, q⟩
def spBet : Sp := fun vs H Q _ => ∃ i l u : Int, vs = [.int i, .int l, .int u] ∧ l ≤ i ∧ i ≤ u ∧ Q (.bl true) H
theorem ok_is_between (bt : Bt mg) (a : At K mg "is_between" s_is_between ["value", "low", "high"]) (c_is_an_integer : Cl P w K mg base 1 "is_an_integer" spInt) : Cl P w K mg base 2 "is_between" spBet := by
  refine clG a sc_is_between (fun vs H Q E h => ?_) (fun f cdv A outer s H vs Q hg hr h => ?_)
  · obtain ⟨i, l, u, rfl, _⟩ := h
    rfl
  · obtain ⟨i, l, u, rfl, h1, h2, q⟩ := h
    refine ⟨_, (pss_one (ps_ret (pe_and (pe_cl c_is_an_integer hg hr (by decide) (by rfl) (pa_cons (pv 0) pa_nil)) (pe_one (pe_chain op_le op_le (pv 1) (pv 0) (pv 2)))))), ?_⟩
    refine ⟨_, rfl, _, rfl, _, rfl, iteT ?_⟩
    refine ⟨_, rfl, _, rfl, _, _, rfl, rfl, true, congrArg V.bl (decide_eq_true h1), iteT ⟨_, rfl, _, _, rfl, rfl, ?_⟩⟩
    show Q (.bl (decide (i ≤ u))) H
    rw [decide_eq_true h2]
    exact q
def BadC (c : Str) : Prop := 1 ≤ c.cps.size ∧ c.cps.size ≤ 8 ∧ ∃ x ∈ c.cps.toList, x ∉ signs.cps.toList
def spCode : Sp := fun vs H Q _ => ∃ c : Str, vs = [.str c] ∧ CodeOk c ∧ ∀ H', Same H H' → Q (.bl true) H'
def spCode2 : Sp := fun vs H Q _ => ∃ (c : Str) (b : Bool), vs = [.str c] ∧ (b = true ∧ CodeOk c ∨ b = false ∧ BadC c) ∧ ∀ H', Same H H' → Q (.bl b) H'
theorem all_code {c : Str} {b : Bool} (h : b = true ∧ CodeOk c ∨ b = false ∧ BadC c) : (c.cps.toList.map fun x => decide (x ∈ signs.cps.toList)).all id = b := by
  rcases h with ⟨rfl, h⟩ | ⟨rfl, _, _, x, hx, hn⟩
  · rw [List.all_eq_true]
    intro y hy
    obtain ⟨x, hx, rfl⟩ := List.mem_map.mp hy
    exact decide_eq_true (h.2.2 x hx)
  · rw [List.all_eq_false]
    exact ⟨_, List.mem_map.mpr ⟨x, hx, rfl⟩, by rw [decide_eq_false hn]; decide⟩
theorem ok_is_code2 (bt : Bt mg) {tk1 tk2 : Tok} (m_MOST_SIGNS : mg "MOST_SIGNS" = some (.int 8 tk1)) (m_CODE_SIGNS : mg "CODE_SIGNS" = some (.str "abcdefghijklmnopqrstuvwxyz0123456789" tk2)) (a : At K mg "is_code" s_is_code ["value"]) : Cl P w K mg base 1 "is_code" spCode2 := by
  refine clG a sc_is_code (fun vs H Q E h => ?_) (fun f cdv A outer s H vs Q hg hr h => ?_)
  · obtain ⟨c, b, rfl, _⟩ := h
    rfl
  · obtain ⟨c, b, rfl, hc, q⟩ := h
    refine ⟨_, (pss_cons (ps_if (PW.pt (pw_or (pt_not (pt_val (pe_callB call_isi (by rfl) bt.m_isinstance (by decide +kernel) (pa_cons (pv 0) (pa_cons (pe_bltn (v := .ty "str") (by rfl) bt.m_str (by decide +kernel) rfl) pa_nil))))) (pw_or1 (pt_not (pt_chain op_le op_le pe_int (pe_callB call_len_str (by rfl) bt.m_len (by decide +kernel) (pa_cons (pv 0) pa_nil)) (pe_glob (v := .int 8) (by rfl) m_MOST_SIGNS ⟨_, rfl⟩)))))) (pss_one (ps_ret pe_bl)) pss_nil)
      (pss_one (ps_ret (pe_callB (cr_all rfl) (by rfl) bt.m_all (by decide +kernel) (pa_cons (pe_lc (own := [("sign", 1)]) (g := (gName 1)) (by rfl) sc_is_code.nd (pi_str (pv 0)) (blkOk_by (N := n_is_code) (sc := defScope s_is_code) (by decide +kernel)) (fun _ _ _ _ _ => (pg_name (i := 1) sc_is_code.nd rfl (Or.inl rfl))) (fun _ _ _ _ _ => pts_nil) (fun _ _ _ _ _ => (pe_cmpR op_in_sign (pv 1) (pe_glob (v := .str "abcdefghijklmnopqrstuvwxyz0123456789") (by rfl) m_CODE_SIGNS ⟨_, rfl⟩) rfl))) pa_nil))))), ?_⟩
    have e1 : (c.length : Int) = (c.cps.size : Int) := rfl
    have h18 : 1 ≤ c.cps.size ∧ c.cps.size ≤ 8 := by rcases hc with ⟨_, h⟩ | ⟨_, h⟩ <;> exact ⟨h.1, h.2.1⟩
    obtain ⟨h1, h8⟩ := h18
    have hcl : c.cps.toList.length = c.cps.size := Array.length_toList
    refine ⟨_, rfl, _, _, _, _, true, rfl, .ty "str", .base (.str _), kit_ty (by decide +kernel), _, rfl, iteF ?_⟩
    refine ⟨_, rfl, c, rfl, (by rw [sizeLine_eq]; have : c.length = c.cps.size := rfl; omega), _, _, rfl, rfl, true, congrArg V.bl (decide_eq_true (by omega)), iteT ⟨_, _, rfl, rfl, true, congrArg V.bl (decide_eq_true (by omega)), ?_⟩⟩
    refine iteF ⟨_, rfl, c, rfl, fun L nL => lc_it (walk_str (z := c)) (fun i H' => H' = upd H L (.lst (((c.cps.toList.take i).map fun x => decide (x ∈ signs.cps.toList)).map V.bl))) rfl (fun _ _ _ _ => True.intro) (fun i x H2 H3 hi p y => ?_) (fun H2 p => ?_)⟩
    · obtain ⟨rfl, d, hd, rfl⟩ := y
      subst p
      have hd' : c.cps.toList[i]? = some d := by rw [Array.getElem?_toList]; exact hd
      refine ⟨rfl, ⟨_, rfl, d, signs, rfl, rfl, _, upd_same, ?_, ?_⟩⟩
      · rw [List.length_map, List.length_map, List.length_take]; exact small1000 (by omega)
      · rw [upd_upd, List.take_add_one, hd', List.map_append, List.map_append]; rfl
    · subst p
      refine ⟨L, _, rfl, SqL.of upd_same, ?_⟩
      rw [List.take_of_length_le (by show c.cps.toList.length ≤ c.cps.size; omega), all_code hc]
      exact q _ (same_upd nL)
theorem ok_is_code {P : Program} {w : World} {K : PySem.W.Frag} {mg : Str → Option Value} {base : Heap} (c : Cl P w K mg base 1 "is_code" spCode2) : Cl P w K mg base 1 "is_code" spCode :=
  c.imp fun vs H Q E h => by
    obtain ⟨c, rfl, hc, q⟩ := h
    exact ⟨c, true, rfl, .inl ⟨rfl, hc⟩, q⟩
def spCA : Sp := fun vs H Q _ => ∃ (a : Addr) (w : Str) (y : V), vs = [.ref a] ∧ H a = some (.tup [.str w, y]) ∧ ((w = ("code" : String) ∧ ∃ c, y = .str c ∧ CodeOk c ∧ ∀ H', Same H H' → Q (.bl true) H') ∨ (w ≠ (("code" : String) : Str) ∧ Q (.bl false) H))
theorem ok_is_code_action (bt : Bt mg) (a : At K mg "is_code_action" s_is_code_action ["action"]) (c_is_code : Cl P w K mg base 1 "is_code" spCode) : Cl P w K mg base 2 "is_code_action" spCA := by
  refine clG a sc_is_code_action (fun vs H Q E h => ?_) (fun f cdv A outer s H vs Q hg hr h => ?_)
  · obtain ⟨a, w, y, rfl, _⟩ := h
    rfl
  · obtain ⟨a, w, y, rfl, ha, h⟩ := h
    refine ⟨_, (pss_cons (ps_asg (pv 0) (pg_tup rfl (pgs_cons (pg_name (i := 1) sc_is_code_action.nd rfl (Or.inl rfl)) (pgs_cons (pg_name (i := 2) sc_is_code_action.nd rfl (Or.inl rfl)) pgs_nil))))
      (pss_one (ps_ret (pe_and (pe_callB call_isi (by rfl) bt.m_isinstance (by decide +kernel) (pa_cons (pv 1) (pa_cons (pe_bltn (v := .ty "str") (by rfl) bt.m_str (by decide +kernel) rfl) pa_nil))) (pe_and (pe_cmpR op_eq (pv 1) pe_str (nomark _)) (pe_one (pe_cl c_is_code hg hr (by decide) (by rfl) (pa_cons (pv 2) pa_nil)))))))), ?_⟩
    refine ⟨_, rfl, a, _, rfl, SqT.of ha, rfl, _, _, rfl, _, _, rfl, rfl, ?_⟩
    refine ⟨_, rfl, _, _, _, _, true, rfl, .ty "str", .base (.str _), kit_ty (by decide +kernel), _, rfl, iteT ?_⟩
    rcases h with ⟨rfl, c, rfl, hc, q⟩ | ⟨hn, q⟩
    · exact ⟨_, rfl, rfl, true, rfl, iteT ⟨_, rfl, c, rfl, hc, q⟩⟩
    · refine ⟨_, rfl, rfl, false, ?_, iteF q⟩
      exact congrArg V.bl (decide_eq_false fun z => hn (V.str.inj z))
def spLA (K : PySem.W.Frag) : Sp := fun vs H Q _ => ∃ (a g : Addr) (w : Str) (ws : List Str) (j n : Int), vs = [.ref a, .ref g, .int n] ∧ H a = some (.tup [.str w, .int j]) ∧ SqT K H g (ws.map V.str) ∧ w ∈ ws ∧ 1 ≤ j ∧ j ≤ n - 1 ∧ Q (.bl true) H
theorem flat_strs : ∀ ns : List Str, (ns.map V.str).all flatV = true
  | [] => rfl
  | n :: ns => by
    show (flatV (.str n) && (ns.map V.str).all flatV) = true
    rw [flat_strs ns]
    rfl
theorem ok_is_layer_action (bt : Bt mg) (a : At K mg "is_layer_action" s_is_layer_action ["action", "words", "layer_count"]) (c_is_between : Cl P w K mg base 2 "is_between" spBet) : Cl P w K mg base 3 "is_layer_action" (spLA K) := by
  refine clG a sc_is_layer_action (fun vs H Q E h => ?_) (fun f cdv A outer s H vs Q hg hr h => ?_)
  · obtain ⟨a, g, w, ws, j, n, rfl, _⟩ := h
    rfl
  · obtain ⟨a, g, w, ws, j, n, rfl, ha, hw, hm, h1, h2, q⟩ := h
    refine ⟨_, (pss_cons (ps_asg (pv 0) (pg_tup rfl (pgs_cons (pg_name (i := 3) sc_is_layer_action.nd rfl (Or.inl rfl)) (pgs_cons (pg_name (i := 4) sc_is_layer_action.nd rfl (Or.inl rfl)) pgs_nil))))
      (pss_one (ps_ret (pe_and (pe_callB call_isi (by rfl) bt.m_isinstance (by decide +kernel) (pa_cons (pv 3) (pa_cons (pe_bltn (v := .ty "str") (by rfl) bt.m_str (by decide +kernel) rfl) pa_nil))) (pe_and (pe_cmpR op_in_seq (pv 3) (pv 1) (by rfl)) (pe_one (pe_cl c_is_between hg hr (by decide) (by rfl) (pa_cons (pv 4) (pa_cons pe_int (pa_cons (pe_op op_sub (pv 2) pe_int) pa_nil)))))))))), ?_⟩
    refine ⟨_, rfl, a, _, rfl, SqT.of ha, rfl, _, _, rfl, _, _, rfl, rfl, ?_⟩
    refine ⟨_, rfl, _, _, _, _, true, rfl, .ty "str", .base (.str _), kit_ty (by decide +kernel), _, rfl, iteT ?_⟩
    refine ⟨_, rfl, _, rfl, g, _, rfl, .inr hw, rfl, flat_strs ws, true, ?_, iteT ?_⟩
    · show V.bl (inV (.str w) (ws.map V.str)) = _
      rw [inv_str, decide_eq_true hm]
    · exact ⟨_, rfl, _, rfl, _, _, rfl, rfl, j, 1, n - 1, rfl, h1, h2, q⟩
def spHold : Sp := fun vs H Q _ => ∃ (a : Addr) (n : Int), vs = [.ref a, .int n] ∧ ((∃ c, H a = some (.tup [.str "code", .str c]) ∧ CodeOk c) ∨ (∃ j, H a = some (.tup [.str "layer", .int j]) ∧ 1 ≤ j ∧ j ≤ n - 1)) ∧ ∀ H', Same H H' → Q (.bl true) H'
theorem ok_is_hold (bt : Bt mg) (a : At K mg "is_hold" s_is_hold ["value", "layer_count"]) (c_is_code_action : Cl P w K mg base 2 "is_code_action" spCA) (c_is_layer_action : Cl P w K mg base 3 "is_layer_action" (spLA K)) : Cl P w K mg base 4 "is_hold" spHold := by
  refine clG a sc_is_hold (fun vs H Q E h => ?_) (fun f cdv A outer s H vs Q hg hr h => ?_)
  · obtain ⟨a, n, rfl, _⟩ := h
    rfl
  · obtain ⟨a, n, rfl, h, q⟩ := h
    refine ⟨_, (pss_cons (ps_if (PW.pt (pw_or (pt_not (pt_val (pe_callB call_isi (by rfl) bt.m_isinstance (by decide +kernel) (pa_cons (pv 0) (pa_cons (pe_bltn (v := .ty "tuple") (by rfl) bt.m_tuple (by decide +kernel) rfl) pa_nil))))) (pw_or1 (pt_cmpR op_ne (pe_callB call_len_seq (by rfl) bt.m_len (by decide +kernel) (pa_cons (pv 0) pa_nil)) pe_int (nomark _))))) (pss_one (ps_ret pe_bl)) pss_nil)
      (pss_one (ps_ret (pe_or (pe_cl c_is_code_action hg hr (by decide) (by rfl) (pa_cons (pv 0) pa_nil)) (pe_one (pe_cl c_is_layer_action hg hr (by decide) (by rfl) (pa_cons (pv 0) (pa_cons (pe_tup (pa_cons pe_str pa_nil)) (pa_cons (pv 1) pa_nil))))))))), ?_⟩
    rcases h with ⟨c, ha, hc⟩ | ⟨j, ha, h1, h2⟩
    · refine ⟨_, rfl, _, _, _, _, true, rfl, .ty "tuple", .base (.tup ha), kit_ty (by decide +kernel), _, rfl, iteF ?_⟩
      refine ⟨_, rfl, a, _, rfl, .inr (SqT.of ha), rfl, _, rfl, iteF ?_⟩
      exact ⟨_, rfl, a, _, _, rfl, ha, .inl ⟨rfl, c, rfl, hc, fun H' s' => ⟨true, rfl, iteT (q H' s')⟩⟩⟩
    · refine ⟨_, rfl, _, _, _, _, true, rfl, .ty "tuple", .base (.tup ha), kit_ty (by decide +kernel), _, rfl, iteF ?_⟩
      refine ⟨_, rfl, a, _, rfl, .inr (SqT.of ha), rfl, _, rfl, iteF ?_⟩
      refine ⟨_, rfl, a, _, _, rfl, ha, .inr ⟨by decide +kernel, false, rfl, iteF ?_⟩⟩
      refine ⟨_, rfl, (by show 1 ≤ sizeLine; decide), fun p np => ?_⟩
      exact ⟨_, rfl, a, p, _, ["layer"], j, n, rfl, (same_upd np) _ _ ha, SqT.of upd_same, List.mem_singleton.mpr rfl, h1, h2, q _ (same_upd np)⟩
end
end K65

set_option Elab.async false
set_option linter.all false
set_option maxRecDepth 100000
set_option maxHeartbeats 4000000
namespace K65
open PySem PySem.Spec PyProof.Rows L2 Gd Rm La
section
variable {P : Program} {w : World} {K : PySem.W.Frag} {mg : Str → Option Value} {base : Heap}
def spDA : Sp := fun vs H Q _ => ∃ (a b : Addr) (c r : Str) (t n : Int), vs = [.ref a, .int n] ∧ H a = some (.tup [.str "dual", .str c, .ref b, .int t, .str r]) ∧ CodeOk c ∧ ((∃ d, H b = some (.tup [.str "code", .str d]) ∧ CodeOk d) ∨ (∃ j, H b = some (.tup [.str "layer", .int j]) ∧ 1 ≤ j ∧ j ≤ n - 1)) ∧
  1 ≤ t ∧ t ≤ 1000000000 ∧ r ∈ rules ∧ ∀ H', Same H H' → Q (.bl true) H'
theorem ok_is_dual_action (bt : Bt mg) {tk : Tok} {g_RULES : Addr} (m_GREATEST_TIME : mg "GREATEST_TIME" = some (.int 1000000000 tk)) (m_RULES : mg "RULES" = some (.ref g_RULES)) (t_RULES : ∀ H, SqT K H g_RULES (rules.map V.str)) (a : At K mg "is_dual_action" s_is_dual_action ["action", "layer_count"])
    (c_is_code : Cl P w K mg base 1 "is_code" spCode) (c_is_hold : Cl P w K mg base 4 "is_hold" spHold) (c_is_between : Cl P w K mg base 2 "is_between" spBet) : Cl P w K mg base 5 "is_dual_action" spDA := by
  refine clG a sc_is_dual_action (fun vs H Q E h => ?_) (fun f cdv A outer s H vs Q hg hr h => ?_)
  · obtain ⟨a, b, c, r, t, n, rfl, _⟩ := h
    rfl
  · obtain ⟨a, b, c, r, t, n, rfl, ha, hc, hb, h1, h2, hr', q⟩ := h
    refine ⟨_, (pss_cons (ps_asg (pv 0) (pg_tup rfl (pgs_cons (pg_name (i := 2) sc_is_dual_action.nd rfl (Or.inl rfl)) (pgs_cons (pg_name (i := 3) sc_is_dual_action.nd rfl (Or.inl rfl)) (pgs_cons (pg_name (i := 4) sc_is_dual_action.nd rfl (Or.inl rfl)) (pgs_cons (pg_name (i := 5) sc_is_dual_action.nd rfl (Or.inl rfl)) (pgs_cons (pg_name (i := 6) sc_is_dual_action.nd rfl (Or.inl rfl)) pgs_nil)))))))
      (pss_cons (ps_if (PW.pt (pw_or (pt_not (pt_val (pe_callB call_isi (by rfl) bt.m_isinstance (by decide +kernel) (pa_cons (pv 2) (pa_cons (pe_bltn (v := .ty "str") (by rfl) bt.m_str (by decide +kernel) rfl) pa_nil))))) (pw_or1 (pt_cmpR op_ne (pv 2) pe_str (nomark _))))) (pss_one (ps_ret pe_bl)) pss_nil)
      (pss_cons (ps_if (PW.pt (pw_or (pt_not (pt_val (pe_cl c_is_code hg hr (by decide) (by rfl) (pa_cons (pv 3) pa_nil)))) (pw_or1 (pt_not (pt_val (pe_cl c_is_hold hg hr (by decide) (by rfl) (pa_cons (pv 4) (pa_cons (pv 1) pa_nil)))))))) (pss_one (ps_ret pe_bl)) pss_nil)
      (pss_one (ps_ret (pe_and (pe_cl c_is_between hg hr (by decide) (by rfl) (pa_cons (pv 5) (pa_cons pe_int (pa_cons (pe_glob (v := .int 1000000000) (by rfl) m_GREATEST_TIME ⟨_, rfl⟩) pa_nil)))) (pe_and (pe_callB call_isi (by rfl) bt.m_isinstance (by decide +kernel) (pa_cons (pv 6) (pa_cons (pe_bltn (v := .ty "str") (by rfl) bt.m_str (by decide +kernel) rfl) pa_nil))) (pe_one (pe_cmpR op_in_seq (pv 6) (pe_glob (v := .ref g_RULES) (by rfl) m_RULES rfl) (by rfl)))))))))), ?_⟩
    refine ⟨_, rfl, a, _, rfl, SqT.of ha, rfl, _, _, rfl, _, _, rfl, _, _, rfl, _, _, rfl, _, _, rfl, rfl, ?_⟩
    refine ⟨_, rfl, _, _, _, _, true, rfl, .ty "str", .base (.str _), kit_ty (by decide +kernel), _, rfl, iteF ?_⟩
    refine ⟨_, rfl, rfl, _, rfl, iteF ?_⟩
    refine ⟨_, rfl, c, rfl, hc, fun H1 s1 => ⟨_, rfl, iteF ?_⟩⟩
    refine ⟨_, rfl, _, rfl, b, n, rfl, ?_, fun H2 s2 => ⟨_, rfl, iteF ?_⟩⟩
    · rcases hb with ⟨d, e, k⟩ | ⟨j, e, k⟩
      · exact .inl ⟨d, s1 _ _ e, k⟩
      · exact .inr ⟨j, s1 _ _ e, k⟩
    · refine ⟨_, rfl, t, 1, 1000000000, rfl, h1, h2, true, rfl, iteT ?_⟩
      refine ⟨_, rfl, _, _, _, _, true, rfl, .ty "str", .base (.str _), kit_ty (by decide +kernel), _, rfl, iteT ?_⟩
      refine ⟨_, rfl, g_RULES, _, rfl, .inr (t_RULES _), rfl, flat_strs _, ?_⟩
      show Q (.bl (inV (.str r) (rules.map V.str))) H2
      rw [inv_str, decide_eq_true hr']
      exact q _ (s1.trans s2)
def spStand : Sp := fun vs H Q _ => ∃ (v : V) (i n : Int) (x : Actn), vs = [v, .int i, .int n] ∧ ActV H x v ∧ ActOk n i x ∧ ∀ H', Same H H' → Q (.bl true) H'
theorem ok_can_stand (bt : Bt mg) {g_LAYER_WORDS : Addr} (m_LAYER_WORDS : mg "LAYER_WORDS" = some (.ref g_LAYER_WORDS)) (t_LAYER_WORDS : ∀ H, SqT K H g_LAYER_WORDS (layWords.map V.str)) (a : At K mg "can_stand" s_can_stand ["action", "layer", "layer_count"])
    (c_is_code_action : Cl P w K mg base 2 "is_code_action" spCA) (c_is_layer_action : Cl P w K mg base 3 "is_layer_action" (spLA K)) (c_is_dual_action : Cl P w K mg base 5 "is_dual_action" spDA) : Cl P w K mg base 6 "can_stand" spStand := by
  refine clG a sc_can_stand (fun vs H Q E h => ?_) (fun f cdv A outer s H vs Q hg hr h => ?_)
  · obtain ⟨v, i, n, x, rfl, _⟩ := h
    rfl
  · obtain ⟨v, i, n, x, rfl, hv, hx, q⟩ := h
    refine ⟨_, (pss_cons (ps_if (pt_val (pe_callB call_isi (by rfl) bt.m_isinstance (by decide +kernel) (pa_cons (pv 0) (pa_cons (pe_bltn (v := .ty "str") (by rfl) bt.m_str (by decide +kernel) rfl) pa_nil)))) (pss_one (ps_ret (pe_or (pe_cmpR (op_eqD hr.units) (pv 0) pe_str (nomark _)) (pe_one (pe_and (pe_cmpR (op_eqD hr.units) (pv 0) pe_str (nomark _)) (pe_one (pe_cmpR op_gt (pv 1) pe_int (nomark _)))))))) pss_nil)
      (pss_cons (ps_if (pt_not (pt_val (pe_callB call_isi (by rfl) bt.m_isinstance (by decide +kernel) (pa_cons (pv 0) (pa_cons (pe_bltn (v := .ty "tuple") (by rfl) bt.m_tuple (by decide +kernel) rfl) pa_nil))))) (pss_one (ps_ret pe_bl)) pss_nil)
      (pss_cons (ps_if (pt_cmpR op_eq (pe_callB call_len_seq (by rfl) bt.m_len (by decide +kernel) (pa_cons (pv 0) pa_nil)) pe_int (nomark _)) (pss_one (ps_ret (pe_or (pe_cl c_is_code_action hg hr (by decide) (by rfl) (pa_cons (pv 0) pa_nil)) (pe_one (pe_cl c_is_layer_action hg hr (by decide) (by rfl) (pa_cons (pv 0) (pa_cons (pe_glob (v := .ref g_LAYER_WORDS) (by rfl) m_LAYER_WORDS rfl) (pa_cons (pv 2) pa_nil)))))))) pss_nil)
      (pss_one (ps_ret (pe_and (pe_cmpR op_eq (pe_callB call_len_seq (by rfl) bt.m_len (by decide +kernel) (pa_cons (pv 0) pa_nil)) pe_int (nomark _)) (pe_one (pe_cl c_is_dual_action hg hr (by decide) (by rfl) (pa_cons (pv 0) (pa_cons (pv 2) pa_nil)))))))))), ?_⟩
    cases x with
    | none =>
      cases hv
      refine ⟨_, rfl, _, _, _, _, true, rfl, .ty "str", .base (.str _), kit_ty (by decide +kernel), _, rfl, iteT ?_⟩
      exact ⟨_, rfl, _, _, .str _, .str _, by decide +kernel, by decide +kernel, true, congrArg V.bl (by decide +kernel), iteT (q _ (Same.refl _))⟩
    | thr =>
      cases hv
      have h0 : 0 < i := hx
      refine ⟨_, rfl, _, _, _, _, true, rfl, .ty "str", .base (.str _), kit_ty (by decide +kernel), _, rfl, iteT ?_⟩
      refine ⟨_, rfl, _, _, .str _, .str _, by decide +kernel, by decide +kernel, false, congrArg V.bl (by decide +kernel), iteF ?_⟩
      refine ⟨_, rfl, _, _, .str _, .str _, by decide +kernel, by decide +kernel, true, congrArg V.bl (by decide +kernel), iteT ⟨_, rfl, _, _, rfl, rfl, ?_⟩⟩
      show Q (.bl (decide (0 < i))) H
      rw [decide_eq_true h0]
      exact q _ (Same.refl _)
    | code c =>
      obtain ⟨a, rfl, ha⟩ := hv
      refine ⟨_, rfl, _, _, _, _, false, rfl, .ty "str", .base (.tup ha), kit_ty (by decide +kernel), _, rfl, iteF ?_⟩
      refine ⟨_, rfl, _, _, _, _, true, rfl, .ty "tuple", .base (.tup ha), kit_ty (by decide +kernel), _, rfl, iteF ?_⟩
      refine ⟨_, rfl, a, _, rfl, .inr (SqT.of ha), rfl, _, rfl, iteT ?_⟩
      exact ⟨_, rfl, a, _, _, rfl, ha, .inl ⟨rfl, c, rfl, hx, fun H' s' => ⟨true, rfl, iteT (q H' s')⟩⟩⟩
    | lay w j =>
      obtain ⟨a, rfl, ha⟩ := hv
      obtain ⟨x1, x2, x3⟩ := hx
      refine ⟨_, rfl, _, _, _, _, false, rfl, .ty "str", .base (.tup ha), kit_ty (by decide +kernel), _, rfl, iteF ?_⟩
      refine ⟨_, rfl, _, _, _, _, true, rfl, .ty "tuple", .base (.tup ha), kit_ty (by decide +kernel), _, rfl, iteF ?_⟩
      refine ⟨_, rfl, a, _, rfl, .inr (SqT.of ha), rfl, _, rfl, iteT ?_⟩
      have hn : w ≠ (("code" : String) : Str) := by
        rintro rfl
        revert x1
        decide +kernel
      exact ⟨_, rfl, a, _, _, rfl, ha, .inr ⟨hn, false, rfl, iteF ⟨_, rfl, _, rfl, a, g_LAYER_WORDS, w, layWords, j, n, rfl, ha, t_LAYER_WORDS _, x1, x2, x3, q _ (Same.refl _)⟩⟩⟩
    | dualC c d t r =>
      obtain ⟨a, b, rfl, ha, hb⟩ := hv
      obtain ⟨x1, x2, ⟨x3, x4⟩, x5⟩ := hx
      refine ⟨_, rfl, _, _, _, _, false, rfl, .ty "str", .base (.tup ha), kit_ty (by decide +kernel), _, rfl, iteF ?_⟩
      refine ⟨_, rfl, _, _, _, _, true, rfl, .ty "tuple", .base (.tup ha), kit_ty (by decide +kernel), _, rfl, iteF ?_⟩
      refine ⟨_, rfl, a, _, rfl, .inr (SqT.of ha), rfl, _, rfl, iteF ?_⟩
      refine ⟨_, rfl, a, _, rfl, .inr (SqT.of ha), rfl, true, rfl, iteT ?_⟩
      exact ⟨_, rfl, _, rfl, a, b, c, r, t, n, rfl, ha, x1, .inl ⟨d, hb, x2⟩, x3, x4, x5, q⟩
    | dualL c j t r =>
      obtain ⟨a, b, rfl, ha, hb⟩ := hv
      obtain ⟨x1, ⟨x2, x2'⟩, ⟨x3, x4⟩, x5⟩ := hx
      refine ⟨_, rfl, _, _, _, _, false, rfl, .ty "str", .base (.tup ha), kit_ty (by decide +kernel), _, rfl, iteF ?_⟩
      refine ⟨_, rfl, _, _, _, _, true, rfl, .ty "tuple", .base (.tup ha), kit_ty (by decide +kernel), _, rfl, iteF ?_⟩
      refine ⟨_, rfl, a, _, rfl, .inr (SqT.of ha), rfl, _, rfl, iteF ?_⟩
      refine ⟨_, rfl, a, _, rfl, .inr (SqT.of ha), rfl, true, rfl, iteT ?_⟩
      exact ⟨_, rfl, _, rfl, a, b, c, r, t, n, rfl, ha, x1, .inr ⟨j, hb, x2, x2'⟩, x3, x4, x5, q⟩
def spForm : Sp := fun vs H Q _ => ∃ (c : Addr) (L : List (List Actn)) (m : Nat), vs = [.ref c] ∧ Lay H c L ∧ LayOk L m ∧ ∀ H', Same H H' → Q (.bl true) H'
theorem ok_has_layout_form (bt : Bt mg) {tk1 tk2 : Tok} (m_MOST_LAYERS : mg "MOST_LAYERS" = some (.int 6 tk1)) (m_MOST_KEYS : mg "MOST_KEYS" = some (.int 16 tk2)) (a : At K mg "has_layout_form" s_has_layout_form ["value"]) : Cl P w K mg base 1 "has_layout_form" spForm := by
  refine clG a sc_has_layout_form (fun vs H Q E h => ?_) (fun f cdv A outer s H vs Q hg hr h => ?_)
  · obtain ⟨c, L, m, rfl, _⟩ := h
    rfl
  · obtain ⟨c, L, m, rfl, hL, hO, q⟩ := h
    refine ⟨_, (pss_cons (ps_if (PW.pt (pw_or (pt_not (pt_val (pe_callB call_isi (by rfl) bt.m_isinstance (by decide +kernel) (pa_cons (pv 0) (pa_cons (pe_bltn (v := .ty "list") (by rfl) bt.m_list (by decide +kernel) rfl) pa_nil))))) (pw_or1 (pt_not (pt_chain op_le op_le pe_int (pe_callB call_len_seq (by rfl) bt.m_len (by decide +kernel) (pa_cons (pv 0) pa_nil)) (pe_glob (v := .int 6) (by rfl) m_MOST_LAYERS ⟨_, rfl⟩)))))) (pss_one (ps_ret pe_bl)) pss_nil)
      (pss_cons (ps_if (pt_not (pt_val (pe_callB (cr_all rfl) (by rfl) bt.m_all (by decide +kernel) (pa_cons (pe_lc (own := [("actions", 2)]) (g := (gName 2)) (by rfl) sc_has_layout_form.nd (pi_list (pv 0)) (blkOk_by (N := n_has_layout_form) (sc := defScope s_has_layout_form) (by decide +kernel)) (fun _ _ _ _ _ => (pg_name (i := 2) sc_has_layout_form.nd rfl (Or.inl rfl))) (fun _ _ _ _ _ => pts_nil) (fun _ _ _ _ _ => (pe_callB (r := rIsi K) call_isi (by rfl) bt.m_isinstance (by decide +kernel) (pa_cons (pv 2) (pa_cons (pe_bltn (v := .ty "list") (by rfl) bt.m_list (by decide +kernel) rfl) pa_nil))))) pa_nil)))) (pss_one (ps_ret pe_bl)) pss_nil)
      (pss_cons (ps_set (i := 1) sc_has_layout_form.nd rfl (Or.inr rfl) (pe_callB call_len_seq (by rfl) bt.m_len (by decide +kernel) (pa_cons (pe_ix ix_list (pv 0) pe_int (fun _ _ => rfl)) pa_nil)))
      (pss_one (ps_ret (pe_and (pe_chain op_le op_le pe_int (pv 1) (pe_glob (v := .int 16) (by rfl) m_MOST_KEYS ⟨_, rfl⟩)) (pe_one (pe_callB (cr_all rfl) (by rfl) bt.m_all (by decide +kernel) (pa_cons (pe_lc (own := [("actions", 2)]) (g := (gName 2)) (by rfl) sc_has_layout_form.nd (pi_list (pv 0)) (blkOk_by (N := n_has_layout_form) (sc := defScope s_has_layout_form) (by decide +kernel)) (fun _ _ _ _ _ => (pg_name (i := 2) sc_has_layout_form.nd rfl (Or.inl rfl))) (fun _ _ _ _ _ => pts_nil) (fun _ _ _ _ _ => (pe_cmpR op_eq (pe_callB (r := rLenB K) call_len_seq (by rfl) bt.m_len (by decide +kernel) (pa_cons (pv 2) pa_nil)) (pv 1) (nomark _)))) pa_nil))))))))), ?_⟩
    obtain ⟨rs, hc, hR⟩ := hL
    have hlen : (rs.map V.ref).length = L.length := by rw [List.length_map]; exact hR.1
    have n1 := hO.n1
    have n6 := hO.n6
    refine ⟨_, rfl, _, _, _, _, true, rfl, .ty "list", .base (.lst hc), kit_ty (by decide +kernel), _, rfl, iteF ?_⟩
    refine ⟨_, rfl, c, _, rfl, .inl (SqL.of hc), _, _, rfl, rfl, true, congrArg V.bl (decide_eq_true (by omega)), iteT ⟨_, _, rfl, rfl, true, congrArg V.bl (decide_eq_true (by omega)), iteF ?_⟩⟩
    refine ⟨_, rfl, c, rfl, ⟨_, SqL.of hc⟩, fun M nM => lc_it (walk_list (xs := rs.map V.ref)) (fun i H' => H' = upd H M (.lst ((List.replicate i true).map V.bl))) rfl
      (fun i H' _ p => by subst p; exact SqL.of ((same_upd nM) _ _ hc)) (fun i x H2 H3 hi p y => ?_) (fun H2 p => ?_)⟩
    · obtain ⟨rfl, hx⟩ := y
      subst p
      have hi' : i < L.length := by omega
      obtain ⟨r, hr1, hr2⟩ := hR.at_ hi'
      have ex : V.ref r = x := Option.some.inj ((get_map_ref hr1).symm.trans hx)
      subst ex
      obtain ⟨vs, hv, _⟩ := hr2
      refine ⟨rfl, ⟨_, rfl, _, _, _, _, true, rfl, .ty "list", .base (.lst ((same_upd nM) _ _ hv)), kit_ty (by decide +kernel), _, upd_same, ?_, ?_⟩⟩
      · rw [List.length_map, List.length_replicate]; exact small1000 (by omega)
      · rw [upd_upd, List.replicate_succ', List.map_append]; rfl
    · subst p
      refine ⟨M, _, rfl, SqL.of upd_same, _, rfl, ?_⟩
      rw [allTrue]
      have s1 : Same H (upd H M (.lst ((List.replicate (rs.map V.ref).length true).map V.bl))) := same_upd nM
      generalize upd H M (.lst ((List.replicate (rs.map V.ref).length true).map V.bl)) = H1 at s1
      have hc1 := s1 _ _ hc
      have hR1 := hR.same s1
      obtain ⟨r0, e0, vs0, hv0, ha0⟩ := hR1.at_ (i := 0) (by omega)
      have hm0 : vs0.length = m := by rw [ha0.1]; exact hO.len _ (List.getElem_mem _)
      have m1 := hO.m1
      have m16 := hO.m16
      refine iteF ⟨_, rfl, c, _, 0, .ref r0, rfl, rfl, SqL.of hc1, atI_nat (j := 0) (get_map_ref e0), ?_⟩
      refine ⟨r0, _, rfl, .inl (SqL.of hv0), ?_⟩
      rw [hm0]
      refine ⟨_, rfl, _, _, rfl, rfl, true, congrArg V.bl (decide_eq_true (by omega)), iteT ⟨_, _, rfl, rfl, true, congrArg V.bl (decide_eq_true (by omega)), iteT ?_⟩⟩
      refine ⟨_, rfl, c, rfl, ⟨_, SqL.of hc1⟩, fun N nN => lc_it (walk_list (xs := rs.map V.ref)) (fun i H' => H' = upd H1 N (.lst ((List.replicate i true).map V.bl))) rfl
        (fun i H' _ p => by subst p; exact SqL.of ((same_upd nN) _ _ hc1)) (fun i x H2 H3 hi p y => ?_) (fun H2 p => ?_)⟩
      · obtain ⟨rfl, hx⟩ := y
        subst p
        have hi' : i < L.length := by omega
        obtain ⟨r, hr1, vs, hv, ha⟩ := hR1.at_ hi'
        have ex : V.ref r = x := Option.some.inj ((get_map_ref hr1).symm.trans hx)
        subst ex
        have hm : vs.length = m := by rw [ha.1]; exact hO.len _ (List.getElem_mem _)
        refine ⟨rfl, ⟨_, rfl, r, _, rfl, .inl (SqL.of ((same_upd nN) _ _ hv)), _, rfl, rfl, _, upd_same, ?_, ?_⟩⟩
        · rw [List.length_map, List.length_replicate]; exact small1000 (by omega)
        · rw [hm, decide_eq_true rfl, upd_upd, List.replicate_succ', List.map_append]; rfl
      · subst p
        refine ⟨N, _, rfl, SqL.of upd_same, ?_⟩
        rw [allTrue]
        exact q _ (s1.trans (same_upd nN))
def spCheckL : Sp := fun vs H Q _ => ∃ (c : Addr) (L : List (List Actn)) (m : Nat), vs = [.ref c] ∧ Lay H c L ∧ LayOk L m ∧ ∀ H', Same H H' → Q .non H'
theorem ok_check_layout (bt : Bt mg) (a : At K mg "check_layout" s_check_layout ["value"]) (c_has_layout_form : Cl P w K mg base 1 "has_layout_form" spForm) (c_can_stand : Cl P w K mg base 6 "can_stand" spStand) : Cl P w K mg base 7 "check_layout" spCheckL := by
  refine clG a sc_check_layout (fun vs H Q E h => ?_) (fun f cdv A outer s H vs Q hg hr h => ?_)
  · obtain ⟨c, L, m, rfl, _⟩ := h
    rfl
  · obtain ⟨c, L, m, rfl, hL, hO, q⟩ := h
    refine ⟨_, (pss_cons (ps_if (pt_not (pt_val (pe_cl c_has_layout_form hg hr (by decide) (by rfl) (pa_cons (pv 0) pa_nil)))) pss_never pss_nil)
      (pss_one (ps_for PassesOwn.never rfl (pi_enum (by rfl) bt.m_enumerate (pa_cons (pv 0) pa_nil)) (pg_tup rfl (pgs_cons (pg_name (i := 1) sc_check_layout.nd rfl (Or.inl rfl)) (pgs_cons (pg_name (i := 2) sc_check_layout.nd rfl (Or.inl rfl)) pgs_nil))) (pss_one (ps_for PassesOwn.never rfl (pi_enum (by rfl) bt.m_enumerate (pa_cons (pv 2) pa_nil)) (pg_tup rfl (pgs_cons (pg_name (i := 3) sc_check_layout.nd rfl (Or.inl rfl)) (pgs_cons (pg_name (i := 4) sc_check_layout.nd rfl (Or.inl rfl)) pgs_nil))) (pss_one (ps_if (pt_not (pt_val (pe_cl c_can_stand hg hr (by decide) (by rfl) (pa_cons (pv 4) (pa_cons (pv 1) (pa_cons (pe_callB call_len_seq (by rfl) bt.m_len (by decide +kernel) (pa_cons (pv 0) pa_nil)) pa_nil)))))) pss_never pss_nil))))))), ?_⟩
    refine ⟨_, rfl, c, L, m, rfl, hL, hO, fun H1 s1 => ⟨_, rfl, iteF ?_⟩⟩
    obtain ⟨rs, hc, hR⟩ := hL.same s1
    have hlen : (rs.map V.ref).length = L.length := by rw [List.length_map]; exact hR.1
    refine ⟨_, rfl, c, _, rfl, SqL.of hc, for_it (walk_enum (xs := rs.map V.ref)) (fun i σ H' => Same H1 H' ∧ ∃ y1 y2 y3 y4, σ = [some (.ref c), y1, y2, y3, y4]) ⟨Same.refl _, _, _, _, _, rfl⟩ (fun _ _ H' _ p => SqL.of (p.1 _ _ hc)) (fun i x σ H2 H3 hi p y => ?_) (fun σ H2 p => ?_)⟩
    · obtain ⟨s2, y1, y2, y3, y4, rfl⟩ := p
      obtain ⟨T, u, v, rfl, nT, rfl, e1, e2⟩ := y
      have hi' : i < L.length := by omega
      obtain ⟨r, hr1, vs, hv, ha⟩ := hR.at_ hi'
      have e2' : v = .ref r := Option.some.inj ((show (rs.map V.ref)[i]? = some v from e2).symm.trans (get_map_ref hr1))
      subst e2'
      have e1' : u = .int (i : Nat) := (Option.some.inj e1).symm
      subst e1'
      have s3 : Same H1 (upd H2 T (.tup [.int (i : Nat), .ref r])) := s2.trans (same_upd nT)
      refine ⟨T, _, rfl, SqT.of upd_same, rfl, _, _, rfl, _, _, rfl, rfl, ?_⟩
      have hv3 := s3 _ _ hv
      have hvl := ha.1
      generalize upd H2 T (.tup [.int (i : Nat), .ref r]) = H4 at s3 hv3
      refine ⟨_, rfl, r, _, rfl, SqL.of hv3, for_it (walk_enum (xs := vs)) (fun j σ H' => Same H4 H' ∧ ∃ y3 y4, σ = [some (.ref c), some (.int (i : Nat)), some (.ref r), y3, y4]) ⟨Same.refl _, _, _, rfl⟩ (fun _ _ H' _ p => SqL.of (p.1 _ _ hv3)) (fun j x σ H5 H6 hj p y => ?_) (fun σ H5 p => ?_)⟩
      · obtain ⟨s5, y3, y4, rfl⟩ := p
        obtain ⟨T2, u2, v2, rfl, nT2, rfl, e3, e4⟩ := y
        have hj' : j < L[i].length := by omega
        obtain ⟨v', hv', hav⟩ := ha.at_ hj'
        have e4' : v2 = v' := Option.some.inj ((show vs[j]? = some v2 from e4).symm.trans hv')
        subst e4'
        have e3' : u2 = .int (j : Nat) := (Option.some.inj e3).symm
        subst e3'
        have s6 : Same H1 (upd H5 T2 (.tup [.int (j : Nat), v2])) := (s3.trans s5).trans (same_upd nT2)
        refine ⟨T2, _, rfl, SqT.of upd_same, rfl, _, _, rfl, _, _, rfl, rfl, ?_⟩
        refine ⟨_, rfl, _, rfl, _, rfl, c, _, rfl, .inl (SqL.of (s6 _ _ hc)), v2, i, L.length, L[i][j], ?_, hav.keep (Tk.of s6), hO.ok i _ (List.getElem?_eq_getElem hi') _ (List.getElem_mem _), fun H7 s7 => ⟨_, rfl, iteF ⟨(s5.trans (same_upd nT2)).trans s7, _, _, rfl⟩⟩⟩
        rw [hlen]
        rfl
      · obtain ⟨s5, y3, y4, rfl⟩ := p
        exact ⟨s3.trans s5, _, _, _, _, rfl⟩
    · exact q _ (s1.trans p.1)
end
end K65

set_option Elab.async false
set_option linter.all false
set_option maxRecDepth 100000
set_option maxHeartbeats 8000000
namespace K65
open PySem PySem.Spec PyProof.Rows L2 Gd Rm La
/-- a new layout, all its rows new and each one for itself -/
structure Fresh (H0 : Hp) (D : Addr) (L : List (List Actn)) (H : Hp) : Prop where
  same : Same H0 H
  ls : ∃ rs : List Addr, H D = some (.lst (rs.map V.ref)) ∧ Rows H rs L ∧ rs.Nodup ∧ ∀ r ∈ rs, H0 r = none ∧ r ≠ D
theorem Fresh.start {H0 : Hp} {D : Addr} (n : H0 D = none) : Fresh H0 D [] (upd H0 D (.lst [])) :=
  ⟨same_upd n, [], upd_same, ⟨rfl, fun i r row h _ => by simp at h⟩, List.nodup_nil, fun r h => by simp at h⟩
theorem row_upd {H : Hp} {r p : Addr} {xs : List Actn} {ys zs : List V} (h : Row H r xs) (hp : H p = some (.lst ys)) (n : r ≠ p) : Row (upd H p (.lst zs)) r xs := by
  obtain ⟨vs, a, b⟩ := h
  exact ⟨vs, by rw [upd_ne n]; exact a, b.keep (tk_upd hp)⟩
theorem Rows.snoc {H : Hp} {rs : List Addr} {L : List (List Actn)} {r : Addr} {row : List Actn} (h : Rows H rs L) (hr : Row H r row) : Rows H (rs ++ [r]) (L ++ [row]) := by
  refine ⟨by rw [List.length_append, List.length_append, h.1]; rfl, fun i u y a b => ?_⟩
  have hl := h.1
  rcases Nat.lt_or_ge i rs.length with q | q
  · rw [List.getElem?_append_left q] at a
    rw [List.getElem?_append_left (by omega)] at b
    exact h.2 i u y a b
  · have hi : i = rs.length := by
      have := (List.getElem?_eq_some_iff.mp a).1
      rw [List.length_append] at this
      simp at this
      omega
    subst hi
    rw [List.getElem?_append_right (Nat.le_refl _), Nat.sub_self] at a
    rw [List.getElem?_append_right (by omega), show rs.length - L.length = 0 by omega] at b
    have e1 : r = u := Option.some.inj a
    have e2 : row = y := Option.some.inj b
    subst e1 e2
    exact hr
theorem Fresh.more {H0 H : Hp} {D p : Addr} {L : List (List Actn)} {row : List Actn} {vs : List V} (g : Fresh H0 D L H) (nD : H0 D = none) (np : H p = none) (ha : Acts H vs row) :
    ∃ acc : List V, upd H p (.lst vs) D = some (.lst acc) ∧ acc.length = L.length ∧ Fresh H0 D (L ++ [row]) (upd (upd H p (.lst vs)) D (.lst (acc ++ [.ref p]))) := by
  obtain ⟨s, rs, h, hR, nd, hn⟩ := g
  have Dp : D ≠ p := ne_of_none h np
  have h1 : upd H p (.lst vs) D = some (.lst (rs.map V.ref)) := (same_upd np) _ _ h
  have p0 : H0 p = none := s.free np
  refine ⟨rs.map V.ref, h1, by rw [List.length_map]; exact hR.1, Same.off (s.trans (same_upd np)) nD off_upd, rs ++ [p], ?_, ?_, ?_, fun r hr => ?_⟩
  · rw [upd_same, List.map_append]; rfl
  · refine Rows.snoc ⟨hR.1, fun i r row' a b => row_upd ((hR.2 i r row' a b).same (same_upd np)) h1 (hn r (List.mem_of_getElem? a)).2⟩ ⟨vs, ?_, (ha.keep (Tk.of (same_upd np))).keep (tk_upd h1)⟩
    rw [upd_ne Dp.symm]
    exact upd_same
  · refine List.nodup_append.mpr ⟨nd, List.nodup_cons.mpr ⟨by simp, List.nodup_nil⟩, fun a ha' b hb e => ?_⟩
    have hb : b = p := List.mem_singleton.mp hb
    subst hb
    subst e
    obtain ⟨i, hi⟩ := List.getElem?_of_mem ha'
    have hil := (List.getElem?_eq_some_iff.mp hi).1
    obtain ⟨vs', hv, _⟩ := hR.2 i a _ hi (List.getElem?_eq_getElem (by rw [← hR.1]; exact hil))
    rw [np] at hv
    cases hv
  · rcases List.mem_append.mp hr with q | q
    · exact hn r q
    · rw [List.mem_singleton.mp q]; exact ⟨p0, Dp.symm⟩
theorem Fresh.set {H0 H : Hp} {D r : Addr} {L : List (List Actn)} {rs : List Addr} {row : List Actn} {vs : List V} {i j : Nat} {v : V} {x : Actn} (s : Same H0 H) (h : H D = some (.lst (rs.map V.ref))) (hR : Rows H rs L) (nd : rs.Nodup) (hn : ∀ r ∈ rs, H0 r = none ∧ r ≠ D)
    (hi : rs[i]? = some r) (hL : L[i]? = some row) (hv : H r = some (.lst vs)) (ha : Acts H vs row) (hx : ActV H x v) : Fresh H0 D (L.set i (row.set j x)) (upd H r (.lst (vs.set j v))) := by
  have nr := hn r (List.mem_of_getElem? hi)
  have hil := (List.getElem?_eq_some_iff.mp hL).1
  refine ⟨Same.off s nr.1 off_upd, rs, ?_, ⟨by rw [List.length_set]; exact hR.1, fun k r' row' a b => ?_⟩, nd, hn⟩
  · rw [upd_ne nr.2.symm]; exact h
  · by_cases z : i = k
    · subst z
      rw [List.getElem?_set_self hil] at b
      have e : row.set j x = row' := Option.some.inj b
      subst e
      rw [hi] at a
      have e : r = r' := Option.some.inj a
      subst e
      exact ⟨vs.set j v, upd_same, (ha.set hx).keep (tk_upd hv)⟩
    · rw [List.getElem?_set_ne z] at b
      refine row_upd (hR.2 k r' row' a b) hv fun e => z ?_
      subst e
      exact nd_ix nd hi a
def setA (L : List (List Actn)) (i j : Nat) (x : Actn) : List (List Actn) := L.set i ((L[i]?.getD []).set j x)
theorem setA_at {L : List (List Actn)} {i j : Nat} {x : Actn} {row : List Actn} (h : L[i]? = some row) : setA L i j x = L.set i (row.set j x) := by unfold setA; rw [h]; rfl
theorem signs_len : signs.cps.toList.length = 36 := by decide +kernel
theorem getS {d : Int} (h0 : 0 ≤ d) (h1 : d < 36) : ∃ c, atI signs.cps.toList d = some c ∧ c ∈ signs.cps.toList := by
  have hl := signs_len
  obtain ⟨k, rfl⟩ : ∃ k : Nat, d = (k : Int) := ⟨d.toNat, by omega⟩
  have hd : k < signs.cps.toList.length := by omega
  exact ⟨signs.cps.toList[k], atI_nat (List.getElem?_eq_getElem hd), List.getElem_mem hd⟩
def codes14 : List Str := ["a", "b", "x", "1", "esc", "none", "through", "press", "tap", "hold", "code", "layer", "q9", "zzzzzzzz"]
def codes8 : List Str := ["00000000", "0", "lock", "once", "dual", "release", "down", "up"]
theorem codes_ok : ∀ c ∈ codes14 ++ codes8, CodeOk c := by decide +kernel
theorem codes_len : (codes14 ++ codes8).length = 22 := rfl
theorem getC {d : Int} (h0 : 0 ≤ d) (h1 : d < 22) : ∃ c, atI (codes14.map V.str ++ codes8.map V.str) d = some (.str c) ∧ CodeOk c := by
  have hl := codes_len
  have hd : d.toNat < (codes14 ++ codes8).length := by omega
  refine ⟨(codes14 ++ codes8)[d.toNat], ?_, codes_ok _ (List.getElem_mem hd)⟩
  rw [← List.map_append]
  refine at_of (j := d.toNat) (by omega) ?_
  rw [List.getElem?_map, List.getElem?_eq_getElem hd]
  rfl
theorem getW {ws : List Str} {d : Int} (h0 : 0 ≤ d) (h1 : d < (ws.length : Int)) : ∃ c, atI (ws.map V.str) d = some (.str c) ∧ c ∈ ws := by
  have hd : d.toNat < ws.length := by omega
  refine ⟨ws[d.toNat], ?_, List.getElem_mem hd⟩
  refine at_of (j := d.toNat) (by omega) ?_
  rw [List.getElem?_map, List.getElem?_eq_getElem hd]
  rfl
theorem sum_one : ∀ cs : List Nat, ((cs.map fun c => (⟨#[c]⟩ : Str)).map fun x => x.length).sum = cs.length
  | [] => rfl
  | c :: r => by
    have ih := sum_one r
    rw [List.map_cons, List.map_cons, List.sum_cons, ih, List.length_cons]
    show 1 + r.length = _
    omega
theorem Reel.tk {H H' : Hp} {r : Addr} {n : Nat} (h : Reel H r n) (o : Off r H H') : Tk H H' := fun b xs e => o _ _ e (by
  obtain ⟨x, y, z, hr, _⟩ := h
  exact ne_of e hr (by intro q; cases q))
section
variable {P : Program} {w : World} {K : PySem.W.Frag} {mg : Str → Option Value} {base : Heap}
def spLCode : Sp := fun vs H Q _ => ∃ (r : Addr) (n : Nat), vs = [.ref r] ∧ Reel H r n ∧ n + 100 < most ∧
  ∀ (H' : Hp) (c : Str), Off r H H' → Reel H' r (n + 20) → CodeOk c → Q (.str c) H'
theorem ok__law_code (bt : Bt mg) (a : At K mg "_law_code" s__law_code ["_law_reel_here"]) (c__law_spin : Cl P w K mg base 1 "_law_spin" spSpin) : Cl P w K mg base 2 "_law_code" spLCode := by
  refine clG a sc__law_code (fun vs H Q E h => ?_) (fun f cdv A outer s H vs Q hg hr h => ?_)
  · obtain ⟨r, n, rfl, _⟩ := h
    rfl
  · obtain ⟨r, n, rfl, hR, hn, q⟩ := h
    have hn : n + 100 < 1000000000 := hn
    refine ⟨_, (pss_cons (ps_set (i := 1) sc__law_code.nd rfl (Or.inl rfl) (pe_lst (pa_cons pe_str (pa_cons pe_str (pa_cons pe_str (pa_cons pe_str (pa_cons pe_str (pa_cons pe_str (pa_cons pe_str (pa_cons pe_str (pa_cons pe_str (pa_cons pe_str (pa_cons pe_str (pa_cons pe_str (pa_cons pe_str (pa_cons pe_str pa_nil))))))))))))))))
      (pss_cons (ps_set (i := 1) sc__law_code.nd rfl (Or.inl rfl) (pe_op op_cat (pv 1) (pe_lst (pa_cons pe_str (pa_cons pe_str (pa_cons pe_str (pa_cons pe_str (pa_cons pe_str (pa_cons pe_str (pa_cons pe_str (pa_cons pe_str pa_nil)))))))))))
      (pss_cons (ps_set (i := 2) sc__law_code.nd rfl (Or.inl rfl) (pe_cl c__law_spin hg hr (by decide) (by rfl) (pa_cons (pv 0) (pa_cons pe_int pa_nil))))
      (pss_cons (ps_if (pt_cmpR op_lt (pv 2) pe_int (nomark _)) (pss_one (ps_ret (pe_ix ix_list (pv 1) (pv 2) (fun _ _ => rfl)))) pss_nil)
      (pss_cons (ps_asg (pe_tup (pa_cons (pe_op op_add pe_int (pe_cl c__law_spin hg hr (by decide) (by rfl) (pa_cons (pv 0) (pa_cons pe_int pa_nil)))) (pa_cons pe_str pa_nil))) (pg_tup rfl (pgs_cons (pg_name (i := 3) sc__law_code.nd rfl (Or.inl rfl)) (pgs_cons (pg_name (i := 4) sc__law_code.nd rfl (Or.inr rfl)) pgs_nil))))
      (pss_one (ps_ret (pe_bm PySem.F.plainAttrs_str PySem.F.slot_str_join PySem.F.type_str_join mt_join pe_str (pa_cons (pe_lc (own := [("_law_turn", 5)]) (g := (gName 5)) (by rfl) sc__law_code.nd (pi_range1 (by rfl) bt.m_range (pa_cons (pv 3) pa_nil)) (blkOk_by (N := n__law_code) (sc := defScope s__law_code) (by decide +kernel)) (fun _ _ _ _ _ => (pg_name (i := 5) sc__law_code.nd rfl (Or.inl rfl))) (fun _ _ _ _ _ => pts_nil) (fun _ _ _ _ _ => (pe_ix ix_str (pv 4) (pe_cl c__law_spin hg hr (by decide) (by rfl) (pa_cons (pv 0) (pa_cons pe_int pa_nil))) (fun _ _ => rfl)))) pa_nil))))))))), ?_⟩
    refine ⟨(by show 14 ≤ sizeLine; decide), fun S nS => ⟨_, rfl, (by show 8 ≤ sizeLine; decide), fun T nT => ⟨S, T, _, _, rfl, rfl, (same_upd nT) _ _ upd_same, upd_same, (by show 14 + 8 ≤ sizeLine; decide), fun U nU => ?_⟩⟩⟩
    have s1 : Same H (upd (upd (upd H S (.lst (codes14.map V.str))) T (.lst (codes8.map V.str))) U (.lst (codes14.map V.str ++ codes8.map V.str))) := ((same_upd nS).trans (same_upd nT)).trans (same_upd nU)
    have hU : upd (upd (upd H S (.lst (codes14.map V.str))) T (.lst (codes8.map V.str))) U (.lst (codes14.map V.str ++ codes8.map V.str)) U = some (.lst (codes14.map V.str ++ codes8.map V.str)) := upd_same
    have hN : H U = none := ((same_upd nS).trans (same_upd nT)).free nU
    refine (fun (G : ∀ H1, Same H H1 → H1 U = some (.lst (codes14.map V.str ++ codes8.map V.str)) → _) => G _ s1 hU) (fun H1 s1 hU => ?_)
    have R1 := hR.same s1
    have Ur : U ≠ r := by
      obtain ⟨_, _, _, hr2, _⟩ := id hR
      exact (ne_of_none hr2 hN).symm
    refine ⟨_, rfl, r, 27, n, rfl, by decide, by decide, by show _ < 1000000000; omega, R1, fun d H2 d0 d1 R2 o2 => ?_⟩
    have hU2 := o2 _ _ hU Ur
    have oH2 : Off r H H2 := (Off.of s1).trans o2
    refine ⟨_, rfl, _, _, rfl, rfl, _, rfl, ite2 (fun e => ?_) (fun e => ?_)⟩
    · have e0 : d < 22 := of_decide_eq_true e
      obtain ⟨c, hc, ok⟩ := getC d0 e0
      exact ⟨_, rfl, _, rfl, U, _, d, .str c, rfl, rfl, SqL.of hU2, hc, q _ c oH2 (R2.mono (by omega)) ok⟩
    · refine ⟨_, rfl, r, 8, n + 1, rfl, by decide, by decide, by show _ < 1000000000; omega, R2, fun m H3 m0 m1 R3 o3 => ⟨_, _, rfl, rfl, (by show 2 ≤ sizeLine; decide), fun p np => ⟨p, _, rfl, SqT.of upd_same, rfl, _, _, rfl, _, _, rfl, rfl, ?_⟩⟩⟩
      have R4 : Reel (upd H3 p (.tup [.int (1 + m), .str signs])) r (n + 2) := R3.same (same_upd np)
      have o4 : Off r H (upd H3 p (.tup [.int (1 + m), .str signs])) := (oH2.trans o3).sameTrans (same_upd np)
      refine (fun (G : ∀ H4, Reel H4 r (n + 2) → Off r H H4 → _) => G _ R4 o4) (fun H4 R4 o4 => ?_)
      refine ⟨rfl, _, rfl, 1 + m, rfl, by omega, by omega, fun M nM => lc_it walk_range (fun i H' => Off r H4 H' ∧ Reel H' r (n + 2 + i) ∧ ∃ cs : List Nat, H' M = some (.lst ((cs.map fun c => (⟨#[c]⟩ : Str)).map V.str)) ∧ cs.length = i ∧ ∀ c ∈ cs, c ∈ signs.cps.toList) ?_ (fun _ _ _ _ => True.intro) (fun i x H5 H6 hi p y => ?_) (fun H5 p => ?_)⟩
      · exact ⟨Off.of (same_upd nM), R4.same (same_upd nM), [], upd_same, rfl, fun c h => by simp at h⟩
      · obtain ⟨rfl, rfl⟩ := y
        obtain ⟨o5, R5, cs, hM, hl, hcs⟩ := p
        have Mr : M ≠ r := by
          obtain ⟨_, _, _, hr2, _⟩ := id R4
          exact (ne_of_none hr2 nM).symm
        have hi8 : i < 8 := by omega
        refine ⟨rfl, ⟨_, rfl, _, rfl, r, 36, n + 2 + i, rfl, by decide, by decide, by show _ < 1000000000; omega, R5, fun d' H7 d0' d1' R7 o7 => ?_⟩⟩
        obtain ⟨c, hc, hm⟩ := getS d0' d1'
        refine ⟨signs, d', c, rfl, rfl, (by decide +kernel), hc, _, o7 _ _ hM Mr, ?_, ?_⟩
        · rw [List.length_map, List.length_map]; exact small1000 (by omega)
        · refine ⟨(o5.trans o7).new nM, ?_, cs ++ [c], ?_, by rw [List.length_append, hl]; rfl, fun x hx => ?_⟩
          · obtain ⟨x, y, z, g, g'⟩ := R7
            exact ⟨x, y, z, by rw [upd_ne Mr.symm]; exact g, g'⟩
          · rw [upd_same, List.map_append, List.map_append]; rfl
          · rcases List.mem_append.mp hx with z | z
            · exact hcs x z
            · rw [List.mem_singleton.mp z]; exact hm
      · obtain ⟨o5, R5, cs, hM, hl, hcs⟩ := p
        refine ⟨"", M, cs.map fun c => ⟨#[c]⟩, rfl, rfl, .inl (SqL.of hM), ?_, ?_⟩
        · rw [sum_one, List.length_map]
          show _ + _ * 0 ≤ 16777216
          omega
        · refine q _ _ (o4.trans o5) (R5.mono (by omega)) (code_join (by omega) (by omega) hcs)
end
end K65

set_option Elab.async false
set_option linter.all false
set_option maxRecDepth 100000
set_option maxHeartbeats 8000000
namespace K65
open PySem PySem.Spec PyProof.Rows L2 Gd Rm La
def holdOk (H : Hp) (n : Int) (b : Addr) : Prop := (∃ d, H b = some (.tup [.str "code", .str d]) ∧ CodeOk d) ∨ (∃ j, H b = some (.tup [.str "layer", .int j]) ∧ 1 ≤ j ∧ j ≤ n - 1)
theorem holdOk.keep {H H' : Hp} {n : Int} {b : Addr} (h : holdOk H n b) (t : Tk H H') : holdOk H' n b := by
  rcases h with ⟨d, a, c⟩ | ⟨j, a, c⟩
  · exact .inl ⟨d, t _ _ a, c⟩
  · exact .inr ⟨j, t _ _ a, c⟩
theorem small40 {n : Int} (h : n ≤ 1000000000) : n < 10 ^ 40 := Int.lt_of_le_of_lt h (by decide)
section
variable {P : Program} {w : World} {K : PySem.W.Frag} {mg : Str → Option Value} {base : Heap}
def spLAct : Sp := fun vs H Q _ => ∃ (r : Addr) (k : Nat) (i n g : Int), vs = [.ref r, .int i, .int n, .int g] ∧ Reel H r k ∧ k + 1000 < most ∧ 0 ≤ i ∧ 1 ≤ n ∧ n ≤ 1000 ∧ 1 ≤ g ∧ g ≤ 1000000000 ∧
  ∀ (H' : Hp) (v : V) (x : Actn), Off r H H' → Reel H' r (k + 100) → ActV H' x v → ActOk n i x → Q v H'
theorem ok__law_action (bt : Bt mg) (a : At K mg "_law_action" s__law_action ["_law_reel_here", "_law_layer", "_law_layers", "_law_longest"]) (c__law_spin : Cl P w K mg base 1 "_law_spin" spSpin) (c__law_code : Cl P w K mg base 2 "_law_code" spLCode) : Cl P w K mg base 3 "_law_action" spLAct := by
  refine clG a sc__law_action (fun vs H Q E h => ?_) (fun f cdv A outer s H vs Q hg hr h => ?_)
  · obtain ⟨r, k, i, n, g, rfl, _⟩ := h
    rfl
  · obtain ⟨r, k, i, n, g, rfl, hR, hk, hi, hn, hn2, hg1, hg2, q⟩ := h
    have hk : k + 1000 < 1000000000 := hk
    refine ⟨_, (pss_cons (ps_set (i := 4) sc__law_action.nd rfl (Or.inl rfl) (pe_cl c__law_spin hg hr (by decide) (by rfl) (pa_cons (pv 0) (pa_cons pe_int pa_nil))))
      (pss_cons (ps_if (pt_cmpR op_lt (pv 4) pe_int (nomark _)) (pss_one (ps_ret (pe_tup (pa_cons pe_str (pa_cons (pe_cl c__law_code hg hr (by decide) (by rfl) (pa_cons (pv 0) pa_nil)) pa_nil))))) pss_nil)
      (pss_cons (ps_if (pt_cmpR op_eq (pv 4) pe_int (nomark _)) (pss_one (ps_ret pe_str)) pss_nil)
      (C8.pss_cut (ps_if (PW.pt (pw_and (pt_cmpR op_lt (pv 4) pe_int (nomark _)) (pw_and1 (pt_cmpR op_gt (pv 1) pe_int (nomark _))))) (pss_one (ps_ret pe_str)) pss_nil)
      (C8.pss_cut (ps_if (PW.pt (pw_and (pt_cmpR op_lt (pv 4) pe_int (nomark _)) (pw_and1 (pt_cmpR op_gt (pv 2) pe_int (nomark _))))) (pss_one (ps_ret (pe_tup (pa_cons (pe_ix ix_list (pe_lst (pa_cons pe_str (pa_cons pe_str (pa_cons pe_str pa_nil)))) (pe_cl c__law_spin hg hr (by decide) (by rfl) (pa_cons (pv 0) (pa_cons pe_int pa_nil))) (fun _ _ => rfl)) (pa_cons (pe_op op_add pe_int (pe_cl c__law_spin hg hr (by decide) (by rfl) (pa_cons (pv 0) (pa_cons (pe_op op_sub (pv 2) pe_int) pa_nil)))) pa_nil))))) pss_nil)
      (pss_cons (ps_set (i := 5) sc__law_action.nd rfl (Or.inl rfl) (pe_tup (pa_cons pe_str (pa_cons (pe_cl c__law_code hg hr (by decide) (by rfl) (pa_cons (pv 0) pa_nil)) pa_nil))))
      (C8.pss_cut (ps_if (PW.pt (pw_and (pt_cmpR op_gt (pv 2) pe_int (nomark _)) (pw_and1 (pt_cmpR op_gt (pe_cl c__law_spin hg hr (by decide) (by rfl) (pa_cons (pv 0) (pa_cons pe_int pa_nil))) pe_int (nomark _))))) (pss_one (ps_set (i := 5) sc__law_action.nd rfl (Or.inl rfl) (pe_tup (pa_cons pe_str (pa_cons (pe_op op_add pe_int (pe_cl c__law_spin hg hr (by decide) (by rfl) (pa_cons (pv 0) (pa_cons (pe_op op_sub (pv 2) pe_int) pa_nil)))) pa_nil))))) pss_nil)
      (pss_cons (ps_set (i := 6) sc__law_action.nd rfl (Or.inl rfl) (pe_ix ix_list (pe_lst (pa_cons (pe_op op_add pe_int (pe_cl c__law_spin hg hr (by decide) (by rfl) (pa_cons (pv 0) (pa_cons (pe_callB (call_min2 rfl) (by rfl) bt.m_min (by decide +kernel) (pa_cons pe_int (pa_cons (pv 3) pa_nil))) pa_nil)))) (pa_cons (pe_op op_add pe_int (pe_cl c__law_spin hg hr (by decide) (by rfl) (pa_cons (pv 0) (pa_cons (pv 3) pa_nil)))) (pa_cons (pv 3) pa_nil)))) (pe_cl c__law_spin hg hr (by decide) (by rfl) (pa_cons (pv 0) (pa_cons pe_int pa_nil))) (fun _ _ => rfl)))
      (pss_one (ps_ret (pe_tup (pa_cons pe_str (pa_cons (pe_cl c__law_code hg hr (by decide) (by rfl) (pa_cons (pv 0) pa_nil)) (pa_cons (pv 5) (pa_cons (pv 6) (pa_cons (pe_ix ix_list (pe_lst (pa_cons pe_str (pa_cons pe_str (pa_cons pe_str pa_nil)))) (pe_cl c__law_spin hg hr (by decide) (by rfl) (pa_cons (pv 0) (pa_cons pe_int pa_nil))) (fun _ _ => rfl)) pa_nil)))))))))))))))), ?_⟩
    refine ⟨_, rfl, r, 12, k, rfl, by decide, by decide, by show _ < 1000000000; omega, hR, fun way H1 w0 w1 R1 o1 => ?_⟩
    refine ⟨_, rfl, _, _, rfl, rfl, _, rfl, ite2 (fun e => ?_) (fun e => ?_)⟩
    · refine ⟨_, rfl, r, k + 1, rfl, R1, by show _ < 1000000000; omega, fun H2 c o2 R2 ok => ⟨(by show 2 ≤ sizeLine; decide), fun p np => ?_⟩⟩
      exact q _ _ (.code c) ((o1.trans o2).sameTrans (same_upd np)) ((R2.same (same_upd np)).mono (by omega)) ⟨p, rfl, upd_same⟩ ok
    clear e
    refine ⟨_, rfl, rfl, _, rfl, ite2 (fun e => q _ _ .none o1 (R1.mono (by omega)) rfl True.intro) (fun e => ?_)⟩
    clear e
    refine ⟨fun σ' H' => σ' = [some (.ref r), some (.int i), some (.int n), some (.int g), some (.int way), none, none] ∧ H' = H1, ?_, ?_⟩
    · refine ⟨_, rfl, _, _, rfl, rfl, _, rfl, ite2 (fun e => ?_) (fun e => iteF ⟨rfl, rfl⟩)⟩
      refine ⟨_, rfl, _, _, rfl, rfl, _, rfl, ite2 (fun e => ?_) (fun e => ⟨rfl, rfl⟩)⟩
      have e0 : 0 < i := of_decide_eq_true e
      exact q _ _ .thr o1 (R1.mono (by omega)) rfl e0
    rintro σ' H1 ⟨rfl, rfl⟩
    refine ⟨fun σ' H' => σ' = [some (.ref r), some (.int i), some (.int n), some (.int g), some (.int way), none, none] ∧ H' = H1, ?_, ?_⟩
    · refine ⟨_, rfl, _, _, rfl, rfl, _, rfl, ite2 (fun e => ?_) (fun e => iteF ⟨rfl, rfl⟩)⟩
      refine ⟨_, rfl, _, _, rfl, rfl, _, rfl, ite2 (fun e => ?_) (fun e => ⟨rfl, rfl⟩)⟩
      have e0 : 1 < n := of_decide_eq_true e
      refine ⟨(by show 3 ≤ sizeLine; decide), fun M nM => ⟨_, rfl, r, 3, k + 1, rfl, by decide, by decide, by show _ < 1000000000; omega, R1.same (same_upd nM), fun d H2 d0 d1 R2 o2 => ?_⟩⟩
      have Mr : M ≠ r := by
        obtain ⟨_, _, _, hr2, _⟩ := id R1
        exact (ne_of_none hr2 nM).symm
      have hM := o2 _ _ (upd_same (H := H1) (a := M) (o := .lst (layWords.map V.str))) Mr
      obtain ⟨c, hc, hm⟩ := getW (ws := layWords) d0 d1
      refine ⟨M, _, d, .str c, rfl, rfl, SqL.of hM, hc, _, rfl, _, rfl, _, _, rfl, rfl, r, n - 1, k + 2, rfl, by omega, small40 (by omega), by show _ < 1000000000; omega, R2, fun j H3 j0 j1 R3 o3 => ⟨_, _, rfl, rfl, (by show 2 ≤ sizeLine; decide), fun p np => ?_⟩⟩
      exact q _ _ (.lay c (1 + j)) (((((o1.sameTrans (same_upd nM)).trans o2).trans o3)).sameTrans (same_upd np)) ((R3.same (same_upd np)).mono (by omega)) ⟨p, rfl, upd_same⟩ ⟨hm, by omega, by omega⟩
    rintro σ' H1 ⟨rfl, rfl⟩
    refine ⟨_, rfl, r, k + 1, rfl, R1, by show _ < 1000000000; omega, fun H2 c o2 R2 ok => ⟨(by show 2 ≤ sizeLine; decide), fun p np => ?_⟩⟩
    have h3 : holdOk (upd H2 p (.tup [.str "code", .str c])) n p := .inl ⟨c, upd_same, ok⟩
    have o3 : Off r H (upd H2 p (.tup [.str "code", .str c])) := (o1.trans o2).sameTrans (same_upd np)
    have R3 : Reel (upd H2 p (.tup [.str "code", .str c])) r (k + 1 + 20) := R2.same (same_upd np)
    refine (fun (G : ∀ H3, holdOk H3 n p → Off r H H3 → Reel H3 r (k + 1 + 20) → _) => G _ h3 o3 R3) (fun H3 h3 o3 R3 => ?_)
    refine ⟨fun σ' H' => ∃ b, σ' = [some (.ref r), some (.int i), some (.int n), some (.int g), some (.int way), some (.ref b), none] ∧ Off r H H' ∧ Reel H' r (k + 30) ∧ holdOk H' n b, ?_, ?_⟩
    · refine ⟨_, rfl, _, _, rfl, rfl, _, rfl, ite2 (fun e => ?_) (fun e => iteF ⟨p, rfl, o3, R3.mono (by omega), h3⟩)⟩
      have e0 : 1 < n := of_decide_eq_true e
      refine ⟨_, rfl, r, 3, k + 1 + 20, rfl, by decide, by decide, by show _ < 1000000000; omega, R3, fun d H4 d0 d1 R4 o4 => ⟨_, _, rfl, rfl, _, rfl, ite2 (fun e => ?_) (fun e => ⟨p, rfl, o3.trans o4, R4.mono (by omega), h3.keep (R3.tk o4)⟩)⟩⟩
      refine ⟨_, rfl, _, rfl, _, _, rfl, rfl, r, n - 1, k + 1 + 20 + 1, rfl, by omega, small40 (by omega), by show _ < 1000000000; omega, R4, fun j H5 j0 j1 R5 o5 => ⟨_, _, rfl, rfl, (by show 2 ≤ sizeLine; decide), fun p2 np2 => ?_⟩⟩
      exact ⟨p2, rfl, ((o3.trans o4).trans o5).sameTrans (same_upd np2), (R5.same (same_upd np2)).mono (by omega), .inr ⟨1 + j, upd_same, by omega, by omega⟩⟩
    rintro σ' H4 ⟨b, rfl, o4, R4, h4⟩
    have gm : ∀ x : Int, 0 < (if g < x then g else x) ∨ x ≤ 0 := fun x => by split <;> omega
    refine ⟨_, rfl, _, rfl, _, _, rfl, r, (if g < 4 then g else 4), k + 30, rfl, by split <;> omega, small40 (by split <;> omega), by show _ < 1000000000; omega, R4, fun t1 H5 a0 a1 R5 o5 => ⟨_, _, rfl, rfl, ?_⟩⟩
    refine ⟨_, rfl, _, rfl, r, g, k + 30 + 1, rfl, by omega, small40 hg2, by show _ < 1000000000; omega, R5, fun t2 H6 b0 b1 R6 o6 => ⟨_, _, rfl, rfl, _, rfl, (by show 3 ≤ sizeLine; decide), fun M nM => ?_⟩⟩
    refine ⟨_, rfl, r, 3, k + 30 + 1 + 1, rfl, by decide, by decide, by show _ < 1000000000; omega, R6.same (same_upd nM), fun d H7 d0 d1 R7 o7 => ?_⟩
    have Mr : M ≠ r := by
      obtain ⟨_, _, _, hr2, _⟩ := id R6
      exact (ne_of_none hr2 nM).symm
    have hM := o7 _ _ (upd_same (H := H6) (a := M) (o := .lst ([1 + t1, 1 + t2, g].map V.int))) Mr
    obtain ⟨t, ht, hm⟩ := getI (ns := [1 + t1, 1 + t2, g]) d0 d1
    have tb : 1 ≤ t ∧ t ≤ 1000000000 := by
      have hm' := List.mem_of_getElem? hm
      simp only [List.mem_cons, List.mem_nil_iff, or_false] at hm'
      have a1' : t1 < 4 := by
        revert a1
        split <;> omega
      have a2' : t1 < g := by
        revert a1
        split <;> omega
      omega
    refine ⟨M, _, d, .int t, rfl, rfl, SqL.of hM, ht, ?_⟩
    have o07 : Off r H H7 := (((o4.trans o5).trans o6).sameTrans (same_upd nM)).trans o7
    have h7 : holdOk H7 n b := (((h4.keep (R4.tk o5)).keep (R5.tk o6)).keep (Tk.of (same_upd nM))).keep ((R6.same (same_upd nM)).tk o7)
    refine ⟨_, rfl, r, k + 40, rfl, R7.mono (by omega), by show _ < 1000000000; omega, fun H8 c2 o8 R8 ok2 => ⟨_, rfl, _, rfl, (by show 3 ≤ sizeLine; decide), fun W nW => ?_⟩⟩
    refine ⟨_, rfl, r, 3, k + 40 + 20, rfl, by decide, by decide, by show _ < 1000000000; omega, R8.same (same_upd nW), fun d' H9 d0' d1' R9 o9 => ?_⟩
    have Wr : W ≠ r := by
      obtain ⟨_, _, _, hr2, _⟩ := id R8
      exact (ne_of_none hr2 nW).symm
    have hW := o9 _ _ (upd_same (H := H8) (a := W) (o := .lst (rules.map V.str))) Wr
    obtain ⟨u, hu, hmu⟩ := getW (ws := rules) d0' d1'
    refine ⟨W, _, d', .str u, rfl, rfl, SqL.of hW, hu, (by show 5 ≤ sizeLine; decide), fun z nz => ?_⟩
    have h9 : holdOk (upd H9 z (.tup [.str "dual", .str c2, .ref b, .int t, .str u])) n b := (((h7.keep (R7.tk o8)).keep (Tk.of (same_upd nW))).keep ((R8.same (same_upd nW)).tk o9)).keep (Tk.of (same_upd nz))
    have o10 : Off r H (upd H9 z (.tup [.str "dual", .str c2, .ref b, .int t, .str u])) := ((((o07.trans o8).sameTrans (same_upd nW)).trans o9)).sameTrans (same_upd nz)
    have R10 : Reel (upd H9 z (.tup [.str "dual", .str c2, .ref b, .int t, .str u])) r (k + 100) := (R9.same (same_upd nz)).mono (by omega)
    rcases h9 with ⟨y, hy, oky⟩ | ⟨y, hy, y1, y2⟩
    · exact q _ _ (.dualC c2 y t u) o10 R10 ⟨z, b, rfl, upd_same, hy⟩ ⟨ok2, oky, tb, hmu⟩
    · exact q _ _ (.dualL c2 y t u) o10 R10 ⟨z, b, rfl, upd_same, hy⟩ ⟨ok2, ⟨y1, y2⟩, tb, hmu⟩
end
end K65

set_option Elab.async false
set_option linter.all false
set_option maxRecDepth 100000
set_option maxHeartbeats 8000000
namespace K65
open PySem PySem.Spec PyProof.Rows L2 Gd Rm La
def FL (H0 : Hp) (D : Addr) (L : List (List Actn)) (H : Hp) : Prop := ∃ rs : List Addr, H D = some (.lst (rs.map V.ref)) ∧ Rows H rs L ∧ rs.Nodup ∧ ∀ r ∈ rs, H0 r = none ∧ r ≠ D
theorem FL.lay {H0 H : Hp} {D : Addr} {L : List (List Actn)} (h : FL H0 D L H) : Lay H D L := by
  obtain ⟨rs, a, b, _⟩ := h
  exact ⟨rs, a, b⟩
theorem Fresh.lay {H0 H : Hp} {D : Addr} {L : List (List Actn)} (h : Fresh H0 D L H) : Lay H D L := by
  obtain ⟨_, rs, a, b, _⟩ := h
  exact ⟨rs, a, b⟩
theorem row_off {H H' : Hp} {r p : Addr} {xs : List Actn} (h : Row H p xs) (n : p ≠ r) (o : Off r H H') (t : Tk H H') : Row H' p xs := by
  obtain ⟨vs, a, b⟩ := h
  exact ⟨vs, o _ _ a n, b.keep t⟩
theorem FL.more {H0 H1 H5 : Hp} {F M r : Addr} {L : List (List Actn)} {row : List Actn} {vs : List V} {oo : HO} (g : FL H0 F L H1) (nF : H0 F = none) (hr0 : H0 r = some oo) (fM : H0 M = none) (nM : H1 M = none) (o : Off r H1 H5) (t : Tk H1 H5)
    (hM : H5 M = some (.lst vs)) (ha : Acts H5 vs row) : ∃ acc : List V, H5 F = some (.lst acc) ∧ acc.length = L.length ∧ FL H0 F (L ++ [row]) (upd H5 F (.lst (acc ++ [.ref M]))) := by
  obtain ⟨rs, h, hR, nd, hn⟩ := g
  have Fr : F ≠ r := (ne_of_none hr0 nF).symm
  have FM : F ≠ M := ne_of_none h nM
  have h5 : H5 F = some (.lst (rs.map V.ref)) := o _ _ h Fr
  refine ⟨rs.map V.ref, h5, by rw [List.length_map]; exact hR.1, rs ++ [M], by rw [upd_same, List.map_append]; rfl, ?_, ?_, fun q hq => ?_⟩
  · refine Rows.snoc ⟨hR.1, fun i r' row' a b => row_upd (row_off (hR.2 i r' row' a b) ?_ o t) h5 (hn r' (List.mem_of_getElem? a)).2⟩ ⟨vs, by rw [upd_ne FM.symm]; exact hM, ha.keep (tk_upd h5)⟩
    exact (ne_of_none hr0 (hn r' (List.mem_of_getElem? a)).1).symm
  · refine List.nodup_append.mpr ⟨nd, List.nodup_cons.mpr ⟨by simp, List.nodup_nil⟩, fun a ha' b hb e => ?_⟩
    have hb : b = M := List.mem_singleton.mp hb
    subst hb
    subst e
    obtain ⟨i, hi⟩ := List.getElem?_of_mem ha'
    have hil := (List.getElem?_eq_some_iff.mp hi).1
    obtain ⟨vs', hv, _⟩ := hR.2 i a _ hi (List.getElem?_eq_getElem (by rw [← hR.1]; exact hil))
    rw [nM] at hv
    cases hv
  · rcases List.mem_append.mp hq with z | z
    · exact hn q z
    · rw [List.mem_singleton.mp z]; exact ⟨fM, FM.symm⟩
section
variable {P : Program} {w : World} {K : PySem.W.Frag} {mg : Str → Option Value} {base : Heap}
def spLLay : Sp := fun vs H Q _ => ∃ (r : Addr) (k n m : Nat) (g : Int), vs = [.ref r, .int (n : Int), .int (m : Int), .int g] ∧ Reel H r k ∧ k + 20000 < most ∧ 1 ≤ n ∧ n ≤ 6 ∧ 1 ≤ m ∧ m ≤ 16 ∧ 1 ≤ g ∧ g ≤ 1000000000 ∧
  ∀ (H' : Hp) (p : Addr) (L : List (List Actn)), Off r H H' → H p = none → Reel H' r (k + 10000) → FL H p L H' → LayOk L m → L.length = n → Q (.ref p) H'
theorem ok__law_layout (bt : Bt mg) (a : At K mg "_law_layout" s__law_layout ["_law_reel_here", "_law_layers", "_law_keys", "_law_longest"]) (c__law_action : Cl P w K mg base 3 "_law_action" spLAct) : Cl P w K mg base 4 "_law_layout" spLLay := by
  refine clG a sc__law_layout (fun vs H Q E h => ?_) (fun f cdv A outer s H vs Q hg hr h => ?_)
  · obtain ⟨r, k, n, m, g, rfl, _⟩ := h
    rfl
  · obtain ⟨r, k, n, m, g, rfl, hR, hk, n1, n6, m1, m16, g1, g2, q⟩ := h
    have hk : k + 20000 < 1000000000 := hk
    obtain ⟨_, _, _, hr0, _⟩ := id hR
    refine ⟨_, (pss_cons (ps_set (i := 4) sc__law_layout.nd rfl (Or.inl rfl) (pe_lst pa_nil))
      (pss_cons (ps_for PassesOwn.never rfl (pi_range1 (by rfl) bt.m_range (pa_cons (pv 1) pa_nil)) (pg_name (i := 5) sc__law_layout.nd rfl (Or.inr rfl)) (pss_one (ps_expr (pe_bm PySem.F.plainAttrs_list PySem.F.slot_list_append PySem.F.type_list_append mt_append (pv 4) (pa_cons (pe_lc (own := [("_law_key", 6)]) (g := (gName 6)) (by rfl) sc__law_layout.nd (pi_range1 (by rfl) bt.m_range (pa_cons (pv 2) pa_nil)) (blkOk_by (N := n__law_layout) (sc := defScope s__law_layout) (by decide +kernel)) (fun _ _ _ _ _ => (pg_name (i := 6) sc__law_layout.nd rfl (Or.inl rfl))) (fun _ _ _ _ _ => pts_nil) (fun _ _ _ _ _ => (pe_cl c__law_action hg hr (by decide) (by rfl) (pa_cons (pv 0) (pa_cons (pv 5) (pa_cons (pv 1) (pa_cons (pv 3) pa_nil))))))) pa_nil)))))
      (pss_one (ps_ret (pv 4))))), ?_⟩
    refine ⟨Nat.zero_le _, fun F nF => ?_⟩
    have fl0 : FL H F [] (upd H F (.lst [])) := ⟨[], upd_same, ⟨rfl, fun i r row h _ => by simp at h⟩, List.nodup_nil, fun r h => by simp at h⟩
    have Fr : F ≠ r := (ne_of_none hr0 nF).symm
    refine ⟨_, rfl, (n : Int), rfl, by omega, by omega, for_it walk_range (fun i σ H' => (∃ y5 y6, σ = [some (.ref r), some (.int (n : Int)), some (.int (m : Int)), some (.int g), some (.ref F), y5, y6]) ∧ Off r H H' ∧ Reel H' r (k + 1600 * i) ∧ ∃ L, FL H F L H' ∧ L.length = i ∧ (∀ row ∈ L, row.length = m) ∧ ∀ (i' : Nat) row, L[i']? = some row → ∀ x ∈ row, ActOk n i' x)
      ⟨⟨_, _, rfl⟩, Off.of (same_upd nF), hR.same (same_upd nF), [], fl0, rfl, fun row h => by simp at h, fun i' row h => by simp at h⟩ (fun _ _ _ _ _ => True.intro) (fun i x σ Hx H1 hi p y => ?_) (fun σ H1 p => ?_)⟩
    · obtain ⟨⟨y5, y6, rfl⟩, o1, R1, L, fl, hL, hlen, hok⟩ := p
      obtain ⟨rfl, hx⟩ := y
      have hx : x = .int (0 + (i : Int)) := hx
      have e0 : (0 : Int) + (i : Int) = (i : Int) := Int.zero_add _
      rw [e0] at hx
      subst hx
      have hi6 : i < 6 := by omega
      obtain ⟨rs, hF, _⟩ := id fl
      refine ⟨_, rfl, .inl ⟨rfl, _, SqL.of hF⟩, _, rfl, (m : Int), rfl, by omega, by omega, fun M nM => lc_it walk_range (fun j H' => Off r H1 H' ∧ Reel H' r (k + 1600 * i + 100 * j) ∧ ∃ vs xs, H' M = some (.lst vs) ∧ Acts H' vs xs ∧ xs.length = j ∧ ∀ x ∈ xs, ActOk n i x) ?_ (fun _ _ _ _ => True.intro) (fun j x Hx H2 hj p y => ?_) (fun H2 p => ?_)⟩
      · exact ⟨Off.of (same_upd nM), R1.same (same_upd nM), [], [], upd_same, Acts.nil, rfl, fun x h => by simp at h⟩
      · obtain ⟨o2, R2, vs, xs, hM, hA, hxl, hxo⟩ := p
        obtain ⟨rfl, rfl⟩ := y
        obtain ⟨_, _, _, hr1, _⟩ := id R1
        have Mr : M ≠ r := (ne_of_none hr1 nM).symm
        have hj16 : j < 16 := by omega
        refine ⟨rfl, ⟨_, rfl, _, rfl, _, rfl, _, rfl, r, k + 1600 * i + 100 * j, i, n, g, rfl, R2, by show _ < 1000000000; omega, by omega, by omega, by omega, g1, g2, fun H3 v x o3 R3 hv ok => ?_⟩⟩
        have hM3 := o3 _ _ hM Mr
        have hvl := hA.1
        refine ⟨vs, hM3, small1000 (by omega), (o2.trans o3).new nM, ?_, vs ++ [v], xs ++ [x], upd_same, ?_, by rw [List.length_append, hxl]; rfl, fun z hz => ?_⟩
        · obtain ⟨x, y, z, g, g'⟩ := R3
          exact ⟨x, y, z, by rw [upd_ne Mr.symm]; exact g, by have := g'; omega⟩
        · exact ((hA.keep (R2.tk o3)).snoc hv).keep (tk_upd hM3)
        · rcases List.mem_append.mp hz with q | q
          · exact hxo z q
          · rw [List.mem_singleton.mp q]; exact ok
      · obtain ⟨o2, R2, vs, xs, hM, hA, hxl, hxo⟩ := p
        obtain ⟨_, _, _, hr1, _⟩ := id R1
        obtain ⟨acc, hF2, hal, fl2⟩ := fl.more nF hr0 (o1.free hr1 nM) nM o2 (R1.tk o2) hM hA
        refine ⟨F, acc, .ref M, rfl, rfl, hF2, small1000 (by omega), ⟨_, _, rfl⟩, (o1.trans o2).new nF, ?_, L ++ [xs], fl2, by rw [List.length_append, hL]; rfl, fun row hrow => ?_, fun i' row hrow => ?_⟩
        · obtain ⟨x, y, z, g, g'⟩ := R2
          exact ⟨x, y, z, by rw [upd_ne Fr.symm]; exact g, by have := g'; omega⟩
        · rcases List.mem_append.mp hrow with z | z
          · exact hlen row z
          · rw [List.mem_singleton.mp z, hxl]; omega
        · rcases Nat.lt_or_ge i' L.length with z | z
          · rw [List.getElem?_append_left z] at hrow
            exact hok i' row hrow
          · have hi' : i' = L.length := by
              have := (List.getElem?_eq_some_iff.mp hrow).1
              rw [List.length_append] at this
              simp at this
              omega
            subst hi'
            rw [List.getElem?_append_right (Nat.le_refl _), Nat.sub_self] at hrow
            have e : xs = row := Option.some.inj hrow
            subst e
            rw [hL]
            exact hxo
    · obtain ⟨⟨y5, y6, rfl⟩, o1, R1, L, fl, hL, hlen, hok⟩ := p
      have hL : L.length = n := by omega
      refine ⟨_, rfl, q _ F L o1 nF (R1.mono (by omega)) fl ⟨by omega, by omega, m1, m16, hlen, ?_⟩ hL⟩
      rw [hL]
      exact hok
end
end K65

set_option Elab.async false
set_option linter.all false
set_option maxRecDepth 100000
set_option maxHeartbeats 8000000
namespace K65
open PySem PySem.Spec PyProof.Rows L2 Gd Rm La
def isD : Actn → Bool
  | .dualC .. => true
  | .dualL .. => true
  | _ => false
theorem strOk_code {c : Str} (h : CodeOk c) : PyData.strOk c = true := by
  unfold PyData.strOk
  rw [← Array.all_toList, List.all_eq_true]
  intro x hx
  have := Tx.code_low h x hx
  exact decide_eq_true (by omega)
def otherW : List Str := ["none", "through", "code", "layer", "dual"]
theorem strOk_word : ∀ c ∈ layWords ++ rules ++ otherW, PyData.strOk c = true := by decide +kernel
theorem shaped_act {n i : Int} {x : Actn} (h : ActOk n i x) : SeqAt.shaped (actD x) = true := by
  have w : ∀ c : Str, c ∈ layWords ++ rules ++ otherW → PyData.strOk c = true := strOk_word
  cases x with
  | none => decide +kernel
  | thr => decide +kernel
  | code c => simp [SeqAt.shaped, actD, PyData.canLay0, PyData.canLayAll0, PyData.depth, PyData.depthAll, w "code" (by decide +kernel), strOk_code h]
  | lay u j => simp [SeqAt.shaped, actD, PyData.canLay0, PyData.canLayAll0, PyData.depth, PyData.depthAll, w u (List.mem_append_left _ (List.mem_append_left _ h.1))]
  | dualC c d t r => simp [SeqAt.shaped, actD, PyData.canLay0, PyData.canLayAll0, PyData.depth, PyData.depthAll, w "code" (by decide +kernel), w "dual" (by decide +kernel), strOk_code h.1, strOk_code h.2.1, w r (List.mem_append_left _ (List.mem_append_right _ h.2.2.2))]
  | dualL c j t r => simp [SeqAt.shaped, actD, PyData.canLay0, PyData.canLayAll0, PyData.depth, PyData.depthAll, w "layer" (by decide +kernel), w "dual" (by decide +kernel), strOk_code h.1, w r (List.mem_append_left _ (List.mem_append_right _ h.2.2.2))]
def isN : Actn → Bool
  | .none => true
  | _ => false
def isTh : Actn → Bool
  | .thr => true
  | _ => false
theorem eqv_none : ∀ x : Actn, PyData.eqv (actD x) (.str "none") = isN x
  | .none => by decide +kernel
  | .thr => by decide +kernel
  | .code _ => rfl
  | .lay _ _ => rfl
  | .dualC _ _ _ _ => rfl
  | .dualL _ _ _ _ => rfl
theorem eqv_thr : ∀ x : Actn, PyData.eqv (actD x) (.str "through") = isTh x
  | .none => by decide +kernel
  | .thr => by decide +kernel
  | .code _ => rfl
  | .lay _ _ => rfl
  | .dualC _ _ _ _ => rfl
  | .dualL _ _ _ _ => rfl
theorem eqS {a b : Str} {p : Bool} (h : decide (a = b) = p) : V.bl (decide (V.str a = V.str b)) = .bl p := by
  rw [← h]
  exact congrArg V.bl (by by_cases z : a = b <;> simp [z])
theorem digs_in : ∀ c < 58, 48 ≤ c → c ∈ ((("0123456789" : String) : Str)).cps.toList := by decide +kernel
section
variable {P : Program} {w : World} {K : PySem.W.Frag} {mg : Str → Option Value} {base : Heap}
def spDual : Sp := fun vs H Q _ => ∃ (v : V) (x : Actn) (n i : Int), vs = [v] ∧ ActV H x v ∧ ActOk n i x ∧ Q (.bl (isD x)) H
theorem ok_is_dual (bt : Bt mg) (a : At K mg "is_dual" s_is_dual ["action"]) : Cl P w K mg base 1 "is_dual" spDual := by
  refine clG a sc_is_dual (fun vs H Q E h => ?_) (fun f cdv A outer s H vs Q hg hr h => ?_)
  · obtain ⟨v, x, n, i, rfl, _⟩ := h
    rfl
  · obtain ⟨v, x, n, i, rfl, hv, hx, q⟩ := h
    refine ⟨_, (pss_one (ps_ret (pe_and (pe_callB call_isi (by rfl) bt.m_isinstance (by decide +kernel) (pa_cons (pv 0) (pa_cons (pe_bltn (v := .ty "tuple") (by rfl) bt.m_tuple (by decide +kernel) rfl) pa_nil))) (pe_one (pe_cmpR op_eq (pe_ix ix_tup (pv 0) pe_int (fun _ _ => rfl)) pe_str (nomark _)))))), ?_⟩
    have wd : ∀ (c : Str) (b : Bool), decide (c = (("dual" : String) : Str)) = b → Q (.bl b) H → Q (.bl (decide (V.str c = V.str "dual"))) H := fun c b e q => by
      have : decide (V.str c = V.str "dual") = b := by rw [← e]; by_cases z : c = (("dual" : String) : Str) <;> simp [z]
      rw [this]
      exact q
    cases x with
    | none =>
      cases hv
      exact ⟨_, rfl, _, _, _, _, false, rfl, .ty "tuple", .base (.str _), kit_ty (by decide +kernel), _, rfl, iteF q⟩
    | thr =>
      cases hv
      exact ⟨_, rfl, _, _, _, _, false, rfl, .ty "tuple", .base (.str _), kit_ty (by decide +kernel), _, rfl, iteF q⟩
    | code c =>
      obtain ⟨a, rfl, ha⟩ := hv
      exact ⟨_, rfl, _, _, _, _, true, rfl, .ty "tuple", .base (.tup ha), kit_ty (by decide +kernel), _, rfl, iteT ⟨_, rfl, a, _, 0, .str "code", rfl, rfl, SqT.of ha, atI_nat (j := 0) rfl, rfl, wd _ false (by decide +kernel) q⟩⟩
    | lay u j =>
      obtain ⟨a, rfl, ha⟩ := hv
      have hu : decide (u = (("dual" : String) : Str)) = false := by
        refine decide_eq_false ?_
        rintro rfl
        have := hx.1
        revert this
        decide +kernel
      exact ⟨_, rfl, _, _, _, _, true, rfl, .ty "tuple", .base (.tup ha), kit_ty (by decide +kernel), _, rfl, iteT ⟨_, rfl, a, _, 0, .str u, rfl, rfl, SqT.of ha, atI_nat (j := 0) rfl, rfl, wd _ false hu q⟩⟩
    | dualC c d t r =>
      obtain ⟨a, b, rfl, ha, hb⟩ := hv
      exact ⟨_, rfl, _, _, _, _, true, rfl, .ty "tuple", .base (.tup ha), kit_ty (by decide +kernel), _, rfl, iteT ⟨_, rfl, a, _, 0, .str "dual", rfl, rfl, SqT.of ha, atI_nat (j := 0) rfl, rfl, wd _ true (by decide +kernel) q⟩⟩
    | dualL c j t r =>
      obtain ⟨a, b, rfl, ha, hb⟩ := hv
      exact ⟨_, rfl, _, _, _, _, true, rfl, .ty "tuple", .base (.tup ha), kit_ty (by decide +kernel), _, rfl, iteT ⟨_, rfl, a, _, 0, .str "dual", rfl, rfl, SqT.of ha, atI_nat (j := 0) rfl, rfl, wd _ true (by decide +kernel) q⟩⟩
def spNum : Sp := fun vs H Q _ => ∃ (s : Str) (n : Nat), vs = [.str s] ∧ TL.tl s = TL.numL n ∧ 1 ≤ n ∧ s.length ≤ 10 ∧ ∀ H', Same H H' → Q (.bl true) H'
theorem ok_is_number (bt : Bt mg) {tk1 tk2 : Tok} (m_MOST_DIGITS : mg "MOST_DIGITS" = some (.int 30 tk1)) (m_DIGITS : mg "DIGITS" = some (.str "0123456789" tk2)) (a : At K mg "is_number" s_is_number ["text"]) : Cl P w K mg base 1 "is_number" spNum := by
  refine clG a sc_is_number (fun vs H Q E h => ?_) (fun f cdv A outer s H vs Q hg hr h => ?_)
  · obtain ⟨c, b, rfl, _⟩ := h
    rfl
  · obtain ⟨c, n, rfl, ht, hn, hl, q⟩ := h
    refine ⟨_, (pss_cons (ps_if (PW.pt (pw_or (pt_not (pt_chain op_le op_le pe_int (pe_callB call_len_str (by rfl) bt.m_len (by decide +kernel) (pa_cons (pv 0) pa_nil)) (pe_glob (v := .int 30) (by rfl) m_MOST_DIGITS ⟨_, rfl⟩))) (pw_or1 (pt_not (pt_val (pe_callB (cr_all rfl) (by rfl) bt.m_all (by decide +kernel) (pa_cons (pe_lc (own := [("sign", 1)]) (g := (gName 1)) (by rfl) sc_is_number.nd (pi_str (pv 0)) (blkOk_by (N := n_is_number) (sc := defScope s_is_number) (by decide +kernel)) (fun _ _ _ _ _ => (pg_name (i := 1) sc_is_number.nd rfl (Or.inl rfl))) (fun _ _ _ _ _ => pts_nil) (fun _ _ _ _ _ => (pe_cmpR op_in_sign (pv 1) (pe_glob (v := .str "0123456789") (by rfl) m_DIGITS ⟨_, rfl⟩) rfl))) pa_nil))))))) (pss_one (ps_ret pe_bl)) pss_nil)
      (pss_one (ps_ret (pe_or (pe_cmpR op_eq (pv 0) pe_str (nomark _)) (pe_one (pe_cmpR op_ne (pe_ix ix_str (pv 0) pe_int (fun _ _ => rfl)) pe_str (nomark _))))))), ?_⟩
    obtain ⟨d, r, er, hd⟩ := Tx.numL_head n hn
    have hdig : ∀ x ∈ c.cps.toList, x ∈ ((("0123456789" : String) : Str)).cps.toList := fun x hx => by
      have hx' : x ∈ TL.tl c := hx
      rw [ht] at hx'
      have := Tx.numL_low hx'
      exact digs_in x (by omega) this.1
    have l1 : 1 ≤ c.length := by rw [TL.len_tl, ht, er]; exact Nat.succ_le_succ (Nat.zero_le _)
    have hcl : c.cps.toList.length = c.length := Array.length_toList
    refine ⟨_, rfl, c, rfl, (by rw [sizeLine_eq]; omega), _, _, rfl, rfl, true, congrArg V.bl (decide_eq_true (by omega)), iteT ⟨_, _, rfl, rfl, true, congrArg V.bl (decide_eq_true (by omega)), ?_⟩⟩
    refine iteF ⟨_, rfl, c, rfl, fun L nL => lc_it (walk_str (z := c)) (fun i H' => H' = upd H L (.lst ((List.replicate i true).map V.bl))) rfl (fun _ _ _ _ => True.intro) (fun i x H2 H3 hi p y => ?_) (fun H2 p => ?_)⟩
    · obtain ⟨rfl, d, hd, rfl⟩ := y
      subst p
      have hm := hdig d (by rw [Array.mem_toList_iff]; exact Array.mem_of_getElem? hd)
      refine ⟨rfl, ⟨_, rfl, d, _, rfl, rfl, _, upd_same, ?_, ?_⟩⟩
      · have hi' : i < c.length := hi
        rw [List.length_map, List.length_replicate]; exact small1000 (by omega)
      · rw [decide_eq_true hm, upd_upd, List.replicate_succ', List.map_append]; rfl
    · subst p
      refine ⟨L, _, rfl, SqL.of upd_same, _, rfl, ?_⟩
      rw [allTrue]
      refine iteF ?_
      have n0 : decide (c = (("0" : String) : Str)) = false := decide_eq_false fun z => by
        have e := congrArg TL.tl z
        rw [ht, er] at e
        have e2 : TL.tl (("0" : String) : Str) = [48] := by decide +kernel
        rw [e2] at e
        exact hd (List.cons.inj e).1
      refine ⟨_, rfl, rfl, false, eqS n0, iteF ⟨_, rfl, c, 0, d, rfl, rfl, (by rw [sizeLine_eq]; omega), ?_, ?_⟩⟩
      · have e : TL.tl c = d :: r := ht.trans er
        exact atI_nat (j := 0) (by show (TL.tl c)[0]? = some d; rw [e]; rfl)
      · refine ⟨rfl, ?_⟩
        have e0 : (("0" : String) : Str) = ⟨#[48]⟩ := by decide +kernel
        have e : decide (V.str ⟨#[d]⟩ = V.str (("0" : String) : Str)) = false := decide_eq_false fun z => by
          rw [e0] at z
          have := V.str.inj z
          injection this with this
          injection this with this
          exact hd (List.cons.inj this).1
        show Q (.bl (!decide (V.str ⟨#[d]⟩ = V.str (("0" : String) : Str)))) _
        rw [e]
        exact q _ (same_upd nL)
/-- a def of which nothing is asked -/
theorem Cl.no {x : Str} {st : Stmt} {ps : List Str} {k : Nat} (a : At K mg x st ps) : Cl P w K mg base k x (fun _ _ _ _ => False) := by
  obtain ⟨f, fd, F, hm, b⟩ := a.ex
  exact ⟨f, fd, ps, ⟨fun _ _ _ _ h => h.elim, fun _ _ _ _ _ _ _ _ _ _ _ _ _ h => h.elim⟩, hm, F.kp, b⟩
end
end K65

set_option Elab.async false
set_option linter.all false
set_option maxRecDepth 100000
set_option maxHeartbeats 8000000
namespace K65
open PySem PySem.Spec PyProof.Rows L2 Gd Rm La
def lsg : Str := "@!^"
def rsgs : Str := "tow"
theorem lsg_at {w : Str} (h : w ∈ layWords) : ∃ c, atI lsg.cps.toList (((layWords.idxOf w : Nat) : Int)) = some c ∧ Tx.sgn w = ⟨#[c]⟩ := by
  unfold layWords at h
  simp only [List.mem_cons, List.mem_nil_iff, or_false] at h
  rcases h with rfl | rfl | rfl
  · exact ⟨64, by decide +kernel, by decide +kernel⟩
  · exact ⟨33, by decide +kernel, by decide +kernel⟩
  · exact ⟨94, by decide +kernel, by decide +kernel⟩
theorem rsg_at {r : Str} (h : r ∈ rules) : ∃ c, atI rsgs.cps.toList (((rules.idxOf r : Nat) : Int)) = some c ∧ Tx.rsg r = ⟨#[c]⟩ := by
  unfold rules at h
  simp only [List.mem_cons, List.mem_nil_iff, or_false] at h
  rcases h with rfl | rfl | rfl
  · exact ⟨116, by decide +kernel, by decide +kernel⟩
  · exact ⟨111, by decide +kernel, by decide +kernel⟩
  · exact ⟨119, by decide +kernel, by decide +kernel⟩
theorem log_low {i : Int} (h0 : 0 ≤ i) (h : i ≤ 1000000000) : i.natAbs.log2 < 1920 := by
  by_cases z : i.natAbs = 0
  · rw [z]; decide
  · rw [Nat.log2_lt z]
    have : (2 : Nat) ^ 1920 > 1000000000 := by decide
    omega
section
variable {P : Program} {w : World} {K : PySem.W.Frag} {mg : Str → Option Value} {base : Heap}
def spATx0 : Sp := fun vs H Q _ => ∃ (v : V) (x : Actn) (n i : Int), vs = [v] ∧ ActV H x v ∧ ActOk n i x ∧ n ≤ 1000 ∧ isD x = false ∧ Q (.str (Tx.wtx x)) H
def spATx : Sp := fun vs H Q _ => ∃ (v : V) (x : Actn) (n i : Int), vs = [v] ∧ ActV H x v ∧ ActOk n i x ∧ n ≤ 1000 ∧ Q (.str (Tx.wtx x)) H
theorem ok_action_text0 (bt : Bt mg) {tk1 tk2 : Tok} {g_RULES g_LAYER_WORDS : Addr} (m_RULES : mg "RULES" = some (.ref g_RULES)) (t_RULES : ∀ H, SqT K H g_RULES (rules.map V.str)) (m_LAYER_WORDS : mg "LAYER_WORDS" = some (.ref g_LAYER_WORDS)) (t_LAYER_WORDS : ∀ H, SqT K H g_LAYER_WORDS (layWords.map V.str))
    (n_RULES : ∃ o : Obj, K.lookup g_RULES = some o ∧ o.cls = .type "tuple" ∧ o.dict = none) (n_LAYER_WORDS : ∃ o : Obj, K.lookup g_LAYER_WORDS = some o ∧ o.cls = .type "tuple" ∧ o.dict = none)
    (m_LAYER_SIGNS : mg "LAYER_SIGNS" = some (.str "@!^" tk1)) (m_RULE_SIGNS : mg "RULE_SIGNS" = some (.str "tow" tk2)) (a : At K mg "action_text" s_action_text ["action"]) (c_is_dual : Cl P w K mg base 1 "is_dual" spDual) : Cl P w K mg base 2 "action_text" spATx0 := by
  have c_action_text : Cl P w K mg base 1 "action_text" (fun _ _ _ _ => False) := Cl.no a
  refine clG a sc_action_text (fun vs H Q E h => ?_) (fun f cdv A outer s H vs Q hg hr h => ?_)
  · obtain ⟨v, x, n, i, rfl, _⟩ := h
    rfl
  · obtain ⟨v, x, n, i, rfl, hv, hx, hn, hd, q⟩ := h
    refine ⟨_, (pss_cons (ps_if (pt_cmpR (op_eqD hr.units) (pv 0) pe_str (nomark _)) (pss_one (ps_ret pe_str)) pss_nil)
      (pss_cons (ps_if (pt_cmpR (op_eqD hr.units) (pv 0) pe_str (nomark _)) (pss_one (ps_ret pe_str)) pss_nil)
      (pss_cons (ps_if (pt_val (pe_cl c_is_dual hg hr (by decide) (by rfl) (pa_cons (pv 0) pa_nil))) (pss_cons (ps_asg (pv 0) (pg_tup rfl (pgs_cons (pg_name (i := 1) sc_action_text.nd rfl (Or.inl rfl)) (pgs_cons (pg_name (i := 2) sc_action_text.nd rfl (Or.inl rfl)) (pgs_cons (pg_name (i := 3) sc_action_text.nd rfl (Or.inl rfl)) (pgs_cons (pg_name (i := 4) sc_action_text.nd rfl (Or.inl rfl)) (pgs_cons (pg_name (i := 5) sc_action_text.nd rfl (Or.inl rfl)) pgs_nil)))))))
      (pss_one (ps_ret (pe_joined (PJ.cons (pe_fmt (pv 2)) (PJ.cons pe_str (PJ.cons (pe_fmt (pe_cl c_action_text hg hr (by decide) (by rfl) (pa_cons (pv 3) pa_nil))) (PJ.cons pe_str (PJ.cons (pe_fmt (pv 4)) (PJ.cons (pe_fmt (pe_ix ix_str (pe_glob (v := .str "tow") (by rfl) m_RULE_SIGNS ⟨_, rfl⟩) (pe_bm PySem.F.plainAttrs_tuple PySem.F.slot_tuple_index PySem.F.type_tuple_index Tx.mt_tindex (pe_glob (v := .ref g_RULES) (by rfl) m_RULES rfl) (pa_cons (pv 5) pa_nil)) (fun _ _ => rfl))) PJ.nil)))))))))) pss_nil)
      (pss_cons (ps_asg (pv 0) (pg_tup rfl (pgs_cons (pg_name (i := 6) sc_action_text.nd rfl (Or.inl rfl)) (pgs_cons (pg_name (i := 7) sc_action_text.nd rfl (Or.inl rfl)) pgs_nil))))
      (pss_one (ps_ret (pe_ifExp (pt_cmpR op_eq (pv 6) pe_str (nomark _)) (pv 7) (pe_op op_add_str (pe_ix ix_str (pe_glob (v := .str "@!^") (by rfl) m_LAYER_SIGNS ⟨_, rfl⟩) (pe_bm PySem.F.plainAttrs_tuple PySem.F.slot_tuple_index PySem.F.type_tuple_index Tx.mt_tindex (pe_glob (v := .ref g_LAYER_WORDS) (by rfl) m_LAYER_WORDS rfl) (pa_cons (pv 6) pa_nil)) (fun _ _ => rfl)) (pe_callTy Tx.call_strB (by rfl) bt.m_str (by decide +kernel) (pa_cons (pv 7) pa_nil)))))))))), ?_⟩
    refine ⟨_, rfl, _, _, hv.dp, .str _, shaped_act hx, by decide +kernel, isN x, congrArg V.bl (eqv_none x), ?_⟩
    cases x with
    | none => exact iteT q
    | thr =>
      refine iteF ⟨_, rfl, _, _, hv.dp, .str _, shaped_act hx, by decide +kernel, isTh .thr, congrArg V.bl (eqv_thr .thr), iteT q⟩
    | code c =>
      refine iteF ⟨_, rfl, _, _, hv.dp, .str _, shaped_act hx, by decide +kernel, isTh (.code c), congrArg V.bl (eqv_thr (.code c)), iteF ?_⟩
      refine ⟨_, rfl, v, .code c, n, i, rfl, hv, hx, _, rfl, iteF ?_⟩
      obtain ⟨a, rfl, ha⟩ := hv
      refine ⟨_, rfl, a, _, rfl, SqT.of ha, rfl, _, _, rfl, _, _, rfl, rfl, ?_⟩
      exact ⟨_, rfl, rfl, true, rfl, iteT ⟨_, rfl, q⟩⟩
    | lay u j =>
      refine iteF ⟨_, rfl, _, _, hv.dp, .str _, shaped_act hx, by decide +kernel, isTh (.lay u j), congrArg V.bl (eqv_thr (.lay u j)), iteF ?_⟩
      refine ⟨_, rfl, v, .lay u j, n, i, rfl, hv, hx, _, rfl, iteF ?_⟩
      obtain ⟨a, rfl, ha⟩ := hv
      obtain ⟨x1, x2, x3⟩ := hx
      have hu : decide (u = (("code" : String) : Str)) = false := by
        refine decide_eq_false ?_
        rintro rfl
        revert x1
        decide +kernel
      refine ⟨_, rfl, a, _, rfl, SqT.of ha, rfl, _, _, rfl, _, _, rfl, rfl, ?_⟩
      refine ⟨_, rfl, rfl, false, eqS hu, iteF ?_⟩
      obtain ⟨c, hc, es⟩ := lsg_at x1
      refine ⟨.inr (.inl ⟨rfl, n_LAYER_WORDS⟩), _, rfl, _, layWords, u, rfl, rfl, t_LAYER_WORDS _, x1, lsg, _, c, rfl, rfl, (by decide +kernel), hc, ?_⟩
      have hs := Tx.numS_len (i := j) (by omega) (by omega)
      refine ⟨_, rfl, .inr ⟨j, rfl, log_low (by omega) (by omega), _, _, rfl, rfl, ?_, ?_⟩⟩
      · have : ((⟨#[c]⟩ : Str)).length = 1 := rfl
        rw [sizeLine_eq]; omega
      · rw [Tx.wtx, es] at q
        exact q
    | dualC c d t r => cases hd
    | dualL c j t r => cases hd
theorem ok_action_text (bt : Bt mg) {tk1 tk2 : Tok} {g_RULES g_LAYER_WORDS : Addr} (m_RULES : mg "RULES" = some (.ref g_RULES)) (t_RULES : ∀ H, SqT K H g_RULES (rules.map V.str)) (m_LAYER_WORDS : mg "LAYER_WORDS" = some (.ref g_LAYER_WORDS)) (t_LAYER_WORDS : ∀ H, SqT K H g_LAYER_WORDS (layWords.map V.str))
    (n_RULES : ∃ o : Obj, K.lookup g_RULES = some o ∧ o.cls = .type "tuple" ∧ o.dict = none) (n_LAYER_WORDS : ∃ o : Obj, K.lookup g_LAYER_WORDS = some o ∧ o.cls = .type "tuple" ∧ o.dict = none)
    (m_LAYER_SIGNS : mg "LAYER_SIGNS" = some (.str "@!^" tk1)) (m_RULE_SIGNS : mg "RULE_SIGNS" = some (.str "tow" tk2)) (a : At K mg "action_text" s_action_text ["action"]) (c_is_dual : Cl P w K mg base 1 "is_dual" spDual) (c_action_text : Cl P w K mg base 2 "action_text" spATx0) : Cl P w K mg base 3 "action_text" spATx := by
  refine clG a sc_action_text (fun vs H Q E h => ?_) (fun f cdv A outer s H vs Q hg hr h => ?_)
  · obtain ⟨v, x, n, i, rfl, _⟩ := h
    rfl
  · obtain ⟨v, x, n, i, rfl, hv, hx, hn, q⟩ := h
    refine ⟨_, (pss_cons (ps_if (pt_cmpR (op_eqD hr.units) (pv 0) pe_str (nomark _)) (pss_one (ps_ret pe_str)) pss_nil)
      (pss_cons (ps_if (pt_cmpR (op_eqD hr.units) (pv 0) pe_str (nomark _)) (pss_one (ps_ret pe_str)) pss_nil)
      (pss_cons (ps_if (pt_val (pe_cl c_is_dual hg hr (by decide) (by rfl) (pa_cons (pv 0) pa_nil))) (pss_cons (ps_asg (pv 0) (pg_tup rfl (pgs_cons (pg_name (i := 1) sc_action_text.nd rfl (Or.inl rfl)) (pgs_cons (pg_name (i := 2) sc_action_text.nd rfl (Or.inl rfl)) (pgs_cons (pg_name (i := 3) sc_action_text.nd rfl (Or.inl rfl)) (pgs_cons (pg_name (i := 4) sc_action_text.nd rfl (Or.inl rfl)) (pgs_cons (pg_name (i := 5) sc_action_text.nd rfl (Or.inl rfl)) pgs_nil)))))))
      (pss_one (ps_ret (pe_joined (PJ.cons (pe_fmt (pv 2)) (PJ.cons pe_str (PJ.cons (pe_fmt (pe_cl c_action_text hg hr (by decide) (by rfl) (pa_cons (pv 3) pa_nil))) (PJ.cons pe_str (PJ.cons (pe_fmt (pv 4)) (PJ.cons (pe_fmt (pe_ix ix_str (pe_glob (v := .str "tow") (by rfl) m_RULE_SIGNS ⟨_, rfl⟩) (pe_bm PySem.F.plainAttrs_tuple PySem.F.slot_tuple_index PySem.F.type_tuple_index Tx.mt_tindex (pe_glob (v := .ref g_RULES) (by rfl) m_RULES rfl) (pa_cons (pv 5) pa_nil)) (fun _ _ => rfl))) PJ.nil)))))))))) pss_nil)
      (pss_cons (ps_asg (pv 0) (pg_tup rfl (pgs_cons (pg_name (i := 6) sc_action_text.nd rfl (Or.inl rfl)) (pgs_cons (pg_name (i := 7) sc_action_text.nd rfl (Or.inl rfl)) pgs_nil))))
      (pss_one (ps_ret (pe_ifExp (pt_cmpR op_eq (pv 6) pe_str (nomark _)) (pv 7) (pe_op op_add_str (pe_ix ix_str (pe_glob (v := .str "@!^") (by rfl) m_LAYER_SIGNS ⟨_, rfl⟩) (pe_bm PySem.F.plainAttrs_tuple PySem.F.slot_tuple_index PySem.F.type_tuple_index Tx.mt_tindex (pe_glob (v := .ref g_LAYER_WORDS) (by rfl) m_LAYER_WORDS rfl) (pa_cons (pv 6) pa_nil)) (fun _ _ => rfl)) (pe_callTy Tx.call_strB (by rfl) bt.m_str (by decide +kernel) (pa_cons (pv 7) pa_nil)))))))))), ?_⟩
    refine ⟨_, rfl, _, _, hv.dp, .str _, shaped_act hx, by decide +kernel, isN x, congrArg V.bl (eqv_none x), ?_⟩
    cases x with
    | none => exact iteT q
    | thr =>
      refine iteF ⟨_, rfl, _, _, hv.dp, .str _, shaped_act hx, by decide +kernel, isTh .thr, congrArg V.bl (eqv_thr .thr), iteT q⟩
    | code c =>
      refine iteF ⟨_, rfl, _, _, hv.dp, .str _, shaped_act hx, by decide +kernel, isTh (.code c), congrArg V.bl (eqv_thr (.code c)), iteF ?_⟩
      refine ⟨_, rfl, v, .code c, n, i, rfl, hv, hx, _, rfl, iteF ?_⟩
      obtain ⟨a, rfl, ha⟩ := hv
      refine ⟨_, rfl, a, _, rfl, SqT.of ha, rfl, _, _, rfl, _, _, rfl, rfl, ?_⟩
      exact ⟨_, rfl, rfl, true, rfl, iteT ⟨_, rfl, q⟩⟩
    | lay u j =>
      refine iteF ⟨_, rfl, _, _, hv.dp, .str _, shaped_act hx, by decide +kernel, isTh (.lay u j), congrArg V.bl (eqv_thr (.lay u j)), iteF ?_⟩
      refine ⟨_, rfl, v, .lay u j, n, i, rfl, hv, hx, _, rfl, iteF ?_⟩
      obtain ⟨a, rfl, ha⟩ := hv
      obtain ⟨x1, x2, x3⟩ := hx
      have hu : decide (u = (("code" : String) : Str)) = false := by
        refine decide_eq_false ?_
        rintro rfl
        revert x1
        decide +kernel
      refine ⟨_, rfl, a, _, rfl, SqT.of ha, rfl, _, _, rfl, _, _, rfl, rfl, ?_⟩
      refine ⟨_, rfl, rfl, false, eqS hu, iteF ?_⟩
      obtain ⟨c, hc, es⟩ := lsg_at x1
      refine ⟨.inr (.inl ⟨rfl, n_LAYER_WORDS⟩), _, rfl, _, layWords, u, rfl, rfl, t_LAYER_WORDS _, x1, lsg, _, c, rfl, rfl, (by decide +kernel), hc, ?_⟩
      have hs := Tx.numS_len (i := j) (by omega) (by omega)
      refine ⟨_, rfl, .inr ⟨j, rfl, log_low (by omega) (by omega), _, _, rfl, rfl, ?_, ?_⟩⟩
      · have : ((⟨#[c]⟩ : Str)).length = 1 := rfl
        rw [sizeLine_eq]; omega
      · rw [Tx.wtx, es] at q
        exact q
    | dualC c d t r =>
      refine iteF ⟨_, rfl, _, _, hv.dp, .str _, shaped_act hx, by decide +kernel, isTh (.dualC c d t r), congrArg V.bl (eqv_thr (.dualC c d t r)), iteF ?_⟩
      refine ⟨_, rfl, v, .dualC c d t r, n, i, rfl, hv, hx, _, rfl, iteT ?_⟩
      obtain ⟨a, b, rfl, ha, hb⟩ := hv
      obtain ⟨x1, x2, ⟨x3, x4⟩, x5⟩ := hx
      have l1 := Tx.code_len x1
      have l2 := Tx.code_len x2
      have hs := Tx.numS_len (i := t) (by omega) (by omega)
      obtain ⟨z, hz, es⟩ := rsg_at x5
      have lz : ((⟨#[z]⟩ : Str)).length = 1 := rfl
      have ls : ((("/" : String) : Str)).length = 1 := by decide +kernel
      have lc : (((":" : String) : Str)).length = 1 := by decide +kernel
      refine ⟨_, rfl, a, _, rfl, SqT.of ha, rfl, _, _, rfl, _, _, rfl, _, _, rfl, _, _, rfl, _, _, rfl, rfl, ?_⟩
      have big : ∀ {n : Nat}, n ≤ 1000 → n ≤ sizeLine := fun h => by rw [sizeLine_eq]; omega
      refine ⟨_, rfl, .inl ⟨c, rfl, big (by omega), _, rfl, ?_, _, rfl, ?_, _, rfl, .ref b, .code d, n, i, rfl, ⟨b, rfl, hb⟩, x2, hn, rfl, .inl ⟨d, rfl, big (by omega), _, rfl, ?_, _, rfl, ?_, _, rfl, .inr ⟨t, rfl, log_low (by omega) (by omega), _, rfl, ?_,
        .inr (.inl ⟨rfl, n_RULES⟩), _, rfl, _, rules, r, rfl, rfl, t_RULES _, x5, rsgs, _, z, rfl, rfl, (by decide +kernel), hz, .inl ⟨_, rfl, big (by rw [lz]; omega), _, rfl, ?_, ?_⟩⟩⟩⟩⟩
      · rw [sizeLine_eq]; simp only [Tx.len_app, Tx.empty_app]; omega
      · rw [sizeLine_eq]; simp only [Tx.len_app, Tx.empty_app]; omega
      · rw [sizeLine_eq]; simp only [Tx.len_app, Tx.empty_app]; omega
      · rw [sizeLine_eq]; simp only [Tx.len_app, Tx.empty_app]; omega
      · have hs' : (Str.ofString (toString t)).length ≤ 10 := hs
        rw [sizeLine_eq]; simp only [Tx.len_app, Tx.empty_app]; omega
      · have hs' : (Str.ofString (toString t)).length ≤ 10 := hs
        rw [sizeLine_eq]; simp only [Tx.len_app, Tx.empty_app]; omega
      · rw [Tx.wtx, es] at q
        show Q (.str (Str.empty ++ c ++ "/" ++ d ++ ":" ++ Tx.numS t ++ ⟨#[z]⟩)) H
        rw [Tx.empty_app]
        exact q
    | dualL c j t r =>
      refine iteF ⟨_, rfl, _, _, hv.dp, .str _, shaped_act hx, by decide +kernel, isTh (.dualL c j t r), congrArg V.bl (eqv_thr (.dualL c j t r)), iteF ?_⟩
      refine ⟨_, rfl, v, .dualL c j t r, n, i, rfl, hv, hx, _, rfl, iteT ?_⟩
      obtain ⟨a, b, rfl, ha, hb⟩ := hv
      obtain ⟨x1, ⟨x2, x2'⟩, ⟨x3, x4⟩, x5⟩ := hx
      have l1 := Tx.code_len x1
      have l2 := (Tx.hold_lay (j := j) (by omega) (by omega)).2.2
      have hs := Tx.numS_len (i := t) (by omega) (by omega)
      obtain ⟨z, hz, es⟩ := rsg_at x5
      have lz : ((⟨#[z]⟩ : Str)).length = 1 := rfl
      have ls : ((("/" : String) : Str)).length = 1 := by decide +kernel
      have lc : (((":" : String) : Str)).length = 1 := by decide +kernel
      refine ⟨_, rfl, a, _, rfl, SqT.of ha, rfl, _, _, rfl, _, _, rfl, _, _, rfl, _, _, rfl, _, _, rfl, rfl, ?_⟩
      have big : ∀ {n : Nat}, n ≤ 1000 → n ≤ sizeLine := fun h => by rw [sizeLine_eq]; omega
      refine ⟨_, rfl, .inl ⟨c, rfl, big (by omega), _, rfl, ?_, _, rfl, ?_, _, rfl, .ref b, .lay "layer" j, n, i, rfl, ⟨b, rfl, hb⟩, ⟨Tx.lay_in, x2, x2'⟩, hn, rfl, .inl ⟨Tx.sgn "layer" ++ Tx.numS j, rfl, big (by omega), _, rfl, ?_, _, rfl, ?_, _, rfl, .inr ⟨t, rfl, log_low (by omega) (by omega), _, rfl, ?_,
        .inr (.inl ⟨rfl, n_RULES⟩), _, rfl, _, rules, r, rfl, rfl, t_RULES _, x5, rsgs, _, z, rfl, rfl, (by decide +kernel), hz, .inl ⟨_, rfl, big (by rw [lz]; omega), _, rfl, ?_, ?_⟩⟩⟩⟩⟩
      · rw [sizeLine_eq]; rw [Tx.len_app] at l2; simp only [Tx.len_app, Tx.empty_app]; omega
      · rw [sizeLine_eq]; rw [Tx.len_app] at l2; simp only [Tx.len_app, Tx.empty_app]; omega
      · rw [sizeLine_eq]; rw [Tx.len_app] at l2; simp only [Tx.len_app, Tx.empty_app]; omega
      · rw [sizeLine_eq]; rw [Tx.len_app] at l2; simp only [Tx.len_app, Tx.empty_app]; omega
      · have hs' : (Str.ofString (toString t)).length ≤ 10 := hs
        rw [sizeLine_eq]; rw [Tx.len_app] at l2; simp only [Tx.len_app, Tx.empty_app]; omega
      · have hs' : (Str.ofString (toString t)).length ≤ 10 := hs
        rw [sizeLine_eq]; rw [Tx.len_app] at l2; simp only [Tx.len_app, Tx.empty_app]; omega
      · rw [Tx.wtx, es] at q
        show Q (.str (Str.empty ++ c ++ "/" ++ (Tx.sgn "layer" ++ Tx.numS j) ++ ":" ++ Tx.numS t ++ ⟨#[z]⟩)) H
        rw [Tx.empty_app]
        exact q
end
end K65

set_option Elab.async false
set_option linter.all false
set_option maxRecDepth 100000
set_option maxHeartbeats 8000000
namespace K65
open PySem PySem.Spec PyProof.Rows L2 Gd Rm La
theorem rows_ok {L : List (List Actn)} {m : Nat} (h : LayOk L m) : ∀ xs ∈ L, Tx.RowsOk L.length xs := fun xs hx => by
  have hl := h.len xs hx
  have m1 := h.m1
  have m16 := h.m16
  obtain ⟨i, hi⟩ := List.getElem?_of_mem hx
  exact ⟨fun z => by rw [z] at hl; simp at hl; omega, by omega, fun x hx' => ⟨i, h.ok i xs hi x hx'⟩⟩
theorem lens_sum {ps : List Str} {k : Nat} (h : ∀ p ∈ ps, p.length ≤ k) : (ps.map (·.length)).sum + ps.length * 1 ≤ ps.length * (k + 1) := by
  have := Tx.sum_le h
  rw [Nat.mul_add]; omega
section
variable {P : Program} {w : World} {K : PySem.W.Frag} {mg : Str → Option Value} {base : Heap}
def spFmt : Sp := fun vs H Q _ => ∃ (c : Addr) (L : List (List Actn)) (m : Nat), vs = [.ref c] ∧ Lay H c L ∧ LayOk L m ∧ ∀ H', Same H H' → Q (.str (Tx.layT L)) H'
theorem ok_format_layout (a : At K mg "format_layout" s_format_layout ["layout"]) (c_check_layout : Cl P w K mg base 7 "check_layout" spCheckL) (c_action_text : Cl P w K mg base 3 "action_text" spATx) : Cl P w K mg base 8 "format_layout" spFmt := by
  refine clG a sc_format_layout (fun vs H Q E h => ?_) (fun f cdv A outer s H vs Q hg hr h => ?_)
  · obtain ⟨c, L, m, rfl, _⟩ := h
    rfl
  · obtain ⟨c, L, m, rfl, hL, hO, q⟩ := h
    refine ⟨_, (pss_cons (ps_expr (pe_cl c_check_layout hg hr (by decide) (by rfl) (pa_cons (pv 0) pa_nil)))
      (pss_one (ps_ret (pe_bm PySem.F.plainAttrs_str PySem.F.slot_str_join PySem.F.type_str_join mt_join pe_str (pa_cons (pe_lc (own := [("actions", 1)]) (g := (gName 1)) (by rfl) sc_format_layout.nd (pi_list (pv 0)) (blkOk_by (N := n_format_layout) (sc := defScope s_format_layout) (by decide +kernel)) (fun _ _ _ _ _ => (pg_name (i := 1) sc_format_layout.nd rfl (Or.inl rfl))) (fun _ _ _ _ _ => pts_nil) (fun _ _ _ _ _ => (by exact (pe_bmB (K0 := K) (r := Tx.rJoin K) rfl PySem.F.plainAttrs_str PySem.F.slot_str_join PySem.F.type_str_join mt_join pe_str (pa_cons (pe_lc (wi := iList K (tVar 1)) (own := [("action", 2)]) (g := (gName 2)) (by rfl) sc_format_layout.nd (pi_list (pv 1)) (blkOk_by (N := n_format_layout) (by unfold blkC; rfl)) (fun _ _ _ _ _ => (pg_name (i := 2) sc_format_layout.nd rfl (Or.inl rfl))) (fun _ _ _ _ _ => pts_nil) (fun _ _ _ _ _ => (pe_cl c_action_text hg hr (by decide) (by rfl) (pa_cons (pv 2) pa_nil)))) pa_nil))))) pa_nil))))), ?_⟩
    have hok := rows_ok hO
    have n6 := hO.n6
    refine ⟨_, rfl, c, L, m, rfl, hL, hO, fun H1 s1 => ?_⟩
    obtain ⟨rs, hc, hR⟩ := hL.same s1
    have hlen : (rs.map V.ref).length = L.length := by rw [List.length_map]; exact hR.1
    refine ⟨rfl, _, rfl, c, rfl, ⟨_, SqL.of hc⟩, fun M nM => lc_it (walk_list (xs := rs.map V.ref)) (fun i H' => Same H1 H' ∧ H' M = some (.lst (((L.take i).map Tx.rowT).map V.str))) ⟨same_upd nM, upd_same⟩
      (fun i H' _ p => SqL.of (p.1 _ _ hc)) (fun i x H2 H3 hi p y => ?_) (fun H2 p => ?_)⟩
    · obtain ⟨rfl, ex⟩ := y
      have hi' : i < L.length := by omega
      obtain ⟨r, hr1, vs, hvs, ha⟩ := hR.at_ hi'
      have ex' : x = .ref r := Option.some.inj (ex.symm.trans (get_map_ref hr1))
      subst ex'
      have hrow := hok _ (List.getElem_mem hi')
      have hv2 := p.1 _ _ hvs
      have ha2 := ha.keep (Tk.of p.1)
      refine ⟨rfl, rfl, _, rfl, r, rfl, ⟨_, SqL.of hv2⟩, fun N nN => lc_it (walk_list (xs := vs)) (fun j H' => Same H3 H' ∧ H' N = some (.lst (((L[i].take j).map Tx.wtx).map V.str))) ⟨same_upd nN, upd_same⟩
        (fun j H' _ p => SqL.of (p.1 _ _ hv2)) (fun j v H4 H5 hj p4 y => ?_) (fun H4 p4 => ?_)⟩
      · obtain ⟨rfl, ev⟩ := y
        have hvl := ha.1
        have hj' : j < L[i].length := by omega
        have hav := ha2.2 j v L[i][j] ev (List.getElem?_eq_getElem hj')
        refine ⟨rfl, _, rfl, v, L[i][j], (L.length : Int), (i : Int), rfl, hav.keep (Tk.of p4.1), hO.ok i _ (List.getElem?_eq_getElem hi') _ (List.getElem_mem hj'), by omega, _, p4.2, ?_, Same.off p4.1 nN off_upd, ?_⟩
        · have := hrow.2.1
          rw [List.length_map, List.length_map, List.length_take]; exact small1000 (by omega)
        · rw [upd_same, List.take_add_one, List.getElem?_eq_getElem hj', List.map_append, List.map_append]; rfl
      · have hvl := ha.1
        rw [show vs.length = L[i].length from hvl, List.take_length] at p4
        have hw := Tx.words_len hrow (by omega)
        have hsum := lens_sum hw
        have := hrow.2.1
        have e1 : ((" " : String) : Str).length = 1 := Tx.sp_len
        rw [List.length_map] at hsum
        refine ⟨_, N, _, rfl, rfl, .inl (SqL.of p4.2), by rw [e1, List.length_map]; omega, _, p4.1 _ _ p.2, ?_, Same.off (p.1.trans p4.1) nM off_upd, ?_⟩
        · rw [List.length_map, List.length_map, List.length_take]; exact small1000 (by omega)
        · rw [upd_same, List.take_add_one, List.getElem?_eq_getElem hi', List.map_append, List.map_append]; rfl
    · rw [hlen, List.take_length] at p
      have hw : ∀ r ∈ L.map Tx.rowT, r.length ≤ 700 := fun r hr => by
        obtain ⟨xs, hx, rfl⟩ := List.mem_map.mp hr
        exact Tx.rowT_len (hok xs hx) (by omega)
      have hsum := lens_sum hw
      have e1 : (("\n" : String) : Str).length = 1 := Tx.nl_len
      rw [List.length_map] at hsum
      exact ⟨_, M, _, rfl, rfl, .inl (SqL.of p.2), by rw [e1, List.length_map]; omega, q _ (s1.trans p.1)⟩
end
end K65

set_option Elab.async false
set_option linter.all false
set_option maxRecDepth 100000
set_option maxHeartbeats 8000000
namespace K65
open PySem PySem.Spec PyProof.Rows L2 Gd Rm La
def SgA (c : Nat) : Prop := (48 ≤ c ∧ c ≤ 57) ∨ (97 ≤ c ∧ c ≤ 122) ∨ c = 64 ∨ c = 33 ∨ c = 94 ∨ c = 47 ∨ c = 58
theorem sga_code {c : Str} (h : CodeOk c) : ∀ x ∈ TL.tl c, SgA x := fun x hx => by
  rcases Tx.code_low h x hx with z | z
  · exact .inl z
  · exact .inr (.inl z)
theorem sga_num {j : Int} (h : 0 ≤ j) : ∀ x ∈ TL.tl (Tx.numS j), SgA x := fun x hx => by
  rw [Tx.numS_tl h] at hx
  exact .inl (Tx.numL_low hx)
theorem sga_sgn {w : Str} (h : w ∈ layWords) : ∀ x ∈ TL.tl (Tx.sgn w), SgA x := fun x hx => by
  obtain ⟨d, e, hd, _⟩ := Tx.sgn_tl h
  rw [e] at hx
  rw [List.mem_singleton.mp hx]
  rcases hd with z | z | z
  · exact .inr (.inr (.inl z))
  · exact .inr (.inr (.inr (.inl z)))
  · exact .inr (.inr (.inr (.inr (.inl z))))
theorem sga_rsg {r : Str} (h : r ∈ rules) : ∀ x ∈ TL.tl (Tx.rsg r), SgA x := fun x hx => by
  obtain ⟨d, e, h1, h2, _⟩ := Tx.rsg_tl h
  rw [e] at hx
  rw [List.mem_singleton.mp hx]
  exact .inr (.inl ⟨h1, h2⟩)
theorem sga_wtx {n i : Int} {x : Actn} (h : ActOk n i x) (h1 : isN x = false) (h2 : isTh x = false) : ∀ c ∈ TL.tl (Tx.wtx x), SgA c := by
  have s1 : SgA 47 := .inr (.inr (.inr (.inr (.inr (.inl rfl)))))
  have s2 : SgA 58 := .inr (.inr (.inr (.inr (.inr (.inr rfl)))))
  cases x with
  | none => cases h1
  | thr => cases h2
  | code c => exact sga_code h
  | lay w j =>
    intro c hc
    rw [Tx.wtx, TL.tl_append] at hc
    rcases List.mem_append.mp hc with z | z
    · exact sga_sgn h.1 c z
    · exact sga_num (by have := h.2.1; omega) c z
  | dualC c d t r =>
    obtain ⟨h1, h2, ⟨h3, h4⟩, h5⟩ := h
    intro x hx
    simp only [Tx.wtx, TL.tl_append, Tx.tl_s1, Tx.tl_s2, List.mem_append, List.mem_singleton] at hx
    rcases hx with ((((z | z) | z) | z) | z) | z
    · exact sga_code h1 x z
    · rw [z]; exact s1
    · exact sga_code h2 x z
    · rw [z]; exact s2
    · exact sga_num (by omega) x z
    · exact sga_rsg h5 x z
  | dualL c j t r =>
    obtain ⟨h1, ⟨h2, h2'⟩, ⟨h3, h4⟩, h5⟩ := h
    intro x hx
    simp only [Tx.wtx, TL.tl_append, Tx.tl_s1, Tx.tl_s2, List.mem_append, List.mem_singleton] at hx
    rcases hx with ((((z | z) | (z | z)) | z) | z) | z
    · exact sga_code h1 x z
    · rw [z]; exact s1
    · exact sga_sgn Tx.lay_in x z
    · exact sga_num (by omega) x z
    · rw [z]; exact s2
    · exact sga_num (by omega) x z
    · exact sga_rsg h5 x z
theorem tl_dot : TL.tl (("." : String) : Str) = [46] := by decide +kernel
theorem tl_dash : TL.tl (("-" : String) : Str) = [45] := by decide +kernel
theorem no_dots {n i : Int} {x : Actn} (h : ActOk n i x) (h1 : isN x = false) (h2 : isTh x = false) : Tx.wtx x ≠ (("." : String) : Str) ∧ Tx.wtx x ≠ (("-" : String) : Str) := by
  refine ⟨fun z => ?_, fun z => ?_⟩
  · have := sga_wtx h h1 h2 46 (by rw [z, tl_dot]; exact List.mem_singleton.mpr rfl)
    unfold SgA at this
    omega
  · have := sga_wtx h h1 h2 45 (by rw [z, tl_dash]; exact List.mem_singleton.mpr rfl)
    unfold SgA at this
    omega
theorem dot_dash : (("." : String) : Str) ≠ (("-" : String) : Str) := by decide +kernel
theorem is_dot {n i : Int} {x : Actn} (h : ActOk n i x) : decide (Tx.wtx x = (("." : String) : Str)) = isN x := by
  cases x with
  | none => exact decide_eq_true rfl
  | thr => exact decide_eq_false dot_dash.symm
  | code c => exact decide_eq_false (no_dots h rfl rfl).1
  | lay w j => exact decide_eq_false (no_dots h rfl rfl).1
  | dualC c d t r => exact decide_eq_false (no_dots h rfl rfl).1
  | dualL c j t r => exact decide_eq_false (no_dots h rfl rfl).1
theorem is_dash {n i : Int} {x : Actn} (h : ActOk n i x) : decide (Tx.wtx x = (("-" : String) : Str)) = isTh x := by
  cases x with
  | none => exact decide_eq_false dot_dash
  | thr => exact decide_eq_true rfl
  | code c => exact decide_eq_false (no_dots h rfl rfl).2
  | lay w j => exact decide_eq_false (no_dots h rfl rfl).2
  | dualC c d t r => exact decide_eq_false (no_dots h rfl rfl).2
  | dualL c j t r => exact decide_eq_false (no_dots h rfl rfl).2
theorem slash_D {n i : Int} {x : Actn} (h : ActOk n i x) (h1 : isN x = false) (h2 : isTh x = false) : decide (47 ∈ TL.tl (Tx.wtx x)) = isD x := by
  cases x with
  | none => cases h1
  | thr => cases h2
  | code c => exact decide_eq_false (Tx.no_slash_code h)
  | lay w j => exact decide_eq_false (Tx.no_slash_lay h.1 h.2.1)
  | dualC c d t r => exact decide_eq_true Tx.slash_in
  | dualL c j t r => exact decide_eq_true Tx.slash_in
theorem bad_lay {w : Str} {j : Int} (h : w ∈ layWords) (h1 : 1 ≤ j) (h2 : j ≤ 5) : BadC (Tx.sgn w ++ Tx.numS j) := by
  have l1 := Tx.sgn_len h
  have l2 : (Tx.numS j).length ≤ 1 := by
    rw [TL.len_tl, Tx.numS_tl (by omega)]
    exact TL.numL_len (by decide) (by omega)
  have l : (Tx.sgn w ++ Tx.numS j).cps.size = 1 + (Tx.numS j).length := by
    have := Tx.len_app (Tx.sgn w) (Tx.numS j)
    rw [l1] at this
    exact this
  obtain ⟨d, e, hd, _⟩ := Tx.sgn_tl h
  refine ⟨by omega, by omega, d, ?_, ?_⟩
  · show d ∈ TL.tl (Tx.sgn w ++ Tx.numS j)
    rw [TL.tl_append, e]
    exact List.mem_append_left _ (List.mem_singleton.mpr rfl)
  · rcases hd with rfl | rfl | rfl <;> decide +kernel
theorem lsg_occ {w : Str} (h : w ∈ layWords) : ∃ (i : Nat), Builtin.Str.occurrences lsg (Tx.sgn w) 0 lsg.length 1 = i :: [] ∧ atI (layWords.map V.str) (i : Int) = some (.str w) := by
  unfold layWords at h
  simp only [List.mem_cons, List.mem_nil_iff, or_false] at h
  rcases h with rfl | rfl | rfl
  · exact ⟨0, by decide +kernel, rfl⟩
  · exact ⟨1, by decide +kernel, rfl⟩
  · exact ⟨2, by decide +kernel, rfl⟩
theorem rsg_occ {r : Str} (h : r ∈ rules) : ∃ (i : Nat), Builtin.Str.occurrences rsgs (Tx.rsg r) 0 rsgs.length 1 = i :: [] ∧ atI (rules.map V.str) (i : Int) = some (.str r) := by
  unfold rules at h
  simp only [List.mem_cons, List.mem_nil_iff, or_false] at h
  rcases h with rfl | rfl | rfl
  · exact ⟨0, by decide +kernel, rfl⟩
  · exact ⟨1, by decide +kernel, rfl⟩
  · exact ⟨2, by decide +kernel, rfl⟩
theorem lsg_has {c : Nat} (h : c = 64 ∨ c = 33 ∨ c = 94) : c ∈ lsg.cps.toList := by rcases h with rfl | rfl | rfl <;> decide +kernel
theorem rsgs_has {r : Str} {c : Nat} (h : r ∈ rules) (e : Tx.rsg r = ⟨#[c]⟩) : c ∈ rsgs.cps.toList := by
  have e2 := congrArg TL.tl e
  unfold rules at h
  simp only [List.mem_cons, List.mem_nil_iff, or_false] at h
  have t : ∀ r : Str, TL.tl (Tx.rsg r) = [c] → TL.tl (Tx.rsg r) ⊆ rsgs.cps.toList → c ∈ rsgs.cps.toList := fun r a b => b (by rw [a]; exact List.mem_singleton.mpr rfl)
  rcases h with rfl | rfl | rfl <;> exact t _ e2 (by decide +kernel)
section
variable {P : Program} {w : World} {K : PySem.W.Frag} {mg : Str → Option Value} {base : Heap}
def isP : Actn → Bool
  | .code _ => true
  | .lay _ _ => true
  | _ => false
def spPlain : Sp := fun vs H Q _ => ∃ (x : Actn) (n i : Int), vs = [.str (Tx.wtx x)] ∧ ActOk n i x ∧ n ≤ 6 ∧ isP x = true ∧ ∀ H' v, Same H H' → ActV H' x v → Q v H'
theorem ok_plain_action_of (bt : Bt mg) {tk1 : Tok} {g_LAYER_WORDS : Addr} (m_LAYER_WORDS : mg "LAYER_WORDS" = some (.ref g_LAYER_WORDS)) (t_LAYER_WORDS : ∀ H, SqT K H g_LAYER_WORDS (layWords.map V.str))
    (m_LAYER_SIGNS : mg "LAYER_SIGNS" = some (.str "@!^" tk1)) (a : At K mg "plain_action_of" s_plain_action_of ["word"]) (c_is_code : Cl P w K mg base 1 "is_code" spCode2) (c_is_number : Cl P w K mg base 1 "is_number" spNum) : Cl P w K mg base 2 "plain_action_of" spPlain := by
  refine clG a sc_plain_action_of (fun vs H Q E h => ?_) (fun f cdv A outer s H vs Q hg hr h => ?_)
  · obtain ⟨x, n, i, rfl, _⟩ := h
    rfl
  · obtain ⟨x, n, i, rfl, hx, hn, hp, q⟩ := h
    refine ⟨_, (pss_cons (ps_if (pt_val (pe_cl c_is_code hg hr (by decide) (by rfl) (pa_cons (pv 0) pa_nil))) (pss_one (ps_ret (pe_tup (pa_cons pe_str (pa_cons (pv 0) pa_nil))))) pss_nil)
      (pss_cons (ps_par (i := 1) (j := 2) rfl sc_plain_action_of.nd rfl rfl (by decide) rfl rfl (pa_cons (pe_slice sl_str (pv 0) po_none (po_some pe_int)) (pa_cons (pe_slice sl_str (pv 0) (po_some pe_int) po_none) pa_nil)) (by rfl))
      (pss_cons (ps_if (PW.pt (pw_or (pt_not (pt_val (pe_cl c_is_number hg hr (by decide) (by rfl) (pa_cons (pv 2) pa_nil)))) (pw_or1 (pt_cmpR op_notIn_sign (pv 1) (pe_glob (v := .str "@!^") (by rfl) m_LAYER_SIGNS ⟨_, rfl⟩) rfl)))) (pss_one (ps_ret pe_non)) pss_nil)
      (pss_one (ps_ret (pe_tup (pa_cons (pe_ix ix_tup (pe_glob (v := .ref g_LAYER_WORDS) (by rfl) m_LAYER_WORDS rfl) (pe_bm PySem.F.plainAttrs_str PySem.F.slot_str_index PySem.F.type_str_index Tx.mt_sindex (pe_glob (v := .str "@!^") (by rfl) m_LAYER_SIGNS ⟨_, rfl⟩) (pa_cons (pv 1) pa_nil)) (fun _ _ => rfl)) (pa_cons (pe_callTy call_int_str (by rfl) bt.m_int (by decide +kernel) (pa_cons (pv 2) pa_nil)) pa_nil)))))))), ?_⟩
    cases x with
    | none => cases hp
    | thr => cases hp
    | dualC c d t r => cases hp
    | dualL c j t r => cases hp
    | code c =>
      refine ⟨_, rfl, _, true, rfl, .inl ⟨rfl, hx⟩, fun H1 s1 => ⟨_, rfl, iteT ?_⟩⟩
      exact ⟨_, rfl, (by show 2 ≤ sizeLine; decide), fun p np => q _ _ (s1.trans (same_upd np)) ⟨p, rfl, upd_same⟩⟩
    | lay u j =>
      obtain ⟨x1, x2, x3⟩ := hx
      obtain ⟨c, etl, hc, es⟩ := Tx.sgn_tl x1
      have hs := Tx.numS_len (i := j) (by omega) (by omega)
      have hlen : (Tx.wtx (.lay u j)).length ≤ sizeLine := by
        rw [Tx.wtx, Tx.len_app, Tx.sgn_len x1, sizeLine_eq]; omega
      refine ⟨_, rfl, _, false, rfl, .inr ⟨rfl, bad_lay x1 x2 (by omega)⟩, fun H1 s1 => ⟨_, rfl, iteF ?_⟩⟩
      refine ⟨_, rfl, 1, rfl, _, rfl, hlen, _, rfl, 1, rfl, _, rfl, hlen, ?_⟩
      rw [Tx.wtx, es, Tx.cut_head, Tx.cut_tail]
      refine ⟨_, _, rfl, _, rfl, Tx.numS j, j.toNat, rfl, Tx.numS_tl (by omega), by omega, hs, fun H2 s2 => ⟨_, rfl, iteF ⟨_, rfl, c, lsg, rfl, rfl, _, rfl, ?_⟩⟩⟩
      rw [decide_eq_true (lsg_has hc)]
      refine iteF ?_
      obtain ⟨k, hk, hkw⟩ := lsg_occ x1
      rw [es] at hk
      refine ⟨rfl, _, rfl, lsg, _, k, [], rfl, rfl, hk, g_LAYER_WORDS, _, (k : Int), .str u, rfl, rfl, t_LAYER_WORDS _, hkw, ?_⟩
      refine ⟨_, rfl, Tx.numS j, j, rfl, Tx.numS_int (by omega) (by omega), by omega, (by show 2 ≤ sizeLine; decide), fun p np => ?_⟩
      exact q _ _ ((s1.trans s2).trans (same_upd np)) ⟨p, rfl, upd_same⟩
def spDualOf : Sp := fun vs H Q _ => ∃ (x : Actn) (n i : Int), vs = [.str (Tx.wtx x)] ∧ ActOk n i x ∧ n ≤ 6 ∧ isD x = true ∧ ∀ H' v, Same H H' → ActV H' x v → Q v H'
theorem dual_parts {n i : Int} {x : Actn} (h : ActOk n i x) (hn : n ≤ 6) (hd : isD x = true) : ∃ (c r : Str) (t : Int) (y : Actn), CodeOk c ∧ r ∈ rules ∧ 1 ≤ t ∧ t ≤ 1000000000 ∧ ActOk n i y ∧ isP y = true ∧ Tx.HoldT (Tx.wtx y) ∧ Tx.wtx x = c ++ "/" ++ Tx.wtx y ++ ":" ++ Tx.numS t ++ Tx.rsg r ∧
    ∀ (H : Hp) (p : Addr) (v : V), H p = some (.tup [.str "dual", .str c, v, .int t, .str r]) → ActV H y v → ActV H x (.ref p) := by
  cases x with
  | none => cases hd
  | thr => cases hd
  | code c => cases hd
  | lay u j => cases hd
  | dualC c d t r =>
    obtain ⟨x1, x2, ⟨x3, x4⟩, x5⟩ := h
    refine ⟨c, r, t, .code d, x1, x5, x3, x4, x2, rfl, Tx.hold_code x2, rfl, fun H p v hp hv => ?_⟩
    obtain ⟨b, rfl, hb⟩ := hv
    exact ⟨p, b, rfl, hp, hb⟩
  | dualL c j t r =>
    obtain ⟨x1, ⟨x2, x2'⟩, ⟨x3, x4⟩, x5⟩ := h
    refine ⟨c, r, t, .lay "layer" j, x1, x5, x3, x4, ⟨Tx.lay_in, x2, x2'⟩, rfl, Tx.hold_lay x2 (by omega), rfl, fun H p v hp hv => ?_⟩
    obtain ⟨b, rfl, hb⟩ := hv
    exact ⟨p, b, rfl, hp, hb⟩
theorem ok_dual_of (bt : Bt mg) {tk1 : Tok} {g_RULES : Addr} (m_RULES : mg "RULES" = some (.ref g_RULES)) (t_RULES : ∀ H, SqT K H g_RULES (rules.map V.str))
    (m_RULE_SIGNS : mg "RULE_SIGNS" = some (.str "tow" tk1)) (a : At K mg "dual_of" s_dual_of ["word"]) (c_plain_action_of : Cl P w K mg base 2 "plain_action_of" spPlain) (c_is_number : Cl P w K mg base 1 "is_number" spNum) : Cl P w K mg base 3 "dual_of" spDualOf := by
  refine clG a sc_dual_of (fun vs H Q E h => ?_) (fun f cdv A outer s H vs Q hg hr h => ?_)
  · obtain ⟨x, n, i, rfl, _⟩ := h
    rfl
  · obtain ⟨x, n, i, rfl, hx, hn, hd, q⟩ := h
    obtain ⟨c, r, t, y, hc, hr', t1, t2, hy, hp, hh, e, back⟩ := dual_parts hx hn hd
    rw [e]
    refine ⟨_, (pss_cons (ps_asg (pe_bm PySem.F.plainAttrs_str PySem.F.slot_str_partition PySem.F.type_str_partition mt_partition (pv 0) (pa_cons pe_str pa_nil)) (pg_tup rfl (pgs_cons (pg_name (i := 1) sc_dual_of.nd rfl (Or.inl rfl)) (pgs_cons (pg_name (i := 2) sc_dual_of.nd rfl (Or.inl rfl)) (pgs_cons (pg_name (i := 3) sc_dual_of.nd rfl (Or.inl rfl)) pgs_nil)))))
      (pss_cons (ps_asg (pe_bm PySem.F.plainAttrs_str PySem.F.slot_str_partition PySem.F.type_str_partition mt_partition (pv 3) (pa_cons pe_str pa_nil)) (pg_tup rfl (pgs_cons (pg_name (i := 4) sc_dual_of.nd rfl (Or.inl rfl)) (pgs_cons (pg_name (i := 2) sc_dual_of.nd rfl (Or.inl rfl)) (pgs_cons (pg_name (i := 5) sc_dual_of.nd rfl (Or.inl rfl)) pgs_nil)))))
      (pss_cons (ps_par (i := 6) (j := 7) rfl sc_dual_of.nd rfl rfl (by decide) rfl rfl (pa_cons (pe_slice sl_str (pv 5) po_none (po_some (pe_un un_neg pe_int))) (pa_cons (pe_slice sl_str (pv 5) (po_some (pe_un un_neg pe_int)) po_none) pa_nil)) (by rfl))
      (pss_cons (ps_if (PW.pt (pw_or (pt_not (pt_val (pe_cl c_is_number hg hr (by decide) (by rfl) (pa_cons (pv 6) pa_nil)))) (pw_or1 (pt_cmpR op_notIn_sign (pv 7) (pe_glob (v := .str "tow") (by rfl) m_RULE_SIGNS ⟨_, rfl⟩) rfl)))) (pss_one (ps_ret pe_non)) pss_nil)
      (pss_one (ps_ret (pe_tup (pa_cons pe_str (pa_cons (pv 1) (pa_cons (pe_cl c_plain_action_of hg hr (by decide) (by rfl) (pa_cons (pv 4) pa_nil)) (pa_cons (pe_callTy call_int_str (by rfl) bt.m_int (by decide +kernel) (pa_cons (pv 6) pa_nil)) (pa_cons (pe_ix ix_tup (pe_glob (v := .ref g_RULES) (by rfl) m_RULES rfl) (pe_bm PySem.F.plainAttrs_str PySem.F.slot_str_index PySem.F.type_str_index Tx.mt_sindex (pe_glob (v := .str "tow") (by rfl) m_RULE_SIGNS ⟨_, rfl⟩) (pa_cons (pv 7) pa_nil)) (fun _ _ => rfl)) pa_nil)))))))))))), ?_⟩
    obtain ⟨z, ez, z1, z2, es⟩ := Tx.rsg_tl hr'
    have hs := Tx.numS_len (i := t) (by omega) (by omega)
    have l1 := Tx.code_len hc
    have l2 := hh.2.2
    have ls : ((("/" : String) : Str)).length = 1 := by decide +kernel
    have lc : (((":" : String) : Str)).length = 1 := by decide +kernel
    have lr := Tx.rsg_len hr'
    refine ⟨_, rfl, rfl, _, _, rfl, rfl, by decide +kernel, ?_, fun p1 np1 => ?_⟩
    · rw [sizeLine_eq]; simp only [Tx.len_app]; omega
    rw [Tx.part1 hc]
    refine ⟨p1, _, rfl, SqT.of upd_same, rfl, _, _, rfl, _, _, rfl, _, _, rfl, rfl, ?_⟩
    refine ⟨_, rfl, rfl, _, _, rfl, rfl, by decide +kernel, ?_, fun p2 np2 => ?_⟩
    · rw [sizeLine_eq]; simp only [Tx.len_app]; omega
    rw [Tx.part2 hh]
    refine ⟨p2, _, rfl, SqT.of upd_same, rfl, _, _, rfl, _, _, rfl, _, _, rfl, rfl, ?_⟩
    have hle : (Tx.numS t ++ Tx.rsg r).length ≤ sizeLine := by rw [Tx.len_app, lr, sizeLine_eq]; omega
    refine ⟨_, rfl, 1, rfl, -1, rfl, _, rfl, hle, _, rfl, 1, rfl, -1, rfl, _, rfl, hle, ?_⟩
    rw [es, Tx.cut_last, Tx.cut_end]
    refine ⟨_, _, rfl, _, rfl, Tx.numS t, t.toNat, rfl, Tx.numS_tl (by omega), by omega, hs, fun H2 s2 => ⟨_, rfl, iteF ⟨_, rfl, z, rsgs, rfl, rfl, _, rfl, ?_⟩⟩⟩
    rw [decide_eq_true (rsgs_has hr' es)]
    refine iteF ?_
    rw [es] at np2
    have s12 := (same_upd np1).trans ((same_upd np2).trans s2)
    obtain ⟨k, hk, hkw⟩ := rsg_occ hr'
    rw [es] at hk
    refine ⟨_, rfl, _, rfl, y, n, i, rfl, hy, hn, hp, fun H3 v s3 hv => ?_⟩
    refine ⟨_, rfl, Tx.numS t, t, rfl, Tx.numS_int (by omega) (by omega), by omega, rfl, _, rfl, rsgs, _, k, [], rfl, rfl, hk, g_RULES, _, (k : Int), .str r, rfl, rfl, t_RULES _, hkw, (by show 5 ≤ sizeLine; decide), fun p np => ?_⟩
    exact q _ _ ((s12.trans s3).trans (same_upd np)) (back _ p v upd_same (hv.keep (Tk.of (same_upd np))))
def spAOf : Sp := fun vs H Q _ => ∃ (x : Actn) (n i : Int), vs = [.str (Tx.wtx x)] ∧ ActOk n i x ∧ n ≤ 6 ∧ ∀ H' v, Same H H' → ActV H' x v → Q v H'
theorem ok_action_of (a : At K mg "action_of" s_action_of ["word"]) (c_plain_action_of : Cl P w K mg base 2 "plain_action_of" spPlain) (c_dual_of : Cl P w K mg base 3 "dual_of" spDualOf) : Cl P w K mg base 4 "action_of" spAOf := by
  refine clG a sc_action_of (fun vs H Q E h => ?_) (fun f cdv A outer s H vs Q hg hr h => ?_)
  · obtain ⟨x, n, i, rfl, _⟩ := h
    rfl
  · obtain ⟨x, n, i, rfl, hx, hn, q⟩ := h
    refine ⟨_, (pss_cons (ps_if (pt_cmpR op_eq (pv 0) pe_str (nomark _)) (pss_one (ps_ret pe_str)) pss_nil)
      (pss_cons (ps_if (pt_cmpR op_eq (pv 0) pe_str (nomark _)) (pss_one (ps_ret pe_str)) pss_nil)
      (pss_one (ps_ret (pe_ifExp (pt_cmpR op_in_sign pe_str (pv 0) rfl) (pe_cl c_dual_of hg hr (by decide) (by rfl) (pa_cons (pv 0) pa_nil)) (pe_cl c_plain_action_of hg hr (by decide) (by rfl) (pa_cons (pv 0) pa_nil))))))), ?_⟩
    refine ⟨_, rfl, rfl, isN x, eqS (is_dot hx), ?_⟩
    cases e1 : isN x with
    | true => 
      cases x <;> first | exact iteT (q _ _ (Same.refl _) rfl) | cases e1
    | false =>
      refine iteF ⟨_, rfl, rfl, isTh x, eqS (is_dash hx), ?_⟩
      cases e2 : isTh x with
      | true => cases x <;> first | exact iteT (q _ _ (Same.refl _) rfl) | cases e2
      | false =>
        refine iteF ⟨_, rfl, 47, Tx.wtx x, (by decide +kernel), rfl, isD x, congrArg V.bl (slash_D hx e1 e2), ?_⟩
        cases e3 : isD x with
        | true => exact iteT ⟨_, rfl, x, n, i, rfl, hx, hn, e3, q⟩
        | false =>
          have e4 : isP x = true := by cases x <;> simp_all [isP, isN, isTh, isD]
          exact iteF ⟨_, rfl, x, n, i, rfl, hx, hn, e4, q⟩
end
end K65

set_option Elab.async false
set_option linter.all false
set_option maxRecDepth 100000
set_option maxHeartbeats 8000000
namespace K65
open PySem PySem.Spec PyProof.Rows L2 Gd Rm La
theorem Fresh.back {H H0 H' : Hp} {D : Addr} {L : List (List Actn)} (s : Same H H0) (g : Fresh H0 D L H') : Fresh H D L H' := by
  obtain ⟨a, rs, b, c, d, e⟩ := g
  exact ⟨s.trans a, rs, b, c, d, fun r hr => ⟨s.free (e r hr).1, (e r hr).2⟩⟩
theorem eqI {a b : Int} {p : Bool} (h : decide (a = b) = p) : V.bl (decide (V.int a = V.int b)) = .bl p := by
  rw [← h]
  exact congrArg V.bl (by by_cases z : a = b <;> simp [z])
theorem FL.keep {H0 H H' : Hp} {D : Addr} {L : List (List Actn)} (g : FL H0 D L H) (s : Same H H') : FL H0 D L H' := by
  obtain ⟨rs, a, b, c, d⟩ := g
  exact ⟨rs, s _ _ a, b.same s, c, d⟩
theorem get_map_str {ws : List Str} {i : Nat} {c : Str} (h : ws[i]? = some c) : (ws.map V.str)[i]? = some (.str c) := by rw [List.getElem?_map, h]; rfl
section
variable {P : Program} {w : World} {K : PySem.W.Frag} {mg : Str → Option Value} {base : Heap}
def spParse : Sp := fun vs H Q _ => ∃ (L : List (List Actn)) (m : Nat), vs = [.str (Tx.layT L)] ∧ LayOk L m ∧ ∀ H' p, H p = none → Fresh H p L H' → Q (.ref p) H'
theorem ok_parse_layout (bt : Bt mg) {tk1 tk2 : Tok} (m_MOST_LAYERS : mg "MOST_LAYERS" = some (.int 6 tk1)) (m_MOST_KEYS : mg "MOST_KEYS" = some (.int 16 tk2)) (a : At K mg "parse_layout" s_parse_layout ["text"]) (c_can_stand : Cl P w K mg base 6 "can_stand" spStand) (c_action_of : Cl P w K mg base 4 "action_of" spAOf) : Cl P w K mg base 7 "parse_layout" spParse := by
  refine clG a sc_parse_layout (fun vs H Q E h => ?_) (fun f cdv A outer s H vs Q hg hr h => ?_)
  · obtain ⟨L, m, rfl, _⟩ := h
    rfl
  · obtain ⟨L, m, rfl, hO, q⟩ := h
    refine ⟨_, (pss_cons (ps_if (pt_not (pt_val (pe_callB call_isi (by rfl) bt.m_isinstance (by decide +kernel) (pa_cons (pv 0) (pa_cons (pe_bltn (v := .ty "str") (by rfl) bt.m_str (by decide +kernel) rfl) pa_nil))))) pss_never pss_nil)
      (pss_cons (ps_set (i := 1) sc_parse_layout.nd rfl (Or.inl rfl) (pe_bm PySem.F.plainAttrs_str PySem.F.slot_str_split PySem.F.type_str_split mt_split (pv 0) (pa_cons pe_str pa_nil)))
      (pss_cons (ps_set (i := 2) sc_parse_layout.nd rfl (Or.inl rfl) (pe_lst pa_nil))
      (pss_cons (ps_for PassesOwn.never rfl (pi_enum (by rfl) bt.m_enumerate (pa_cons (pv 1) pa_nil)) (pg_tup rfl (pgs_cons (pg_name (i := 3) sc_parse_layout.nd rfl (Or.inl rfl)) (pgs_cons (pg_name (i := 4) sc_parse_layout.nd rfl (Or.inl rfl)) pgs_nil))) (pss_cons (ps_set (i := 5) sc_parse_layout.nd rfl (Or.inl rfl) (pe_bm PySem.F.plainAttrs_str PySem.F.slot_str_split PySem.F.type_str_split mt_split (pv 4) (pa_cons pe_str pa_nil)))
      (C8.pss_cut (ps_set (i := 6) sc_parse_layout.nd rfl (Or.inl rfl) (pe_ifExp (pt_truth (pv 2) (by intro _; rfl)) (pe_callB call_len_seq (by rfl) bt.m_len (by decide +kernel) (pa_cons (pe_ix ix_list (pv 2) pe_int (fun _ _ => rfl)) pa_nil)) (pe_glob (v := .int 16) (by rfl) m_MOST_KEYS ⟨_, rfl⟩)))
      (pss_cons (ps_for PassesOwn.never rfl (pi_enum (by rfl) bt.m_enumerate (pa_cons (pv 5) pa_nil)) (pg_tup rfl (pgs_cons (pg_name (i := 7) sc_parse_layout.nd rfl (Or.inl rfl)) (pgs_cons (pg_name (i := 8) sc_parse_layout.nd rfl (Or.inl rfl)) pgs_nil))) (pss_one (ps_if (PW.pt (pw_or (pt_cmpR op_eq (pv 3) (pe_glob (v := .int 6) (by rfl) m_MOST_LAYERS ⟨_, rfl⟩) (nomark _)) (pw_or (pt_cmpR op_eq (pv 7) (pv 6) (nomark _)) (pw_or1 (pt_not (pt_val (pe_cl c_can_stand hg hr (by decide) (by rfl) (pa_cons (pe_cl c_action_of hg hr (by decide) (by rfl) (pa_cons (pv 8) pa_nil)) (pa_cons (pv 3) (pa_cons (pe_callB call_len_seq (by rfl) bt.m_len (by decide +kernel) (pa_cons (pv 1) pa_nil)) pa_nil)))))))))) pss_never pss_nil)))
      (C8.pss_cut (ps_if (PW.pt (pw_and (pt_truth (pv 2) (by intro _; rfl)) (pw_and1 (pt_cmpR op_lt (pe_callB call_len_seq (by rfl) bt.m_len (by decide +kernel) (pa_cons (pv 5) pa_nil)) (pv 6) (nomark _))))) pss_never pss_nil)
      (pss_one (ps_expr (pe_bm PySem.F.plainAttrs_list PySem.F.slot_list_append PySem.F.type_list_append mt_append (pv 2) (pa_cons (pe_lc (own := [("word", 8)]) (g := (gName 8)) (by rfl) sc_parse_layout.nd (pi_list (pv 5)) (blkOk_by (N := n_parse_layout) (sc := defScope s_parse_layout) (by decide +kernel)) (fun _ _ _ _ _ => (pg_name (i := 8) sc_parse_layout.nd rfl (Or.inl rfl))) (fun _ _ _ _ _ => pts_nil) (fun _ _ _ _ _ => (pe_cl c_action_of hg hr (by decide) (by rfl) (pa_cons (pv 8) pa_nil)))) pa_nil)))))))))
      (pss_one (ps_ret (pv 2))))))), ?_⟩
    have hok := rows_ok hO
    have n6 := hO.n6
    have n1 := hO.n1
    have hne : L ≠ [] := fun z => by rw [z] at n1; simp at n1
    have hlT := Tx.layT_len n6 hok (by omega)
    refine ⟨_, rfl, _, _, _, _, true, rfl, .ty "str", .base (.str _), kit_ty (by decide +kernel), _, rfl, iteF ?_⟩
    refine ⟨_, rfl, rfl, _, _, rfl, rfl, by decide +kernel, by rw [sizeLine_eq]; omega, fun Ln nL => ?_⟩
    rw [Tx.split_lay hne hok]
    have hLn := upd_same (H := H) (a := Ln) (o := .lst ((L.map Tx.rowT).map V.str))
    refine (fun (G : ∀ H1 : Hp, Same H H1 → H1 Ln = some (.lst ((L.map Tx.rowT).map V.str)) → _) => G _ (same_upd nL) hLn) (fun H1 s1 hLn => ?_)
    refine ⟨Nat.zero_le _, fun D nD => ?_⟩
    have hll : ((L.map Tx.rowT).map V.str).length = L.length := by rw [List.length_map, List.length_map]
    refine ⟨_, rfl, Ln, _, rfl, SqL.of ((same_upd nD) _ _ hLn), for_it (walk_enum (xs := (L.map Tx.rowT).map V.str))
      (fun i σ H' => (∃ y3 y4 y5 y6 y7 y8, σ = [some (.str (Tx.layT L)), some (.ref Ln), some (.ref D), y3, y4, y5, y6, y7, y8]) ∧ Same H1 H' ∧ FL H1 D (L.take i) H')
      ⟨⟨_, _, _, _, _, _, rfl⟩, same_upd nD, [], upd_same, ⟨rfl, fun i r row h _ => by simp at h⟩, List.nodup_nil, fun r h => by simp at h⟩ (fun _ _ H' _ p => SqL.of (p.2.1 _ _ hLn)) (fun i x σ H2 H3 hi p y => ?_) (fun σ H2 p => ?_)⟩
    · obtain ⟨⟨y3, y4, y5, y6, y7, y8, rfl⟩, s2, fl⟩ := p
      obtain ⟨T, u, v, rfl, nT, rfl, e1, e2⟩ := y
      have hi' : i < L.length := by omega
      have e2' : v = .str (Tx.rowT L[i]) := by
        have g : ((L.map Tx.rowT).map V.str)[i]? = some (.str (Tx.rowT L[i])) := get_map_str (by rw [List.getElem?_map, List.getElem?_eq_getElem hi']; rfl)
        exact Option.some.inj (e2.symm.trans g)
      subst e2'
      have e1' : u = .int (i : Nat) := (Option.some.inj e1).symm
      subst e1'
      refine ⟨T, _, rfl, SqT.of upd_same, rfl, _, _, rfl, _, _, rfl, rfl, ?_⟩
      have hrow := hok _ (List.getElem_mem hi')
      have hlr := Tx.rowT_len hrow (by omega)
      have hrm : L[i].length = m := hO.len _ (List.getElem_mem hi')
      have m1 := hO.m1
      have m16 := hO.m16
      refine ⟨_, rfl, rfl, _, _, rfl, rfl, by decide +kernel, by rw [sizeLine_eq]; omega, fun W nW => ?_⟩
      rw [Tx.split_row hrow]
      have s23 := (same_upd (o := .tup [.int (i : Nat), .str (Tx.rowT L[i])]) nT).trans (same_upd (o := .lst ((L[i].map Tx.wtx).map V.str)) nW)
      have hW := upd_same (H := upd H2 T (.tup [.int (i : Nat), .str (Tx.rowT L[i])])) (a := W) (o := .lst ((L[i].map Tx.wtx).map V.str))
      have fl2 := fl.keep s23
      have s13 := s2.trans s23
      refine (fun (G : ∀ H5 : Hp, Same H1 H5 → H5 W = some (.lst ((L[i].map Tx.wtx).map V.str)) → FL H1 D (L.take i) H5 → _) => G _ s13 hW fl2) (fun H5 s5 hW fl5 => ?_)
      obtain ⟨rs, hD5, hR5, _⟩ := id fl5
      have hrl : rs.length = i := by rw [hR5.1, List.length_take]; omega
      have hdl : ((L.map Tx.rowT).map V.str).length = L.length := hll
      have hwl : ((L[i].map Tx.wtx).map V.str).length = m := by rw [List.length_map, List.length_map]; exact hrm
      refine ⟨fun σ' H' => ∃ M : Int, (i = 0 → M = 16) ∧ (0 < i → M = m) ∧ σ' = [some (.str (Tx.layT L)), some (.ref Ln), some (.ref D), some (.int (i : Nat)), some (.str (Tx.rowT L[i])), some (.ref W), some (.int M), y7, y8] ∧ H' = H5, ?_, ?_⟩
      · refine ⟨_, rfl, !(rs.map V.ref).isEmpty, .inl ⟨_, SqL.of hD5, rfl⟩, ?_⟩
        cases rs with
        | nil =>
          have i0 : i = 0 := by rw [← hrl]; rfl
          exact iteF ⟨16, fun _ => rfl, fun z => by omega, rfl, rfl⟩
        | cons r0 rr =>
          have i0 : 0 < i := by rw [← hrl]; exact Nat.succ_pos _
          obtain ⟨r, hr0, vs0, hv0, ha0⟩ := hR5.at_ (i := 0) (by rw [List.length_take]; omega)
          refine iteT ⟨_, rfl, D, _, 0, .ref r, rfl, rfl, SqL.of hD5, atI_nat (j := 0) (get_map_ref hr0), r, _, rfl, .inl (SqL.of hv0), vs0.length, fun z => by omega, fun _ => ?_, rfl, rfl⟩
          rw [ha0.1]
          have : (L.take i)[0]'(by rw [List.length_take]; omega) = L[0] := List.getElem_take ..
          rw [this, hO.len _ (List.getElem_mem _)]
      rintro σ' H5 ⟨M, hM0, hM1, rfl, rfl⟩
      refine ⟨_, rfl, W, _, rfl, SqL.of hW, for_it (walk_enum (xs := (L[i].map Tx.wtx).map V.str))
        (fun j σ H' => (∃ y7 y8, σ = [some (.str (Tx.layT L)), some (.ref Ln), some (.ref D), some (.int (i : Nat)), some (.str (Tx.rowT L[i])), some (.ref W), some (.int M), y7, y8]) ∧ Same H5 H')
        ⟨⟨_, _, rfl⟩, Same.refl _⟩ (fun _ _ H' _ p => SqL.of (p.2 _ _ hW)) (fun j x σ H6 H7 hj p y => ?_) (fun σ H6 p => ?_)⟩
      · obtain ⟨⟨y7, y8, rfl⟩, s6⟩ := p
        obtain ⟨T2, u, v, rfl, nT2, rfl, e1, e2⟩ := y
        have hj' : j < L[i].length := by omega
        have e2' : v = .str (Tx.wtx L[i][j]) := by
          have g : ((L[i].map Tx.wtx).map V.str)[j]? = some (.str (Tx.wtx L[i][j])) := get_map_str (by rw [List.getElem?_map, List.getElem?_eq_getElem hj']; rfl)
          exact Option.some.inj (e2.symm.trans g)
        subst e2'
        have e1' : u = .int (j : Nat) := (Option.some.inj e1).symm
        subst e1'
        have act : ActOk L.length i L[i][j] := hO.ok i _ (List.getElem?_eq_getElem hi') _ (List.getElem_mem hj')
        refine ⟨T2, _, rfl, SqT.of upd_same, rfl, _, _, rfl, _, _, rfl, rfl, ?_⟩
        have sT2 := same_upd (o := .tup [.int (j : Nat), .str (Tx.wtx L[i][j])]) nT2
        refine ⟨_, rfl, rfl, false, eqI (decide_eq_false (by omega)), iteF ⟨_, rfl, _, rfl, rfl, false, eqI (decide_eq_false ?_), iteF ?_⟩⟩
        · rcases Nat.eq_zero_or_pos i with z | z
          · rw [hM0 z]; omega
          · rw [hM1 z]; omega
        refine ⟨_, rfl, L[i][j], (L.length : Int), (i : Int), rfl, act, by omega, fun H8 v s8 hv => ?_⟩
        have s18 := (s5.trans s6).trans (sT2.trans s8)
        refine ⟨_, rfl, _, rfl, Ln, _, rfl, .inl (SqL.of (s18 _ _ hLn)), v, (i : Int), (L.length : Int), L[i][j], (by rw [hll]; rfl), hv, act, fun H9 s9 => ⟨_, rfl, iteF ⟨⟨_, _, rfl⟩, ?_⟩⟩⟩
        exact s6.trans ((sT2.trans s8).trans s9)
      · obtain ⟨⟨y7, y8, rfl⟩, s6⟩ := p
        have fl6 := fl5.keep s6
        obtain ⟨rs6, hD6, hR6, _⟩ := id fl6
        have hrl6 : rs6.length = i := by rw [hR6.1, List.length_take]; omega
        have hW6 := s6 _ _ hW
        have s16 := s5.trans s6
        refine ⟨fun σ' H' => (∃ y7 y8, σ' = [some (.str (Tx.layT L)), some (.ref Ln), some (.ref D), some (.int (i : Nat)), some (.str (Tx.rowT L[i])), some (.ref W), some (.int M), y7, y8]) ∧ H' = H6, ?_, ?_⟩
        · refine ⟨_, rfl, !(rs6.map V.ref).isEmpty, .inl ⟨_, SqL.of hD6, rfl⟩, ?_⟩
          cases rs6 with
          | nil => exact iteF ⟨⟨_, _, rfl⟩, rfl⟩
          | cons r0 rr =>
            have i0 : 0 < i := by rw [← hrl6]; exact Nat.succ_pos _
            refine iteT ⟨_, rfl, W, _, rfl, .inl (SqL.of hW6), _, rfl, _, _, rfl, rfl, false, congrArg V.bl (decide_eq_false ?_), iteF ⟨⟨_, _, rfl⟩, rfl⟩⟩
            rw [hwl, hM1 i0]
            omega
        rintro σ' H6 ⟨⟨y7, y8, rfl⟩, rfl⟩
        refine ⟨_, rfl, .inl ⟨rfl, _, SqL.of hD6⟩, _, rfl, W, rfl, ⟨_, SqL.of hW6⟩, fun N nN => lc_it (walk_list (xs := (L[i].map Tx.wtx).map V.str)) (fun j H' => Same H6 H' ∧ ∃ vs, H' N = some (.lst vs) ∧ Acts H' vs (L[i].take j)) ⟨same_upd nN, [], upd_same, Acts.nil⟩
          (fun j H' _ p => SqL.of (p.1 _ _ hW6)) (fun j x H7 H8 hj p y => ?_) (fun H7 p => ?_)⟩
        · obtain ⟨rfl, ev⟩ := y
          obtain ⟨s7, vs, hN, hA⟩ := p
          have hj' : j < L[i].length := by omega
          have e2' : x = .str (Tx.wtx L[i][j]) := by
            have g : ((L[i].map Tx.wtx).map V.str)[j]? = some (.str (Tx.wtx L[i][j])) := get_map_str (by rw [List.getElem?_map, List.getElem?_eq_getElem hj']; rfl)
            exact Option.some.inj (ev.symm.trans g)
          subst e2'
          have act : ActOk L.length i L[i][j] := hO.ok i _ (List.getElem?_eq_getElem hi') _ (List.getElem_mem hj')
          refine ⟨rfl, _, rfl, L[i][j], (L.length : Int), (i : Int), rfl, act, by omega, fun H9 v s9 hv => ?_⟩
          have hN9 := s9 _ _ hN
          have hvl := hA.1
          refine ⟨vs, hN9, small1000 (by rw [hvl, List.length_take]; omega), Same.off (s7.trans s9) nN off_upd, vs ++ [v], upd_same, ?_⟩
          rw [List.take_add_one, List.getElem?_eq_getElem hj']
          exact ((hA.keep (Tk.of s9)).snoc hv).keep (tk_upd hN9)
        · obtain ⟨s7, vs, hN, hA⟩ := p
          rw [hwl, ← hrm, List.take_length] at hA
          obtain ⟨acc, hD7, hal, fl7⟩ := fl6.more nD hLn (s16.free nN) nN (Off.of (r := Ln) s7) (Tk.of s7) hN hA
          refine ⟨D, acc, .ref N, rfl, rfl, hD7, small1000 (by rw [hal, List.length_take]; omega), ⟨_, _, _, _, _, _, rfl⟩, Same.off (s16.trans s7) nD off_upd, ?_⟩
          rw [List.take_add_one, List.getElem?_eq_getElem hi']
          exact fl7
    · obtain ⟨⟨y3, y4, y5, y6, y7, y8, rfl⟩, s2, fl⟩ := p
      rw [hll, List.take_length] at fl
      exact ⟨_, rfl, q _ D (s1.free nD) (Fresh.back s1 ⟨s2, fl⟩)⟩
end
end K65

set_option Elab.async false
set_option linter.all false
set_option maxRecDepth 100000
set_option maxHeartbeats 8000000
namespace K65
open PySem PySem.Spec PyProof.Rows L2 Gd Rm La
def kinds : List Str := ["code", "layer", "lock", "once"]
def sgs : List Str := ["", "@", "!", "^"]
theorem kind_at {u : Str} (h : u ∈ layWords) : ∃ (j : Nat), (kinds.map V.str)[j]? = some (.str u) ∧ (∀ (m : Nat) (z : V), m < j → (kinds.map V.str)[m]? = some z → eqV z (.str u) = false) ∧ atI (sgs.map V.str) (j : Int) = some (.str (Tx.sgn u)) := by
  unfold layWords at h
  simp only [List.mem_cons, List.mem_nil_iff, or_false] at h
  rcases h with rfl | rfl | rfl
  · refine ⟨1, rfl, fun m z hm e => ?_, by decide +kernel⟩
    rcases (show m = 0 by omega) with rfl
    cases Option.some.inj e
    decide +kernel
  · refine ⟨2, rfl, fun m z hm e => ?_, by decide +kernel⟩
    rcases (show m = 0 ∨ m = 1 by omega) with rfl | rfl <;> cases Option.some.inj e <;> decide +kernel
  · refine ⟨3, rfl, fun m z hm e => ?_, by decide +kernel⟩
    rcases (show m = 0 ∨ m = 1 ∨ m = 2 by omega) with rfl | rfl | rfl <;> cases Option.some.inj e <;> decide +kernel
theorem cut_rule {r : Str} (h : r ∈ rules) : cutS r none (some 1) = Tx.rsg r ∧ r.length ≤ 10 := by
  unfold rules at h
  simp only [List.mem_cons, List.mem_nil_iff, or_false] at h
  rcases h with rfl | rfl | rfl <;> exact ⟨by decide +kernel, by decide +kernel⟩
theorem eqV_self (u : Str) : eqV (.str u) (.str u) = true := by
  show decide _ = true
  simp
section
variable {P : Program} {w : World} {K : PySem.W.Frag} {mg : Str → Option Value} {base : Heap}
def spWord0 : Sp := fun vs H Q _ => ∃ (v : V) (x : Actn) (n i : Int), vs = [v] ∧ ActV H x v ∧ ActOk n i x ∧ n ≤ 1000 ∧ isD x = false ∧ ∀ H', Same H H' → Q (.str (Tx.wtx x)) H'
def spWord : Sp := fun vs H Q _ => ∃ (v : V) (x : Actn) (n i : Int), vs = [v] ∧ ActV H x v ∧ ActOk n i x ∧ n ≤ 1000 ∧ ∀ H', Same H H' → Q (.str (Tx.wtx x)) H'
theorem ok__law_word0 (bt : Bt mg) (a : At K mg "_law_word" s__law_word ["_law_action_here"]) : Cl P w K mg base 2 "_law_word" spWord0 := by
  have c__law_word : Cl P w K mg base 1 "_law_word" (fun _ _ _ _ => False) := Cl.no a
  refine clG a sc__law_word (fun vs H Q E h => ?_) (fun f cdv A outer s H vs Q hg hr h => ?_)
  · obtain ⟨v, x, n, i, rfl, _⟩ := h
    rfl
  · obtain ⟨v, x, n, i, rfl, hv, hx, hn, hd, q⟩ := h
    refine ⟨_, (pss_cons (ps_if (pt_val (pe_callB call_isi (by rfl) bt.m_isinstance (by decide +kernel) (pa_cons (pv 0) (pa_cons (pe_bltn (v := .ty "str") (by rfl) bt.m_str (by decide +kernel) rfl) pa_nil)))) (pss_one (ps_ret (pe_ix ix_list (pe_lst (pa_cons pe_str (pa_cons pe_str pa_nil))) (pe_callTy call_int1 (by rfl) bt.m_int (by decide +kernel) (pa_cons (pe_cmpR (op_eqD hr.units) (pv 0) pe_str (nomark _)) pa_nil)) (fun _ _ => rfl)))) pss_nil)
      (pss_cons (ps_if (pt_cmpR op_eq (pe_callB call_len_seq (by rfl) bt.m_len (by decide +kernel) (pa_cons (pv 0) pa_nil)) pe_int (nomark _)) (pss_cons (ps_asg (pv 0) (pg_tup rfl (pgs_cons (pg_name (i := 1) sc__law_word.nd rfl (Or.inl rfl)) (pgs_cons (pg_name (i := 2) sc__law_word.nd rfl (Or.inl rfl)) (pgs_cons (pg_name (i := 3) sc__law_word.nd rfl (Or.inl rfl)) (pgs_cons (pg_name (i := 4) sc__law_word.nd rfl (Or.inl rfl)) (pgs_cons (pg_name (i := 5) sc__law_word.nd rfl (Or.inl rfl)) pgs_nil)))))))
      (pss_one (ps_ret (pe_op op_add_str (pe_op op_add_str (pe_op op_add_str (pe_op op_add_str (pe_op op_add_str (pv 2) pe_str) (pe_cl c__law_word hg hr (by decide) (by rfl) (pa_cons (pv 3) pa_nil))) pe_str) (pe_callTy call_str_int (by rfl) bt.m_str (by decide +kernel) (pa_cons (pv 4) pa_nil))) (pe_slice sl_str (pv 5) po_none (po_some pe_int)))))) pss_nil)
      (pss_one (ps_ret (pe_op op_add_str (pe_ix ix_list (pe_lst (pa_cons pe_str (pa_cons pe_str (pa_cons pe_str (pa_cons pe_str pa_nil))))) (pe_bm PySem.F.plainAttrs_list PySem.F.slot_list_index PySem.F.type_list_index mt_index (pe_lst (pa_cons pe_str (pa_cons pe_str (pa_cons pe_str (pa_cons pe_str pa_nil))))) (pa_cons (pe_ix ix_tup (pv 0) pe_int (fun _ _ => rfl)) pa_nil)) (fun _ _ => rfl)) (pe_callTy Tx.call_strB (by rfl) bt.m_str (by decide +kernel) (pa_cons (pe_ix ix_tup (pv 0) pe_int (fun _ _ => rfl)) pa_nil))))))), ?_⟩
    cases x with
    | none =>
      cases hv
      refine ⟨_, rfl, _, _, _, _, true, rfl, .ty "str", .base (.str _), kit_ty (by decide +kernel), _, rfl, iteT ?_⟩
      refine ⟨(by show 2 ≤ sizeLine; decide), fun p np => ⟨_, rfl, _, _, .str _, .str _, by decide +kernel, by decide +kernel, .inr ⟨false, congrArg (fun z => [V.bl z]) (by decide +kernel), p, _, 0, .str ".", rfl, rfl, SqL.of upd_same, rfl, q _ (same_upd np)⟩⟩⟩
    | thr =>
      cases hv
      refine ⟨_, rfl, _, _, _, _, true, rfl, .ty "str", .base (.str _), kit_ty (by decide +kernel), _, rfl, iteT ?_⟩
      refine ⟨(by show 2 ≤ sizeLine; decide), fun p np => ⟨_, rfl, _, _, .str _, .str _, by decide +kernel, by decide +kernel, .inr ⟨true, congrArg (fun z => [V.bl z]) (by decide +kernel), p, _, 1, .str "-", rfl, rfl, SqL.of upd_same, rfl, q _ (same_upd np)⟩⟩⟩
    | code c =>
      obtain ⟨a, rfl, ha⟩ := hv
      refine ⟨_, rfl, _, _, _, _, false, rfl, .ty "str", .base (.tup ha), kit_ty (by decide +kernel), _, rfl, iteF ?_⟩
      refine ⟨_, rfl, a, _, rfl, .inr (SqT.of ha), rfl, _, rfl, iteF ?_⟩
      refine ⟨(by show 4 ≤ sizeLine; decide), fun p np => ⟨(by show 4 ≤ sizeLine; decide), fun p2 np2 => ?_⟩⟩
      have ha2 := ((same_upd np).trans (same_upd (o := .lst (kinds.map V.str)) np2)) _ _ ha
      refine ⟨.inl ⟨rfl, _, SqL.of upd_same⟩, _, rfl, a, _, _, _, rfl, rfl, SqT.of ha2, atI_nat (j := 0) rfl, p2, kinds.map V.str, .str "code", 0, .str "code", rfl, rfl, SqL.of upd_same, rfl, rfl, rfl, eqV_self _, fun m z hm => absurd hm (Nat.not_lt_zero _), ?_⟩
      refine ⟨p, _, _, .str "", rfl, rfl, SqL.of ((same_upd np2) _ _ upd_same), rfl, ?_⟩
      have l1 := Tx.code_len hx
      refine ⟨_, rfl, a, _, _, _, rfl, rfl, SqT.of ha2, atI_nat (j := 1) rfl, .inl ⟨c, rfl, _, _, rfl, rfl, ?_, ?_⟩⟩
      · have : ((("" : String) : Str)).length = 0 := rfl
        rw [sizeLine_eq]; omega
      · rw [show (("" : String) : Str) = Str.empty from rfl, Tx.empty_app]
        exact q _ ((same_upd np).trans (same_upd np2))
    | lay u j =>
      obtain ⟨a, rfl, ha⟩ := hv
      obtain ⟨x1, x2, x3⟩ := hx
      refine ⟨_, rfl, _, _, _, _, false, rfl, .ty "str", .base (.tup ha), kit_ty (by decide +kernel), _, rfl, iteF ?_⟩
      refine ⟨_, rfl, a, _, rfl, .inr (SqT.of ha), rfl, _, rfl, iteF ?_⟩
      refine ⟨(by show 4 ≤ sizeLine; decide), fun p np => ⟨(by show 4 ≤ sizeLine; decide), fun p2 np2 => ?_⟩⟩
      have ha2 := ((same_upd np).trans (same_upd (o := .lst (kinds.map V.str)) np2)) _ _ ha
      obtain ⟨k, k1, k2, k3⟩ := kind_at x1
      refine ⟨.inl ⟨rfl, _, SqL.of upd_same⟩, _, rfl, a, _, _, _, rfl, rfl, SqT.of ha2, atI_nat (j := 0) rfl, p2, kinds.map V.str, .str u, k, .str u, rfl, rfl, SqL.of upd_same, rfl, rfl, k1, eqV_self _, k2, ?_⟩
      refine ⟨p, _, _, .str (Tx.sgn u), rfl, rfl, SqL.of ((same_upd np2) _ _ upd_same), k3, ?_⟩
      have hs := Tx.numS_len (i := j) (by omega) (by omega)
      have l1 := Tx.sgn_len x1
      refine ⟨_, rfl, a, _, _, _, rfl, rfl, SqT.of ha2, atI_nat (j := 1) rfl, .inr ⟨j, rfl, log_low (by omega) (by omega), _, _, rfl, rfl, ?_, ?_⟩⟩
      · rw [sizeLine_eq]; omega
      · exact q _ ((same_upd np).trans (same_upd np2))
    | dualC c d t r => cases hd
    | dualL c j t r => cases hd
theorem ok__law_word (bt : Bt mg) (a : At K mg "_law_word" s__law_word ["_law_action_here"]) (c__law_word : Cl P w K mg base 2 "_law_word" spWord0) : Cl P w K mg base 3 "_law_word" spWord := by
  refine clG a sc__law_word (fun vs H Q E h => ?_) (fun f cdv A outer s H vs Q hg hr h => ?_)
  · obtain ⟨v, x, n, i, rfl, _⟩ := h
    rfl
  · obtain ⟨v, x, n, i, rfl, hv, hx, hn, q⟩ := h
    refine ⟨_, (pss_cons (ps_if (pt_val (pe_callB call_isi (by rfl) bt.m_isinstance (by decide +kernel) (pa_cons (pv 0) (pa_cons (pe_bltn (v := .ty "str") (by rfl) bt.m_str (by decide +kernel) rfl) pa_nil)))) (pss_one (ps_ret (pe_ix ix_list (pe_lst (pa_cons pe_str (pa_cons pe_str pa_nil))) (pe_callTy call_int1 (by rfl) bt.m_int (by decide +kernel) (pa_cons (pe_cmpR (op_eqD hr.units) (pv 0) pe_str (nomark _)) pa_nil)) (fun _ _ => rfl)))) pss_nil)
      (pss_cons (ps_if (pt_cmpR op_eq (pe_callB call_len_seq (by rfl) bt.m_len (by decide +kernel) (pa_cons (pv 0) pa_nil)) pe_int (nomark _)) (pss_cons (ps_asg (pv 0) (pg_tup rfl (pgs_cons (pg_name (i := 1) sc__law_word.nd rfl (Or.inl rfl)) (pgs_cons (pg_name (i := 2) sc__law_word.nd rfl (Or.inl rfl)) (pgs_cons (pg_name (i := 3) sc__law_word.nd rfl (Or.inl rfl)) (pgs_cons (pg_name (i := 4) sc__law_word.nd rfl (Or.inl rfl)) (pgs_cons (pg_name (i := 5) sc__law_word.nd rfl (Or.inl rfl)) pgs_nil)))))))
      (pss_one (ps_ret (pe_op op_add_str (pe_op op_add_str (pe_op op_add_str (pe_op op_add_str (pe_op op_add_str (pv 2) pe_str) (pe_cl c__law_word hg hr (by decide) (by rfl) (pa_cons (pv 3) pa_nil))) pe_str) (pe_callTy call_str_int (by rfl) bt.m_str (by decide +kernel) (pa_cons (pv 4) pa_nil))) (pe_slice sl_str (pv 5) po_none (po_some pe_int)))))) pss_nil)
      (pss_one (ps_ret (pe_op op_add_str (pe_ix ix_list (pe_lst (pa_cons pe_str (pa_cons pe_str (pa_cons pe_str (pa_cons pe_str pa_nil))))) (pe_bm PySem.F.plainAttrs_list PySem.F.slot_list_index PySem.F.type_list_index mt_index (pe_lst (pa_cons pe_str (pa_cons pe_str (pa_cons pe_str (pa_cons pe_str pa_nil))))) (pa_cons (pe_ix ix_tup (pv 0) pe_int (fun _ _ => rfl)) pa_nil)) (fun _ _ => rfl)) (pe_callTy Tx.call_strB (by rfl) bt.m_str (by decide +kernel) (pa_cons (pe_ix ix_tup (pv 0) pe_int (fun _ _ => rfl)) pa_nil))))))), ?_⟩
    cases x with
    | none =>
      cases hv
      refine ⟨_, rfl, _, _, _, _, true, rfl, .ty "str", .base (.str _), kit_ty (by decide +kernel), _, rfl, iteT ?_⟩
      refine ⟨(by show 2 ≤ sizeLine; decide), fun p np => ⟨_, rfl, _, _, .str _, .str _, by decide +kernel, by decide +kernel, .inr ⟨false, congrArg (fun z => [V.bl z]) (by decide +kernel), p, _, 0, .str ".", rfl, rfl, SqL.of upd_same, rfl, q _ (same_upd np)⟩⟩⟩
    | thr =>
      cases hv
      refine ⟨_, rfl, _, _, _, _, true, rfl, .ty "str", .base (.str _), kit_ty (by decide +kernel), _, rfl, iteT ?_⟩
      refine ⟨(by show 2 ≤ sizeLine; decide), fun p np => ⟨_, rfl, _, _, .str _, .str _, by decide +kernel, by decide +kernel, .inr ⟨true, congrArg (fun z => [V.bl z]) (by decide +kernel), p, _, 1, .str "-", rfl, rfl, SqL.of upd_same, rfl, q _ (same_upd np)⟩⟩⟩
    | code c =>
      obtain ⟨a, rfl, ha⟩ := hv
      refine ⟨_, rfl, _, _, _, _, false, rfl, .ty "str", .base (.tup ha), kit_ty (by decide +kernel), _, rfl, iteF ?_⟩
      refine ⟨_, rfl, a, _, rfl, .inr (SqT.of ha), rfl, _, rfl, iteF ?_⟩
      refine ⟨(by show 4 ≤ sizeLine; decide), fun p np => ⟨(by show 4 ≤ sizeLine; decide), fun p2 np2 => ?_⟩⟩
      have ha2 := ((same_upd np).trans (same_upd (o := .lst (kinds.map V.str)) np2)) _ _ ha
      refine ⟨.inl ⟨rfl, _, SqL.of upd_same⟩, _, rfl, a, _, _, _, rfl, rfl, SqT.of ha2, atI_nat (j := 0) rfl, p2, kinds.map V.str, .str "code", 0, .str "code", rfl, rfl, SqL.of upd_same, rfl, rfl, rfl, eqV_self _, fun m z hm => absurd hm (Nat.not_lt_zero _), ?_⟩
      refine ⟨p, _, _, .str "", rfl, rfl, SqL.of ((same_upd np2) _ _ upd_same), rfl, ?_⟩
      have l1 := Tx.code_len hx
      refine ⟨_, rfl, a, _, _, _, rfl, rfl, SqT.of ha2, atI_nat (j := 1) rfl, .inl ⟨c, rfl, _, _, rfl, rfl, ?_, ?_⟩⟩
      · have : ((("" : String) : Str)).length = 0 := rfl
        rw [sizeLine_eq]; omega
      · rw [show (("" : String) : Str) = Str.empty from rfl, Tx.empty_app]
        exact q _ ((same_upd np).trans (same_upd np2))
    | lay u j =>
      obtain ⟨a, rfl, ha⟩ := hv
      obtain ⟨x1, x2, x3⟩ := hx
      refine ⟨_, rfl, _, _, _, _, false, rfl, .ty "str", .base (.tup ha), kit_ty (by decide +kernel), _, rfl, iteF ?_⟩
      refine ⟨_, rfl, a, _, rfl, .inr (SqT.of ha), rfl, _, rfl, iteF ?_⟩
      refine ⟨(by show 4 ≤ sizeLine; decide), fun p np => ⟨(by show 4 ≤ sizeLine; decide), fun p2 np2 => ?_⟩⟩
      have ha2 := ((same_upd np).trans (same_upd (o := .lst (kinds.map V.str)) np2)) _ _ ha
      obtain ⟨k, k1, k2, k3⟩ := kind_at x1
      refine ⟨.inl ⟨rfl, _, SqL.of upd_same⟩, _, rfl, a, _, _, _, rfl, rfl, SqT.of ha2, atI_nat (j := 0) rfl, p2, kinds.map V.str, .str u, k, .str u, rfl, rfl, SqL.of upd_same, rfl, rfl, k1, eqV_self _, k2, ?_⟩
      refine ⟨p, _, _, .str (Tx.sgn u), rfl, rfl, SqL.of ((same_upd np2) _ _ upd_same), k3, ?_⟩
      have hs := Tx.numS_len (i := j) (by omega) (by omega)
      have l1 := Tx.sgn_len x1
      refine ⟨_, rfl, a, _, _, _, rfl, rfl, SqT.of ha2, atI_nat (j := 1) rfl, .inr ⟨j, rfl, log_low (by omega) (by omega), _, _, rfl, rfl, ?_, ?_⟩⟩
      · rw [sizeLine_eq]; omega
      · exact q _ ((same_upd np).trans (same_upd np2))
    | dualC c d t r =>
      obtain ⟨a, b, rfl, ha, hb⟩ := hv
      obtain ⟨x1, x2, ⟨x3, x4⟩, x5⟩ := hx
      have l1 := Tx.code_len x1
      have l2 := Tx.code_len x2
      have hs := Tx.numS_len (i := t) (by omega) (by omega)
      have ls : ((("/" : String) : Str)).length = 1 := by decide +kernel
      have lc : (((":" : String) : Str)).length = 1 := by decide +kernel
      have lr := Tx.rsg_len x5
      obtain ⟨cr, lrr⟩ := cut_rule x5
      have hw : (Tx.wtx (.code d)).length ≤ 20 := by show d.length ≤ 20; omega
      refine ⟨_, rfl, _, _, _, _, false, rfl, .ty "str", .base (.tup ha), kit_ty (by decide +kernel), _, rfl, iteF ?_⟩
      refine ⟨_, rfl, a, _, rfl, .inr (SqT.of ha), rfl, true, rfl, iteT ?_⟩
      refine ⟨_, rfl, a, _, rfl, SqT.of ha, rfl, _, _, rfl, _, _, rfl, _, _, rfl, _, _, rfl, _, _, rfl, rfl, ?_⟩
      refine ⟨_, rfl, _, _, rfl, rfl, ?_, _, rfl, .ref b, .code d, n, i, rfl, ⟨b, rfl, hb⟩, x2, hn, rfl, fun H2 s2 => ⟨_, _, rfl, rfl, ?_, _, _, rfl, rfl, ?_, _, rfl, t, rfl, log_low (by omega) (by omega), _, _, rfl, rfl, ?_, _, rfl, 1, rfl, _, rfl, ?_, _, _, rfl, rfl, ?_, ?_⟩⟩
      · rw [sizeLine_eq]; omega
      · rw [sizeLine_eq]; simp only [Tx.len_app]; omega
      · rw [sizeLine_eq]; simp only [Tx.len_app]; omega
      · have hs' : (Str.ofString (toString t)).length ≤ 10 := hs
        rw [sizeLine_eq]; simp only [Tx.len_app]; omega
      · rw [sizeLine_eq]; omega
      · have hs' : (Str.ofString (toString t)).length ≤ 10 := hs
        rw [cr, sizeLine_eq]; simp only [Tx.len_app]; omega
      · rw [cr]
        exact q _ s2
    | dualL c j t r =>
      obtain ⟨a, b, rfl, ha, hb⟩ := hv
      obtain ⟨x1, ⟨x2, x2'⟩, ⟨x3, x4⟩, x5⟩ := hx
      have l1 := Tx.code_len x1
      have hs := Tx.numS_len (i := t) (by omega) (by omega)
      have ls : ((("/" : String) : Str)).length = 1 := by decide +kernel
      have lc : (((":" : String) : Str)).length = 1 := by decide +kernel
      have lr := Tx.rsg_len x5
      obtain ⟨cr, lrr⟩ := cut_rule x5
      have hw : (Tx.wtx (.lay "layer" j)).length ≤ 20 := (Tx.hold_lay (j := j) (by omega) (by omega)).2.2
      refine ⟨_, rfl, _, _, _, _, false, rfl, .ty "str", .base (.tup ha), kit_ty (by decide +kernel), _, rfl, iteF ?_⟩
      refine ⟨_, rfl, a, _, rfl, .inr (SqT.of ha), rfl, true, rfl, iteT ?_⟩
      refine ⟨_, rfl, a, _, rfl, SqT.of ha, rfl, _, _, rfl, _, _, rfl, _, _, rfl, _, _, rfl, _, _, rfl, rfl, ?_⟩
      refine ⟨_, rfl, _, _, rfl, rfl, ?_, _, rfl, .ref b, .lay "layer" j, n, i, rfl, ⟨b, rfl, hb⟩, ⟨Tx.lay_in, x2, x2'⟩, hn, rfl, fun H2 s2 => ⟨_, _, rfl, rfl, ?_, _, _, rfl, rfl, ?_, _, rfl, t, rfl, log_low (by omega) (by omega), _, _, rfl, rfl, ?_, _, rfl, 1, rfl, _, rfl, ?_, _, _, rfl, rfl, ?_, ?_⟩⟩
      · rw [sizeLine_eq]; omega
      · rw [sizeLine_eq]; simp only [Tx.len_app]; omega
      · rw [sizeLine_eq]; simp only [Tx.len_app]; omega
      · have hs' : (Str.ofString (toString t)).length ≤ 10 := hs
        rw [sizeLine_eq]; simp only [Tx.len_app]; omega
      · rw [sizeLine_eq]; omega
      · have hs' : (Str.ofString (toString t)).length ≤ 10 := hs
        rw [cr, sizeLine_eq]; simp only [Tx.len_app]; omega
      · rw [cr]
        exact q _ s2
end
end K65

set_option Elab.async false
set_option linter.all false
set_option maxRecDepth 100000
set_option maxHeartbeats 8000000
namespace K65
open PySem PySem.Spec PyProof.Rows L2 Gd Rm La
section
variable {P : Program} {w : World} {K : PySem.W.Frag} {mg : Str → Option Value} {base : Heap}
theorem ok__law_text (a : At K mg "_law_text" s__law_text ["_law_layout_here"]) (c__law_word : Cl P w K mg base 3 "_law_word" spWord) : Cl P w K mg base 4 "_law_text" spFmt := by
  refine clG a sc__law_text (fun vs H Q E h => ?_) (fun f cdv A outer s H vs Q hg hr h => ?_)
  · obtain ⟨c, L, m, rfl, _⟩ := h
    rfl
  · obtain ⟨c, L, m, rfl, hL, hO, q⟩ := h
    refine ⟨_, (pss_one (ps_ret (pe_bm PySem.F.plainAttrs_str PySem.F.slot_str_join PySem.F.type_str_join mt_join pe_str (pa_cons (pe_lc (own := [("_law_row", 1)]) (g := (gName 1)) (by rfl) sc__law_text.nd (pi_list (pv 0)) (blkOk_by (N := n__law_text) (sc := defScope s__law_text) (by decide +kernel)) (fun _ _ _ _ _ => (pg_name (i := 1) sc__law_text.nd rfl (Or.inl rfl))) (fun _ _ _ _ _ => pts_nil) (fun _ _ _ _ _ => (by exact (pe_bmB (K0 := K) (r := Tx.rJoin K) rfl PySem.F.plainAttrs_str PySem.F.slot_str_join PySem.F.type_str_join mt_join pe_str (pa_cons (pe_lc (wi := iList K (tVar 1)) (own := [("_law_action_here", 2)]) (g := (gName 2)) (by rfl) sc__law_text.nd (pi_list (pv 1)) (blkOk_by (N := n__law_text) (by unfold blkC; rfl)) (fun _ _ _ _ _ => (pg_name (i := 2) sc__law_text.nd rfl (Or.inl rfl))) (fun _ _ _ _ _ => pts_nil) (fun _ _ _ _ _ => (pe_cl c__law_word hg hr (by decide) (by rfl) (pa_cons (pv 2) pa_nil)))) pa_nil))))) pa_nil)))), ?_⟩
    have hok := rows_ok hO
    have n6 := hO.n6
    have s1 := Same.refl H
    obtain ⟨rs, hc, hR⟩ := hL
    have hlen : (rs.map V.ref).length = L.length := by rw [List.length_map]; exact hR.1
    refine ⟨rfl, _, rfl, c, rfl, ⟨_, SqL.of hc⟩, fun M nM => lc_it (walk_list (xs := rs.map V.ref)) (fun i H' => Same H H' ∧ H' M = some (.lst (((L.take i).map Tx.rowT).map V.str))) ⟨same_upd nM, upd_same⟩
      (fun i H' _ p => SqL.of (p.1 _ _ hc)) (fun i x H2 H3 hi p y => ?_) (fun H2 p => ?_)⟩
    · obtain ⟨rfl, ex⟩ := y
      have hi' : i < L.length := by omega
      obtain ⟨r, hr1, vs, hvs, ha⟩ := hR.at_ hi'
      have ex' : x = .ref r := Option.some.inj (ex.symm.trans (get_map_ref hr1))
      subst ex'
      have hrow := hok _ (List.getElem_mem hi')
      have hv2 := p.1 _ _ hvs
      have ha2 := ha.keep (Tk.of p.1)
      refine ⟨rfl, rfl, _, rfl, r, rfl, ⟨_, SqL.of hv2⟩, fun N nN => lc_it (walk_list (xs := vs)) (fun j H' => Same H3 H' ∧ H' N = some (.lst (((L[i].take j).map Tx.wtx).map V.str))) ⟨same_upd nN, upd_same⟩
        (fun j H' _ p => SqL.of (p.1 _ _ hv2)) (fun j v H4 H5 hj p4 y => ?_) (fun H4 p4 => ?_)⟩
      · obtain ⟨rfl, ev⟩ := y
        have hvl := ha.1
        have hj' : j < L[i].length := by omega
        have hav := ha2.2 j v L[i][j] ev (List.getElem?_eq_getElem hj')
        refine ⟨rfl, _, rfl, v, L[i][j], (L.length : Int), (i : Int), rfl, hav.keep (Tk.of p4.1), hO.ok i _ (List.getElem?_eq_getElem hi') _ (List.getElem_mem hj'), by omega, fun H6 s6 => ⟨_, s6 _ _ p4.2, ?_, Same.off (p4.1.trans s6) nN off_upd, ?_⟩⟩
        · have := hrow.2.1
          rw [List.length_map, List.length_map, List.length_take]; exact small1000 (by omega)
        · rw [upd_same, List.take_add_one, List.getElem?_eq_getElem hj', List.map_append, List.map_append]; rfl
      · have hvl := ha.1
        rw [show vs.length = L[i].length from hvl, List.take_length] at p4
        have hw := Tx.words_len hrow (by omega)
        have hsum := lens_sum hw
        have := hrow.2.1
        have e1 : ((" " : String) : Str).length = 1 := Tx.sp_len
        rw [List.length_map] at hsum
        refine ⟨_, N, _, rfl, rfl, .inl (SqL.of p4.2), by rw [e1, List.length_map]; omega, _, p4.1 _ _ p.2, ?_, Same.off (p.1.trans p4.1) nM off_upd, ?_⟩
        · rw [List.length_map, List.length_map, List.length_take]; exact small1000 (by omega)
        · rw [upd_same, List.take_add_one, List.getElem?_eq_getElem hi', List.map_append, List.map_append]; rfl
    · rw [hlen, List.take_length] at p
      have hw : ∀ r ∈ L.map Tx.rowT, r.length ≤ 700 := fun r hr => by
        obtain ⟨xs, hx, rfl⟩ := List.mem_map.mp hr
        exact Tx.rowT_len (hok xs hx) (by omega)
      have hsum := lens_sum hw
      have e1 : (("\n" : String) : Str).length = 1 := Tx.nl_len
      rw [List.length_map] at hsum
      exact ⟨_, M, _, rfl, rfl, .inl (SqL.of p.2), by rw [e1, List.length_map]; omega, q _ (s1.trans p.1)⟩
theorem ok__law_any_code (bt : Bt mg) (a : At K mg "_law_any_code" s__law_any_code ["_law_reel_here"]) (c__law_spin : Cl P w K mg base 1 "_law_spin" spSpin) : Cl P w K mg base 2 "_law_any_code" spLCode := by
  refine clG a sc__law_any_code (fun vs H Q E h => ?_) (fun f cdv A outer s H vs Q hg hr h => ?_)
  · obtain ⟨r, n, rfl, _⟩ := h
    rfl
  · obtain ⟨r, n, rfl, hR, hn, q⟩ := h
    have hn : n + 100 < 1000000000 := hn
    refine ⟨_, (pss_cons (ps_set (i := 1) sc__law_any_code.nd rfl (Or.inr rfl) pe_str)
      (pss_one (ps_ret (pe_bm PySem.F.plainAttrs_str PySem.F.slot_str_join PySem.F.type_str_join mt_join pe_str (pa_cons (pe_lc (own := [("_law_turn", 2)]) (g := (gName 2)) (by rfl) sc__law_any_code.nd (pi_range1 (by rfl) bt.m_range (pa_cons (pe_op op_add pe_int (pe_cl c__law_spin hg hr (by decide) (by rfl) (pa_cons (pv 0) (pa_cons pe_int pa_nil)))) pa_nil)) (blkOk_by (N := n__law_any_code) (sc := defScope s__law_any_code) (by decide +kernel)) (fun _ _ _ _ _ => (pg_name (i := 2) sc__law_any_code.nd rfl (Or.inl rfl))) (fun _ _ _ _ _ => pts_nil) (fun _ _ _ _ _ => (pe_ix ix_str (pv 1) (pe_cl c__law_spin hg hr (by decide) (by rfl) (pa_cons (pv 0) (pa_cons pe_int pa_nil))) (fun _ _ => rfl)))) pa_nil))))), ?_⟩
    refine ⟨rfl, _, rfl, r, 8, n, rfl, by decide, by decide, by show _ < 1000000000; omega, hR, fun m H3 m0 m1 R3 o3 => ⟨_, _, rfl, rfl, ?_⟩⟩
    refine (fun (G : ∀ H4, Reel H4 r (n + 2) → Off r H H4 → _) => G _ (R3.mono (by omega)) o3) (fun H4 R4 o4 => ?_)
    refine ⟨1 + m, rfl, by omega, by omega, fun M nM => lc_it walk_range (fun i H' => Off r H4 H' ∧ Reel H' r (n + 2 + i) ∧ ∃ cs : List Nat, H' M = some (.lst ((cs.map fun c => (⟨#[c]⟩ : Str)).map V.str)) ∧ cs.length = i ∧ ∀ c ∈ cs, c ∈ signs.cps.toList) ?_ (fun _ _ _ _ => True.intro) (fun i x H5 H6 hi p y => ?_) (fun H5 p => ?_)⟩
    · exact ⟨Off.of (same_upd nM), R4.same (same_upd nM), [], upd_same, rfl, fun c h => by simp at h⟩
    · obtain ⟨rfl, rfl⟩ := y
      obtain ⟨o5, R5, cs, hM, hl, hcs⟩ := p
      have Mr : M ≠ r := by
        obtain ⟨_, _, _, hr2, _⟩ := id R4
        exact (ne_of_none hr2 nM).symm
      have hi8 : i < 8 := by omega
      refine ⟨rfl, ⟨_, rfl, _, rfl, r, 36, n + 2 + i, rfl, by decide, by decide, by show _ < 1000000000; omega, R5, fun d' H7 d0' d1' R7 o7 => ?_⟩⟩
      obtain ⟨c, hc, hm⟩ := getS d0' d1'
      refine ⟨signs, d', c, rfl, rfl, (by decide +kernel), hc, _, o7 _ _ hM Mr, ?_, ?_⟩
      · rw [List.length_map, List.length_map]; exact small1000 (by omega)
      · refine ⟨(o5.trans o7).new nM, ?_, cs ++ [c], ?_, by rw [List.length_append, hl]; rfl, fun x hx => ?_⟩
        · obtain ⟨x, y, z, g, g'⟩ := R7
          exact ⟨x, y, z, by rw [upd_ne Mr.symm]; exact g, g'⟩
        · rw [upd_same, List.map_append, List.map_append]; rfl
        · rcases List.mem_append.mp hx with z | z
          · exact hcs x z
          · rw [List.mem_singleton.mp z]; exact hm
    · obtain ⟨o5, R5, cs, hM, hl, hcs⟩ := p
      refine ⟨"", M, cs.map fun c => ⟨#[c]⟩, rfl, rfl, .inl (SqL.of hM), ?_, ?_⟩
      · rw [sum_one, List.length_map]
        show _ + _ * 0 ≤ 16777216
        omega
      · refine q _ _ (o4.trans o5) (R5.mono (by omega)) (code_join (by omega) (by omega) hcs)
end
end K65

set_option Elab.async false
set_option linter.all false
set_option maxRecDepth 100000
set_option maxHeartbeats 8000000
namespace K65
open PySem PySem.Spec PyProof.Rows L2 Gd Rm La
structure Rp (d : PyData) : Prop where
  sh : d.showable = true
  dp : d.depth ≤ 50
  ln : d.shown.length ≤ sizeLine
theorem rp {d : PyData} {L n : Nat} (f : Fit L n d) (hL : L ≤ 16777216) (hn : n ≤ 50) : Rp d :=
  ⟨f.sh, by have := f.dp; omega, by have := f.ln; rw [sizeLine_eq]; omega⟩
theorem sh_nil : SeqAt.shaped (.list []) = true := by decide +kernel
section
variable {P : Program} {w : World} {K : PySem.W.Frag} {mg : Str → Option Value} {base : Heap}
def spRight : Sp := fun vs H Q _ => ∃ (c : Addr) (L : List (List Actn)) (m : Nat), vs = [.ref c] ∧ Lay H c L ∧ LayOk L m ∧ ∀ (H' : Hp), Same H H' → Q (.bl true) H'
theorem ok__law_right (bt : Bt mg) (a : At K mg "_law_right" s__law_right ["_law_layout_here"]) (c_parse_layout : Cl P w K mg base 7 "parse_layout" spParse) (c_format_layout : Cl P w K mg base 8 "format_layout" spFmt) (c__law_text : Cl P w K mg base 4 "_law_text" spFmt) : Cl P w K mg base 9 "_law_right" spRight := by
  refine clG a sc__law_right (fun vs H Q E h => ?_) (fun f cdv A outer s H vs Q hg hr h => ?_)
  · obtain ⟨c, L, m, rfl, _⟩ := h
    rfl
  · obtain ⟨c, L, m, rfl, hL, hO, q⟩ := h
    have n6 := hO.n6
    have n1 := hO.n1
    have m1 := hO.m1
    have m16 := hO.m16
    have R : Rp (layD L) := rp hO.fit (by decide) (by decide)
    refine ⟨_, (pss_cons (ps_par (i := 1) (j := 2) rfl sc__law_right.nd rfl rfl (by decide) rfl rfl (pa_cons (pe_callB (call_rep hg hr) (by rfl) bt.m_repr (by decide +kernel) (pa_cons (pv 0) pa_nil)) (pa_cons (pe_cl c__law_text hg hr (by decide) (by rfl) (pa_cons (pv 0) pa_nil)) pa_nil)) (by rfl))
      (pss_cons (ps_for PassesOwn.never rfl (pi_range1 (by rfl) bt.m_range (pa_cons pe_int pa_nil)) (pg_name (i := 3) sc__law_right.nd rfl (Or.inl rfl)) (pss_cons (ps_set (i := 4) sc__law_right.nd rfl (Or.inl rfl) (pe_cl c_parse_layout hg hr (by decide) (by rfl) (pa_cons (pv 2) pa_nil)))
      (pss_cons (ps_if (PW.pt (pw_or (pt_cmpR op_ne (pe_cl c_format_layout hg hr (by decide) (by rfl) (pa_cons (pv 0) pa_nil)) (pv 2) (nomark _)) (pw_or (pt_cmpR op_ne (pe_callB (call_rep hg hr) (by rfl) bt.m_repr (by decide +kernel) (pa_cons (pv 4) pa_nil)) (pv 1) (nomark _)) (pw_or1 (pt_cmpR op_ne (pe_callB (call_rep hg hr) (by rfl) bt.m_repr (by decide +kernel) (pa_cons (pv 0) pa_nil)) (pv 1) (nomark _)))))) (pss_one (ps_ret pe_bl)) pss_nil)
      (pss_cons (ps_for PassesOwn.never rfl (pi_list (pv 4)) (pg_name (i := 5) sc__law_right.nd rfl (Or.inl rfl)) (pss_one (ps_expr (pe_bm PySem.F.plainAttrs_list PySem.F.slot_list_append PySem.F.type_list_append mt_append (pv 5) (pa_cons pe_str pa_nil)))))
      (pss_cons (ps_if (pt_cmpR (op_neD hr.units) (pe_lc (own := [("_law_row", 5)]) (g := (gName 5)) (by rfl) sc__law_right.nd (pi_list (pv 4)) (blkOk_by (N := n__law_right) (sc := defScope s__law_right) (by decide +kernel)) (fun _ _ _ _ _ => (pg_name (i := 5) sc__law_right.nd rfl (Or.inl rfl))) (fun _ _ _ _ _ => (pts_one (pt_cmpR op_ne (pe_callB (r := rLenB K) call_len_seq (by rfl) bt.m_len (by decide +kernel) (pa_cons (pv 5) pa_nil)) (pe_op op_add (pe_callB (r := rLenB K) call_len_seq (by rfl) bt.m_len (by decide +kernel) (pa_cons (pe_ix (r := rIxL K) ix_list (pv 0) pe_int (fun _ _ => rfl)) pa_nil)) pe_int) (nomark _)))) (fun _ _ _ _ _ => (pv 5))) (pe_lst pa_nil) (nomark _)) (pss_one (ps_ret pe_bl)) pss_nil)
      (pss_one (ps_expr (pe_bm0 PySem.F.plainAttrs_list PySem.F.slot_list_reverse PySem.F.type_list_reverse mt_reverse (pv 4)))))))))
      (pss_one (ps_ret pe_bl)))), ?_⟩
    refine ⟨_, rfl, c, _, rfl, hL.dp, R.sh, R.dp, R.ln, _, rfl, c, L, m, rfl, hL, hO, fun H1 s1 => ⟨_, _, rfl, ?_⟩⟩
    refine ⟨2, rfl, by decide, by decide, for_it walk_range (fun t σ H' => Same H H' ∧ ∃ y3 y4 y5, σ = [some (.ref c), some (.str (layD L).shown), some (.str (Tx.layT L)), y3, y4, y5]) ⟨s1, _, _, _, rfl⟩ (fun _ _ _ _ _ => True.intro) (fun t z σ Hx H4 ht p y => ?_) (fun σ H4 p => ?_)⟩
    · obtain ⟨s4, y3, y4, y5, rfl⟩ := p
      obtain ⟨rfl, rfl⟩ := y
      refine ⟨_, rfl, L, m, rfl, hO, fun H5 p nP fr => ?_⟩
      have s5 := s4.trans fr.same
      refine ⟨_, rfl, c, L, m, rfl, hL.same s5, hO, fun H6 s6 => ⟨_, rfl, rfl, _, rfl, iteNS rfl ?_⟩⟩
      have s56 := s5.trans s6
      refine ⟨_, rfl, p, _, rfl, (fr.lay.same s6).dp, R.sh, R.dp, R.ln, _, rfl, rfl, _, rfl, iteNS rfl ?_⟩
      refine ⟨_, rfl, c, _, rfl, (hL.same s56).dp, R.sh, R.dp, R.ln, _, rfl, rfl, _, rfl, iteNS rfl ?_⟩
      obtain ⟨sf, rs, hp, hR, nd, hn⟩ := id fr
      have hp6 := s6 _ _ hp
      have hR6 := hR.same s6
      have sf6 := sf.trans s6
      have hrl : rs.length = L.length := hR.1
      have hrows : ∀ (j : Nat) r, rs[j]? = some r → ∃ vs, H6 r = some (.lst vs) ∧ vs.length = m := fun j r hj => by
        have hjl := (List.getElem?_eq_some_iff.mp hj).1
        obtain ⟨vs, hvs, ha⟩ := hR6.2 j r _ hj (List.getElem?_eq_getElem (by omega))
        exact ⟨vs, hvs, by rw [ha.1]; exact hO.len _ (List.getElem_mem _)⟩
      refine ⟨_, rfl, p, rfl, ⟨_, SqL.of hp6⟩, for_it (walk_list (xs := rs.map V.ref)) (fun k σ H' => Same H4 H' ∧ H' p = some (.lst (rs.map V.ref)) ∧ (∀ (j : Nat) r, rs[j]? = some r → ∃ vs, H' r = some (.lst vs) ∧ vs.length = if j < k then m + 1 else m) ∧ ∃ y5, σ = [some (.ref c), some (.str (layD L).shown), some (.str (Tx.layT L)), some (.int (0 + (t : Int))), some (.ref p), y5])
        ⟨sf6, hp6, fun j r hj => by obtain ⟨vs, a, b⟩ := hrows j r hj; exact ⟨vs, a, by rw [if_neg (Nat.not_lt_zero _)]; exact b⟩, _, rfl⟩ (fun _ _ H' _ p => SqL.of p.2.1) (fun k z σ Hx H7 hk p7 y => ?_) (fun σ H7 p7 => ?_)⟩
      · obtain ⟨s7, hp7, hr7, y5, rfl⟩ := p7
        obtain ⟨rfl, hz⟩ := y
        have hk' : k < rs.length := by rw [List.length_map] at hk; exact hk
        have hrk := List.getElem?_eq_getElem hk'
        have ez : z = .ref rs[k] := Option.some.inj (hz.symm.trans (get_map_ref hrk))
        subst ez
        have hm := List.getElem_mem hk'
        obtain ⟨vs, hvs, h1⟩ := hr7 _ _ hrk
        rw [if_neg (Nat.lt_irrefl _)] at h1
        have n0 := hn _ hm
        refine ⟨_, rfl, .inl ⟨rfl, _, SqL.of hvs⟩, rs[k], _, .str "odd", rfl, rfl, hvs, ?_, ?_, ?_, ?_, _, rfl⟩
        · exact small1000 (by omega)
        · exact Same.off s7 n0.1 off_upd
        · rw [upd_ne n0.2.symm]; exact hp7
        · intro j r' hj
          by_cases e : j = k
          · subst e
            rw [hrk] at hj
            cases hj
            refine ⟨_, upd_same, ?_⟩
            rw [List.length_append, if_pos (Nat.lt_succ_self _), h1]; rfl
          · have er : r' ≠ rs[k] := fun z => e (by
              subst z
              exact nd_ix nd hj hrk)
            obtain ⟨vs', a, b⟩ := hr7 j r' hj
            refine ⟨vs', by rw [upd_ne er]; exact a, ?_⟩
            rw [b]
            by_cases z : j < k
            · rw [if_pos z, if_pos (by omega)]
            · rw [if_neg z, if_neg (by omega)]
      · obtain ⟨s7, hp7, hr7, y5, rfl⟩ := p7
        have s47 := s4.trans s7
        obtain ⟨rs0, hc7, hR7⟩ := hL.same s47
        obtain ⟨q0, hq0, vs0, hv0, ha0⟩ := hR7.at_ (i := 0) (by omega)
        have hm0 : vs0.length = m := by rw [ha0.1]; exact hO.len _ (List.getElem_mem _)
        refine ⟨_, rfl, p, rfl, ⟨_, SqL.of hp7⟩, fun M nM => lc_it (walk_list (xs := rs.map V.ref)) (fun k H' => Same H7 H' ∧ H' M = some (.lst [])) ⟨same_upd nM, upd_same⟩ (fun k H' _ p => SqL.of (p.1 _ _ hp7)) (fun k x H8 H9 hk p8 y => ?_) (fun H8 p8 => ?_)⟩
        · obtain ⟨rfl, ex⟩ := y
          obtain ⟨s8, hM⟩ := p8
          have hk' : k < rs.length := by rw [List.length_map] at hk; exact hk
          have hrk := List.getElem?_eq_getElem hk'
          have ez : x = .ref rs[k] := Option.some.inj (ex.symm.trans (get_map_ref hrk))
          subst ez
          obtain ⟨vs, hvs, h1⟩ := hr7 _ _ hrk
          have hkl : k < (rs.map V.ref).length := by rw [List.length_map]; exact hk'
          rw [if_pos hkl] at h1
          refine ⟨rfl, _, rfl, rs[k], vs, rfl, .inl (SqL.of (s8 _ _ hvs)), _, rfl, c, _, 0, .ref q0, rfl, rfl, SqL.of (s8 _ _ hc7), atI_nat (j := 0) (get_map_ref hq0), q0, vs0, rfl, .inl (SqL.of (s8 _ _ hv0)), _, _, rfl, rfl, rfl, false, ?_, iteF ⟨s8, hM⟩⟩
          have e : V.int (vs.length : Int) = V.int ((vs0.length : Int) + 1) := by rw [h1, hm0]; rfl
          rw [e]
          exact congrArg V.bl (by simp)
        · obtain ⟨s8, hM⟩ := p8
          refine ⟨Nat.zero_le _, fun Z nZ => ⟨_, _, .lst (SqL.of ((same_upd nZ) _ _ hM)) .nil, .lst (SqL.of upd_same) .nil, shaped_nil, shaped_nil, false, congrArg V.bl (by decide +kernel), iteF ?_⟩⟩
          have s89 := s8.trans (same_upd (o := .lst []) nZ)
          refine ⟨_, rfl, .inl ⟨rfl, _, SqL.of (s89 _ _ hp7)⟩, p, _, rfl, rfl, s89 _ _ hp7, ?_, _, _, _, rfl⟩
          exact s4.trans (Same.off (s7.trans s89) nP off_upd)
    · obtain ⟨s4, y3, y4, y5, rfl⟩ := p
      exact q _ s4
end
end K65

set_option Elab.async false
set_option linter.all false
set_option maxRecDepth 100000
set_option maxHeartbeats 8000000
namespace K65
open PySem PySem.Spec PyProof.Rows L2 Gd Rm La
theorem lay_off {H0 H H' : Hp} {c r : Addr} {L : List (List Actn)} {oo : HO} (h : FL H0 c L H) (n : H0 c = none) (hr : H0 r = some oo) (o : Off r H H') (t : Tk H H') : FL H0 c L H' := by
  obtain ⟨rs, a, b, d, e⟩ := h
  refine ⟨rs, o _ _ a (ne_of_none hr n).symm, ⟨b.1, fun i r' row x y => row_off (b.2 i r' row x y) (ne_of_none hr (e r' (List.mem_of_getElem? x)).1).symm o t⟩, d, e⟩
theorem FL.set {H0 H : Hp} {D r : Addr} {L : List (List Actn)} {rs : List Addr} {row : List Actn} {vs : List V} {i j : Nat} {v : V} {x : Actn} (h : H D = some (.lst (rs.map V.ref))) (hR : Rows H rs L) (nd : rs.Nodup) (hn : ∀ r ∈ rs, H0 r = none ∧ r ≠ D)
    (hi : rs[i]? = some r) (hL : L[i]? = some row) (hv : H r = some (.lst vs)) (ha : Acts H vs row) (hx : ActV H x v) : FL H0 D (L.set i (row.set j x)) (upd H r (.lst (vs.set j v))) := by
  have nr := hn r (List.mem_of_getElem? hi)
  have hil := (List.getElem?_eq_some_iff.mp hL).1
  refine ⟨rs, ?_, ⟨by rw [List.length_set]; exact hR.1, fun k r' row' a b => ?_⟩, nd, hn⟩
  · rw [upd_ne nr.2.symm]; exact h
  · by_cases z : i = k
    · subst z
      rw [List.getElem?_set_self hil] at b
      have e : row.set j x = row' := Option.some.inj b
      subst e
      rw [hi] at a
      have e : r = r' := Option.some.inj a
      subst e
      exact ⟨vs.set j v, upd_same, (ha.set hx).keep (tk_upd hv)⟩
    · rw [List.getElem?_set_ne z] at b
      refine row_upd (hR.2 k r' row' a b) hv fun e => z ?_
      subst e
      exact nd_ix nd hi a
theorem code_ok {c : Str} (h : CodeOk c) : LayOk [[Actn.code c]] 1 := ⟨Nat.le_refl 1, by show 1 ≤ 6; decide, by decide, by decide, fun row hr => by rw [List.mem_singleton.mp hr]; rfl, fun i row hr x hx => by
  have e := List.mem_singleton.mp (List.mem_of_getElem? hr)
  subst e
  rw [List.mem_singleton.mp hx]
  exact h⟩
def rowsR : List (List Actn) := [List.replicate 16 .none, List.replicate 16 .thr, List.replicate 16 .thr, List.replicate 16 .thr, List.replicate 16 .thr, List.replicate 16 (.lay "once" 5)]
def layR : List (List Actn) := [[.dualC "t" "5" 1000000000 "within", .dualL "0" 1 1 "time"], [.none, .lay "lock" 1]]
theorem rowsR_ok : LayOk rowsR 16 := by
  refine ⟨by decide, by decide, by decide, by decide, fun row hr => ?_, fun i row hr x hx => ?_⟩
  · unfold rowsR at hr
    simp only [List.mem_cons, List.mem_nil_iff, or_false] at hr
    rcases hr with rfl | rfl | rfl | rfl | rfl | rfl <;> exact List.length_replicate
  · have h6 : i < 6 := (List.getElem?_eq_some_iff.mp hr).1
    have hi : i = 0 ∨ i = 1 ∨ i = 2 ∨ i = 3 ∨ i = 4 ∨ i = 5 := by omega
    rcases hi with rfl | rfl | rfl | rfl | rfl | rfl <;> cases Option.some.inj hr <;> rw [(List.mem_replicate.mp hx).2]
    · trivial
    · exact (by decide : (0 : Int) < 1)
    · exact (by decide : (0 : Int) < 2)
    · exact (by decide : (0 : Int) < 3)
    · exact (by decide : (0 : Int) < 4)
    · exact ⟨by decide +kernel, by decide, by decide⟩
theorem layR_ok : LayOk layR 2 := by
  refine ⟨by decide, by decide, by decide, by decide, fun row hr => ?_, fun i row hr x hx => ?_⟩
  · unfold layR at hr
    simp only [List.mem_cons, List.mem_nil_iff, or_false] at hr
    rcases hr with rfl | rfl <;> rfl
  · have h6 : i < 2 := (List.getElem?_eq_some_iff.mp hr).1
    have hi : i = 0 ∨ i = 1 := by omega
    rcases hi with rfl | rfl <;> cases Option.some.inj hr <;> simp only [List.mem_cons, List.mem_nil_iff, or_false] at hx
    · rcases hx with rfl | rfl
      · exact ⟨by decide +kernel, by decide +kernel, by decide, by decide +kernel⟩
      · exact ⟨by decide +kernel, ⟨by decide, by decide⟩, by decide, by decide +kernel⟩
    · rcases hx with rfl | rfl
      · trivial
      · exact ⟨by decide +kernel, by decide, by decide⟩
theorem layR_text : decide (Tx.layT layR = (("t/5:1000000000w 0/@1:1t\n. !1" : String) : Str)) = true := by decide +kernel
theorem row_rep {H : Hp} {a : Addr} {n : Nat} {v : V} {x : Actn} (h : H a = some (.lst (List.replicate n v))) (hv : ActV H x v) : Row H a (List.replicate n x) :=
  ⟨_, h, by rw [List.length_replicate, List.length_replicate], fun i v' x' a b => by
    rw [(List.mem_replicate.mp (List.mem_of_getElem? a)).2, (List.mem_replicate.mp (List.mem_of_getElem? b)).2]
    exact hv⟩
section
variable {P : Program} {w : World} {K : PySem.W.Frag} {mg : Str → Option Value} {base : Heap}
def spLaw (K : PySem.W.Frag) : Sp := fun vs H Q _ => ∃ (a : Addr) (ns : List Int), vs = [.ref a] ∧ SqL K H a (ns.map V.int) ∧ ns.length ≤ 63 ∧ ∀ H', Q (.bl true) H'
theorem ok_law {f : Addr} {fd : FuncData} (bt : Bt mg) (a : Fun K "law" "law" s_law f fd) (c__law_reel : Cl P w K mg base 1 "_law_reel" (spReel K)) (c__law_spin : Cl P w K mg base 1 "_law_spin" spSpin) (c__law_layout : Cl P w K mg base 4 "_law_layout" spLLay)
    (c__law_any_code : Cl P w K mg base 2 "_law_any_code" spLCode) (c__law_right : Cl P w K mg base 9 "_law_right" spRight) (c_format_layout : Cl P w K mg base 8 "format_layout" spFmt) : FnG P w K mg base 10 f fd ["_law_script"] (spLaw K) := by
  refine fnG a sc_law (fun vs H Q E h => ?_) (fun cdv A outer s H vs Q hg hr h => ?_)
  · obtain ⟨a, e, rfl, _⟩ := h
    rfl
  · obtain ⟨sc, ns, rfl, hS, hl, q⟩ := h
    refine ⟨_, (pss_cons (ps_for PassesOwn.never rfl (pi_range1 (by rfl) bt.m_range (pa_cons (pe_callB (call_max2 rfl) (by rfl) bt.m_max (by decide +kernel) (pa_cons pe_int (pa_cons (pe_callB (call_min2 rfl) (by rfl) bt.m_min (by decide +kernel) (pa_cons pe_int (pa_cons (pe_callB call_len_seq (by rfl) bt.m_len (by decide +kernel) (pa_cons (pv 0) pa_nil)) pa_nil))) pa_nil))) pa_nil)) (pg_name (i := 1) sc_law.nd rfl (Or.inl rfl)) (pss_cons (ps_set (i := 2) sc_law.nd rfl (Or.inl rfl) (pe_cl c__law_reel hg hr (by decide) (by rfl) (pa_cons (pv 0) (pa_cons (pv 1) pa_nil))))
      (pss_one (ps_for PassesOwn.never rfl (pi_range1 (by rfl) bt.m_range (pa_cons pe_int pa_nil)) (pg_name (i := 3) sc_law.nd rfl (Or.inl rfl)) (pss_cons (ps_par (i := 4) (j := 5) rfl sc_law.nd rfl rfl (by decide) rfl rfl (pa_cons (pe_op op_add pe_int (pe_cl c__law_spin hg hr (by decide) (by rfl) (pa_cons (pv 2) (pa_cons pe_int pa_nil)))) (pa_cons (pe_op op_add pe_int (pe_cl c__law_spin hg hr (by decide) (by rfl) (pa_cons (pv 2) (pa_cons pe_int pa_nil)))) pa_nil)) (by rfl))
      (pss_cons (ps_set (i := 6) sc_law.nd rfl (Or.inl rfl) (pe_cl c__law_layout hg hr (by decide) (by rfl) (pa_cons (pv 2) (pa_cons (pv 4) (pa_cons (pv 5) (pa_cons (pe_ix ix_list (pe_lst (pa_cons pe_int (pa_cons (pe_op op_powW pe_int pe_int) pa_nil))) (pe_op op_mod (pv 3) pe_int) (fun _ _ => rfl)) pa_nil))))))
      (pss_cons (ps_par (i := 7) (j := 8) rfl sc_law.nd rfl rfl (by decide) rfl rfl (pa_cons (pe_cl c__law_spin hg hr (by decide) (by rfl) (pa_cons (pv 2) (pa_cons (pv 4) pa_nil))) (pa_cons (pe_cl c__law_spin hg hr (by decide) (by rfl) (pa_cons (pv 2) (pa_cons (pv 5) pa_nil))) pa_nil)) (by rfl))
      (pss_cons (ps_set (i := 9) sc_law.nd rfl (Or.inl rfl) (pe_ix ix_list (pv 6) (pv 7) (fun _ _ => rfl)))
      (pss_cons (ps_par (i := 10) (j := 11) rfl sc_law.nd rfl rfl (by decide) rfl rfl (pa_cons (pe_cl c__law_any_code hg hr (by decide) (by rfl) (pa_cons (pv 2) pa_nil)) (pa_cons (pe_cl c__law_any_code hg hr (by decide) (by rfl) (pa_cons (pv 2) pa_nil)) pa_nil)) (by rfl))
      (pss_cons (ps_asg (pe_tup (pa_cons pe_str (pa_cons (pv 10) (pa_cons (pe_tup (pa_cons pe_str (pa_cons (pv 11) pa_nil))) (pa_cons (pe_op op_add pe_int (pe_cl c__law_spin hg hr (by decide) (by rfl) (pa_cons (pv 2) (pa_cons (pe_op op_powW pe_int pe_int) pa_nil)))) (pa_cons pe_str pa_nil)))))) (pg_sub (pv 9) (pv 8) set_list))
      (pss_one (ps_if (PW.pt (pw_or (pt_not (pt_val (pe_cl c__law_right hg hr (by decide) (by rfl) (pa_cons (pv 6) pa_nil)))) (pw_or1 (pt_not (pt_val (pe_cl c__law_right hg hr (by decide) (by rfl) (pa_cons (pe_lst (pa_cons (pe_lst (pa_cons (pe_tup (pa_cons pe_str (pa_cons (pe_cl c__law_any_code hg hr (by decide) (by rfl) (pa_cons (pv 2) pa_nil)) pa_nil))) pa_nil)) pa_nil)) pa_nil))))))) (pss_one (ps_ret pe_bl)) pss_nil))))))))))))
      (pss_cons (ps_set (i := 12) sc_law.nd rfl (Or.inl rfl) (pe_op op_cat (pe_op op_cat (pe_lst (pa_cons (pe_op op_rep (pe_lst (pa_cons pe_str pa_nil)) pe_int) pa_nil)) (pe_op op_rep (pe_lst (pa_cons (pe_op op_rep (pe_lst (pa_cons pe_str pa_nil)) pe_int) pa_nil)) pe_int)) (pe_lst (pa_cons (pe_op op_rep (pe_lst (pa_cons (pe_tup (pa_cons pe_str (pa_cons pe_int pa_nil))) pa_nil)) pe_int) pa_nil))))
      (pss_cons (ps_set (i := 9) sc_law.nd rfl (Or.inl rfl) (pe_lst (pa_cons (pe_tup (pa_cons pe_str (pa_cons pe_str (pa_cons (pe_tup (pa_cons pe_str (pa_cons pe_str pa_nil))) (pa_cons (pe_op op_powW pe_int pe_int) (pa_cons pe_str pa_nil)))))) (pa_cons (pe_tup (pa_cons pe_str (pa_cons pe_str (pa_cons (pe_tup (pa_cons pe_str (pa_cons pe_int pa_nil))) (pa_cons pe_int (pa_cons pe_str pa_nil)))))) pa_nil))))
      (pss_cons (ps_set (i := 6) sc_law.nd rfl (Or.inl rfl) (pe_lst (pa_cons (pv 9) (pa_cons (pe_lst (pa_cons pe_str (pa_cons (pe_tup (pa_cons pe_str (pa_cons pe_int pa_nil))) pa_nil))) pa_nil))))
      (pss_one (ps_ret (pe_and (pe_cl c__law_right hg hr (by decide) (by rfl) (pa_cons (pv 12) pa_nil)) (pe_and (pe_cmpR op_eq (pe_cl c_format_layout hg hr (by decide) (by rfl) (pa_cons (pv 6) pa_nil)) pe_str (nomark _)) (pe_one (pe_cl c__law_right hg hr (by decide) (by rfl) (pa_cons (pv 6) pa_nil))))))))))), ?_⟩
    refine ⟨_, rfl, sc, _, rfl, .inl hS, _, _, rfl, ?_⟩
    refine ⟨1, _, rfl, _, rfl, ?_, ?_, ?_⟩
    · (repeat' split) <;> omega
    · (repeat' split) <;> omega
    refine for_it walk_range (fun i σ H' => Same H H' ∧ ∃ y1 y2 y3 y4 y5 y6 y7 y8 y9 y10 y11 y12, σ = [some (.ref sc), y1, y2, y3, y4, y5, y6, y7, y8, y9, y10, y11, y12]) ⟨Same.refl _, _, _, _, _, _, _, _, _, _, _, _, _, rfl⟩ (fun _ _ _ _ _ => True.intro) (fun i x σ Hx H1 hi p y => ?_) (fun σ H1 p => ?_)
    · obtain ⟨s1, y1, y2, y3, y4, y5, y6, y7, y8, y9, y10, y11, y12, rfl⟩ := p
      obtain ⟨rfl, hx⟩ := y
      have hx : x = .int (0 + (i : Int)) := hx
      subst hx
      have hi4 : i < 100 := by
        refine Nat.lt_of_lt_of_le hi ?_
        (repeat' split) <;> omega
      have hS1 : SqL K H1 sc (ns.map V.int) := s1.seq hS
      have e0 : (0 : Int) + (i : Int) = ((i : Nat) : Int) := Int.zero_add _
      refine ⟨_, rfl, _, rfl, sc, ns, i, (show [V.ref sc, V.int (0 + (i : Int))] = [V.ref sc, V.int (i : Int)] from by rw [e0]), hS1, hl, hi4, fun r H2 s2 nr R2 => ?_⟩
      refine ⟨5, rfl, by decide, by decide, for_it walk_range (fun j σ H' => Off r H2 H' ∧ Reel H' r (40000 * j) ∧ ∃ y3 y4 y5 y6 y7 y8 y9 y10 y11 y12, σ = [some (.ref sc), some (.int (0 + (i : Int))), some (.ref r), y3, y4, y5, y6, y7, y8, y9, y10, y11, y12]) ⟨Off.refl _, R2, _, _, _, _, _, _, _, _, _, _, rfl⟩ (fun _ _ _ _ _ => True.intro) (fun j x σ Hx H3 hj p y => ?_) (fun σ H3 p => ?_)⟩
      · obtain ⟨o3, R3, y3, y4, y5, y6, y7, y8, y9, y10, y11, y12, rfl⟩ := p
        obtain ⟨rfl, rfl⟩ := y
        have hj4 : j < 5 := hj
        refine ⟨_, rfl, r, 6, 40000 * j, rfl, by decide, by decide, by show _ < 1000000000; omega, R3, fun a' H4 a0 a1 R4 o4 => ⟨_, _, rfl, rfl, ?_⟩⟩
        refine ⟨_, rfl, r, 16, 40000 * j + 1, rfl, by decide, by decide, by show _ < 1000000000; omega, R4, fun b' H5 b0 b1 R5 o5 => ⟨_, _, rfl, rfl, _, _, rfl, ?_⟩⟩
        obtain ⟨a', rfl⟩ : ∃ a : Nat, a' = (a : Int) := ⟨a'.toNat, by omega⟩
        obtain ⟨b', rfl⟩ : ∃ b : Nat, b' = (b : Int) := ⟨b'.toNat, by omega⟩
        refine ⟨_, rfl, _, rfl, _, rfl, _, _, rfl, rfl, powW (i := 10) (n := 40) (k := 9) (by decide) (by decide), (by show 2 ≤ sizeLine; decide), fun G nG => ?_⟩
        have jm : (0 : Int) ≤ (0 + (j : Int)) % 2 ∧ (0 + (j : Int)) % 2 < 2 := by omega
        obtain ⟨g, hg1, hg2⟩ := getI (ns := [9, 1000000000]) jm.1 jm.2
        have gb : 1 ≤ g ∧ g ≤ 1000000000 := by
          have hm' := List.mem_of_getElem? hg2
          simp only [List.mem_cons, List.mem_nil_iff, or_false] at hm'
          omega
        have R5' := R5.same (same_upd (o := .lst ([9, 1000000000].map V.int)) nG)
        have o5' := o5.sameTrans (same_upd (o := .lst ([9, 1000000000].map V.int)) nG)
        refine ⟨_, rfl, _, _, rfl, rfl, (show (0 : Int) < 2 by decide), G, _, _, .int g, rfl, rfl, SqL.of upd_same, hg1, ?_⟩
        refine (fun (X : ∀ H5 : Hp, Reel H5 r (40000 * j + 2) → Off r H4 H5 → _) => X _ R5' o5') (fun H5 R5 o5 => ?_)
        refine ⟨r, 40000 * j + 2, 1 + a', 1 + b', g, rfl, R5, by show _ < 1000000000; omega, by omega, by omega, by omega, by omega, gb.1, gb.2, fun H6 c L o6 nc R6 fl hO hLn => ?_⟩
        obtain ⟨_, _, _, hr5, _⟩ := id R5
        have o26 : Off r H2 H6 := ((o3.trans o4).trans o5).trans o6
        have o25 : Off r H2 H5 := (o3.trans o4).trans o5
        obtain ⟨_, _, _, hr2, _⟩ := id R2
        refine ⟨_, rfl, _, rfl, r, 1 + (a' : Int), 40000 * j + 10002, rfl, by omega, small40 (by omega), by show _ < 1000000000; omega, R6.mono (by omega), fun u H7 u0 u1 R7 o7 => ?_⟩
        refine ⟨_, rfl, _, rfl, r, 1 + (b' : Int), 40000 * j + 10003, rfl, by omega, small40 (by omega), by show _ < 1000000000; omega, R7, fun v H8 v0 v1 R8 o8 => ⟨_, _, rfl, ?_⟩⟩
        obtain ⟨u, rfl⟩ : ∃ a : Nat, u = (a : Int) := ⟨u.toNat, by omega⟩
        obtain ⟨v, rfl⟩ : ∃ a : Nat, v = (a : Int) := ⟨v.toNat, by omega⟩
        have fl8 := lay_off (lay_off fl nc hr5 o7 (R6.tk o7)) nc hr5 o8 (R7.tk o8)
        obtain ⟨rs, hc8, hR8, _⟩ := id fl8
        have hu : u < L.length := by omega
        obtain ⟨rr, hrr, _⟩ := hR8.at_ hu
        refine ⟨_, rfl, _, rfl, c, _, (u : Int), .ref rr, rfl, rfl, SqL.of hc8, atI_nat (get_map_ref hrr), ?_⟩
        refine ⟨_, rfl, r, 40000 * j + 10004, rfl, R8, by show _ < 1000000000; omega, fun H9 c1 o9 R9 ok1 => ⟨_, rfl, r, 40000 * j + 10024, rfl, R9.mono (by omega), by show _ < 1000000000; omega, fun H10 c2 o10 R10 ok2 => ⟨_, _, rfl, ?_⟩⟩⟩
        refine ⟨_, rfl, _, rfl, (by show 2 ≤ sizeLine; decide), fun T1 n1 => ?_⟩
        have R11 := R10.same (same_upd (o := .tup [.str "code", .str c2]) n1)
        refine ⟨_, rfl, _, _, rfl, rfl, powW (i := 10) (n := 40) (k := 9) (by decide) (by decide), r, 10 ^ 9, 40000 * j + 10044, rfl, by decide, by decide, by show _ < 1000000000; omega, R11.mono (by omega), fun w H12 w0 w1 R12 o12 => ⟨_, _, rfl, rfl, (by show 5 ≤ sizeLine; decide), fun T2 n2 => ?_⟩⟩
        have hT1 : H12 T1 = some (.tup [.str "code", .str c2]) := R11.tk o12 _ _ upd_same
        have fl12 := lay_off (lay_off ((lay_off (lay_off fl8 nc hr5 o9 (R8.tk o9)) nc hr5 o10 (R9.tk o10)).keep (same_upd (o := .tup [.str "code", .str c2]) n1)) nc hr5 o12 (R11.tk o12)) nc hr5 (Off.of (same_upd (o := .tup [.str "dual", .str c1, .ref T1, .int (1 + w), .str "other"]) n2)) (Tk.of (same_upd n2))
        obtain ⟨rs2, hc12, hR12, nd12, hn12⟩ := id fl12
        have cr : c ≠ r := (ne_of_none hr5 nc).symm
        have hc13 := (same_upd (o := .tup [.str "dual", .str c1, .ref T1, .int (1 + w), .str "other"]) n2) _ _ (o12 _ _ ((same_upd (o := .tup [.str "code", .str c2]) n1) _ _ (o10 _ _ (o9 _ _ hc8 cr) cr)) cr)
        have ers : rs2.map V.ref = rs.map V.ref := HO.lst.inj (Option.some.inj (hc12.symm.trans hc13))
        have hrr2 : rs2[u]? = some rr := by
          have h1 := get_map_ref hrr
          rw [← ers, List.getElem?_map] at h1
          cases hh : rs2[u]? with
          | none => rw [hh] at h1; cases h1
          | some z => rw [hh] at h1; exact congrArg some (V.ref.inj (Option.some.inj h1))
        obtain ⟨vs2, hvs2, ha2⟩ := hR12.2 u rr _ hrr2 (List.getElem?_eq_getElem hu)
        have hvl : vs2.length = 1 + b' := by rw [ha2.1]; exact hO.len _ (List.getElem_mem _)
        have hix : ixN vs2.length (v : Int) = some v := by
          unfold ixN
          rw [if_pos (by omega), if_pos (by omega)]
          rfl
        refine ⟨_, rfl, _, rfl, rr, vs2, v, v, rfl, rfl, hvs2, hix, ?_⟩
        have actx : ActOk L.length u (.dualC c1 c2 (1 + w) "other") := ⟨ok1, ok2, ⟨by omega, by omega⟩, by decide +kernel⟩
        have flS := FL.set (j := v) hc12 hR12 nd12 hn12 hrr2 (List.getElem?_eq_getElem hu) hvs2 ha2 (x := .dualC c1 c2 (1 + w) "other") (v := .ref T2) ⟨T2, T1, rfl, upd_same, (same_upd n2) _ _ hT1⟩
        have hO' : LayOk (L.set u (L[u].set v (.dualC c1 c2 (1 + w) "other"))) (1 + b') := hO.set (List.getElem?_eq_getElem hu) actx
        have nrr5 := (hn12 rr (List.mem_of_getElem? hrr2)).1
        have rrr : rr ≠ r := (ne_of_none hr5 nrr5).symm
        have o13 : Off r H2 (upd H12 T2 (.tup [.str "dual", .str c1, .ref T1, .int (1 + w), .str "other"])) := ((((((o26.trans o7).trans o8).trans o9).trans o10).sameTrans (same_upd n1)).trans o12).sameTrans (same_upd n2)
        have nrr2 : H2 rr = none := by
          cases hh : H2 rr with
          | none => rfl
          | some z =>
            have := o25 _ _ hh rrr
            rw [nrr5] at this
            cases this
        have o14 := o13.new (o := .lst (vs2.set v (.ref T2))) nrr2
        have R13 := R12.same (same_upd (o := .tup [.str "dual", .str c1, .ref T1, .int (1 + w), .str "other"]) n2)
        have R14 : Reel (upd (upd H12 T2 (.tup [.str "dual", .str c1, .ref T1, .int (1 + w), .str "other"])) rr (.lst (vs2.set v (.ref T2)))) r (40000 * j + 10046) := by
          obtain ⟨x, y, z, g, g'⟩ := R13.mono (show _ ≤ 40000 * j + 10046 by omega)
          exact ⟨x, y, z, by rw [upd_ne rrr.symm]; exact g, g'⟩
        refine (fun (X : ∀ H14 : Hp, FL H5 c (L.set u (L[u].set v (.dualC c1 c2 (1 + w) "other"))) H14 → Reel H14 r (40000 * j + 10046) → Off r H2 H14 → _) => X _ flS R14 o14) (fun H14 fl14 R14 o14 => ?_)
        have lay14 : Lay H14 c (L.set u (L[u].set v (.dualC c1 c2 (1 + w) "other"))) := fl14.lay
        refine ⟨_, rfl, c, _, 1 + b', rfl, lay14, hO', fun H15 s15 => ⟨_, rfl, iteF ?_⟩⟩
        refine ⟨_, rfl, r, 40000 * j + 10046, rfl, R14.same s15, by show _ < 1000000000; omega, fun H16 c3 o16 R16 ok3 => ⟨(by show 2 ≤ sizeLine; decide), fun T3 n3 => ⟨(by show 1 ≤ sizeLine; decide), fun A1 m1 => ⟨(by show 1 ≤ sizeLine; decide), fun A2 m2 => ?_⟩⟩⟩⟩
        have k3 := same_upd (o := .tup [.str "code", .str c3]) n3
        have k4 := same_upd (o := .lst [.ref T3]) m1
        have k5 := same_upd (o := .lst [.ref A1]) m2
        have lay17 : Lay (upd (upd (upd H16 T3 (.tup [.str "code", .str c3])) A1 (.lst [.ref T3])) A2 (.lst [.ref A1])) A2 [[Actn.code c3]] := ⟨[A1], upd_same, rfl, fun i r row a b => by
          have hv := List.mem_singleton.mp (List.mem_of_getElem? a)
          have hx := List.mem_singleton.mp (List.mem_of_getElem? b)
          subst hv hx
          exact ⟨_, k5 _ _ upd_same, rfl, fun i v x a b => by
            have hv := List.mem_singleton.mp (List.mem_of_getElem? a)
            have hx := List.mem_singleton.mp (List.mem_of_getElem? b)
            subst hv hx
            exact ⟨T3, rfl, (k4.trans k5) _ _ upd_same⟩⟩⟩
        refine ⟨A2, [[Actn.code c3]], 1, rfl, lay17, code_ok ok3, fun H17 s17 => ⟨_, rfl, iteF ?_⟩⟩
        have s18 := ((k3.trans k4).trans k5).trans s17
        exact ⟨((o14.sameTrans s15).trans o16).sameTrans s18, (R16.same s18).mono (by omega), _, _, _, _, _, _, _, _, _, _, rfl⟩
      · obtain ⟨o3, R3, y3, y4, y5, y6, y7, y8, y9, y10, y11, y12, rfl⟩ := p
        exact ⟨s1.trans (Same.off s2 nr o3), _, _, _, _, _, _, _, _, _, _, _, _, rfl⟩
    · obtain ⟨s1, y1, y2, y3, y4, y5, y6, y7, y8, y9, y10, y11, y12, rfl⟩ := p
      refine ⟨(by show 1 ≤ sizeLine; decide), fun A0 m0 => ⟨A0, 16, _, rfl, rfl, upd_same, by decide, by decide, (by show 1 * 16 ≤ sizeLine; decide), fun A1 m1 => ⟨(by show 1 ≤ sizeLine; decide), fun B1 m2 => ?_⟩⟩⟩
      have f1 := (same_upd (o := .lst [.ref A1]) m2) _ _ (upd_same (a := A1) (o := .lst (List.replicate 16 (V.str "none"))))
      refine (fun (X : ∀ H2 : Hp, H2 A1 = some (.lst (List.replicate 16 (V.str "none"))) → H2 B1 = some (.lst [.ref A1]) → _) => X _ f1 upd_same) (fun H2 hA1 hB1 => ?_)
      clear f1 m0 m1 m2
      refine ⟨(by show 1 ≤ sizeLine; decide), fun C0 m0 => ⟨C0, 16, _, rfl, rfl, upd_same, by decide, by decide, (by show 1 * 16 ≤ sizeLine; decide), fun C1 m1 => ⟨(by show 1 ≤ sizeLine; decide), fun D0 m2 => ⟨D0, 4, _, rfl, rfl, upd_same, by decide, by decide, (by show 1 * 4 ≤ sizeLine; decide), fun D1 m3 => ?_⟩⟩⟩⟩
      have k1 := same_upd (o := .lst [.str "through"]) m0
      have k2 := same_upd (o := .lst (List.replicate 16 (V.str "through"))) m1
      have k3 := same_upd (o := .lst [.ref C1]) m2
      have k4 := same_upd (o := .lst [.ref C1, .ref C1, .ref C1, .ref C1]) m3
      have s14 := ((k1.trans k2).trans k3).trans k4
      refine (fun (X : ∀ H3 : Hp, Same H2 H3 → H3 C1 = some (.lst (List.replicate 16 (V.str "through"))) → H3 D1 = some (.lst [.ref C1, .ref C1, .ref C1, .ref C1]) → _) => X _ s14 ((k3.trans k4) _ _ upd_same) upd_same) (fun H3 s23 hC1 hD1 => ?_)
      clear k1 k2 k3 k4 s14 m0 m1 m2 m3
      refine ⟨B1, D1, _, _, rfl, rfl, s23 _ _ hB1, hD1, (by show 1 + 4 ≤ sizeLine; decide), fun E1 m0 => ?_⟩
      refine ⟨(by show 2 ≤ sizeLine; decide), fun T m1 => ⟨(by show 1 ≤ sizeLine; decide), fun F0 m2 => ⟨F0, 16, _, rfl, rfl, upd_same, by decide, by decide, (by show 1 * 16 ≤ sizeLine; decide), fun F1 m3 => ⟨(by show 1 ≤ sizeLine; decide), fun G0 m4 => ?_⟩⟩⟩⟩
      have k0 := same_upd (o := .lst ([.ref A1] ++ [.ref C1, .ref C1, .ref C1, .ref C1])) m0
      have k1 := same_upd (o := .tup [.str "once", .int 5]) m1
      have k2 := same_upd (o := .lst [.ref T]) m2
      have k3 := same_upd (o := .lst (List.replicate 16 (V.ref T))) m3
      have k4 := same_upd (o := .lst [.ref F1]) m4
      have s34 := (((k0.trans k1).trans k2).trans k3).trans k4
      refine (fun (X : ∀ H4 : Hp, Same H3 H4 → H4 E1 = some (.lst [.ref A1, .ref C1, .ref C1, .ref C1, .ref C1]) → H4 T = some (.tup [.str "once", .int 5]) → H4 F1 = some (.lst (List.replicate 16 (V.ref T))) → H4 G0 = some (.lst [.ref F1]) → _) => X _ s34 ((((k1.trans k2).trans k3).trans k4) _ _ upd_same) (((k2.trans k3).trans k4) _ _ upd_same) (k4 _ _ upd_same) upd_same) (fun H4 s34 hE1 hT hF1 hG0 => ?_)
      clear k0 k1 k2 k3 k4 m0 m1 m2 m3 m4
      refine ⟨E1, G0, _, _, rfl, rfl, hE1, hG0, (by show 5 + 1 ≤ sizeLine; decide), fun U m0 => ?_⟩
      have k0 := same_upd (o := .lst ([.ref A1, .ref C1, .ref C1, .ref C1, .ref C1] ++ [.ref F1])) m0
      have layU : Lay (upd H4 U (.lst ([.ref A1, .ref C1, .ref C1, .ref C1, .ref C1] ++ [.ref F1]))) U rowsR := by
        have r1 : Row (upd H4 U (.lst ([.ref A1, .ref C1, .ref C1, .ref C1, .ref C1] ++ [.ref F1]))) A1 (List.replicate 16 .none) := row_rep (k0 _ _ (s34 _ _ (s23 _ _ hA1))) rfl
        have r2 : Row (upd H4 U (.lst ([.ref A1, .ref C1, .ref C1, .ref C1, .ref C1] ++ [.ref F1]))) C1 (List.replicate 16 .thr) := row_rep (k0 _ _ (s34 _ _ hC1)) rfl
        have r3 : Row (upd H4 U (.lst ([.ref A1, .ref C1, .ref C1, .ref C1, .ref C1] ++ [.ref F1]))) F1 (List.replicate 16 (.lay "once" 5)) := row_rep (k0 _ _ hF1) ⟨T, rfl, k0 _ _ hT⟩
        refine ⟨[A1, C1, C1, C1, C1, F1], upd_same, rfl, fun i r row a b => ?_⟩
        have h6 : i < 6 := (List.getElem?_eq_some_iff.mp a).1
        have hi : i = 0 ∨ i = 1 ∨ i = 2 ∨ i = 3 ∨ i = 4 ∨ i = 5 := by omega
        rcases hi with rfl | rfl | rfl | rfl | rfl | rfl <;> cases Option.some.inj a <;> cases Option.some.inj b
        · exact r1
        · exact r2
        · exact r2
        · exact r2
        · exact r2
        · exact r3
      refine (fun (X : ∀ H5 : Hp, Lay H5 U rowsR → _) => X _ layU) (fun H5 layU => ?_)
      refine ⟨(by show 2 ≤ sizeLine; decide), fun T1 m1 => ⟨_, _, rfl, rfl, powW (i := 10) (n := 40) (k := 9) (by decide) (by decide), (by show 5 ≤ sizeLine; decide), fun T2 m2 => ⟨(by show 2 ≤ sizeLine; decide), fun T3 m3 => ⟨(by show 5 ≤ sizeLine; decide), fun T4 m4 => ⟨(by show 2 ≤ sizeLine; decide), fun W m5 => ?_⟩⟩⟩⟩⟩
      refine ⟨_, rfl, (by show 2 ≤ sizeLine; decide), fun T5 m6 => ⟨(by show 2 ≤ sizeLine; decide), fun W2 m7 => ⟨(by show 2 ≤ sizeLine; decide), fun V0 m8 => ?_⟩⟩⟩
      have k1 := same_upd (o := .tup [.str "code", .str "5"]) m1
      have k2 := same_upd (o := .tup [.str "dual", .str "t", .ref T1, .int (10 ^ (9 : Int).toNat), .str "within"]) m2
      have k3 := same_upd (o := .tup [.str "layer", .int 1]) m3
      have k4 := same_upd (o := .tup [.str "dual", .str "0", .ref T3, .int 1, .str "time"]) m4
      have k5 := same_upd (o := .lst [.ref T2, .ref T4]) m5
      have k6 := same_upd (o := .tup [.str "lock", .int 1]) m6
      have k7 := same_upd (o := .lst [.str "none", .ref T5]) m7
      have k8 := same_upd (o := .lst [.ref W, .ref W2]) m8
      have x1 := (((((((k2.trans k3).trans k4).trans k5).trans k6).trans k7).trans k8)) _ _ (upd_same (a := T1))
      have x2 := ((((((k3.trans k4).trans k5).trans k6).trans k7).trans k8)) _ _ (upd_same (a := T2))
      have x3 := (((((k4.trans k5).trans k6).trans k7).trans k8)) _ _ (upd_same (a := T3))
      have x4 := ((((k5.trans k6).trans k7).trans k8)) _ _ (upd_same (a := T4))
      have x5 := (((k6.trans k7).trans k8)) _ _ (upd_same (a := W))
      have x6 := ((k7.trans k8)) _ _ (upd_same (a := T5))
      have x7 := k8 _ _ (upd_same (a := W2))
      have sA := ((((((k1.trans k2).trans k3).trans k4).trans k5).trans k6).trans k7).trans k8
      have layV : Lay _ V0 layR := ⟨[W, W2], upd_same, rfl, fun i r row a b => by
        have h6 : i < 2 := (List.getElem?_eq_some_iff.mp a).1
        have hi : i = 0 ∨ i = 1 := by omega
        rcases hi with rfl | rfl <;> cases Option.some.inj a <;> cases Option.some.inj b
        · refine ⟨_, x5, rfl, fun i v x a b => ?_⟩
          have h6 : i < 2 := (List.getElem?_eq_some_iff.mp a).1
          have hi : i = 0 ∨ i = 1 := by omega
          rcases hi with rfl | rfl <;> cases Option.some.inj a <;> cases Option.some.inj b
          · exact ⟨T2, T1, rfl, x2, x1⟩
          · exact ⟨T4, T3, rfl, x4, x3⟩
        · refine ⟨_, x7, rfl, fun i v x a b => ?_⟩
          have h6 : i < 2 := (List.getElem?_eq_some_iff.mp a).1
          have hi : i = 0 ∨ i = 1 := by omega
          rcases hi with rfl | rfl <;> cases Option.some.inj a <;> cases Option.some.inj b
          · rfl
          · exact ⟨T5, rfl, x6⟩⟩
      refine (fun (X : ∀ H6 : Hp, Lay H6 U rowsR → Lay H6 V0 layR → _) => X _ (layU.same sA) layV) (fun H6 layU layV => ?_)
      clear x1 x2 x3 x4 x5 x6 x7 k1 k2 k3 k4 k5 k6 k7 k8 sA
      refine ⟨_, rfl, U, rowsR, 16, rfl, layU, rowsR_ok, fun H7 s7 => ⟨true, rfl, iteT ?_⟩⟩
      refine ⟨_, rfl, V0, layR, 2, rfl, layV.same s7, layR_ok, fun H8 s8 => ⟨rfl, true, eqS layR_text, iteT ?_⟩⟩
      exact ⟨_, rfl, V0, layR, 2, rfl, layV.same (s7.trans s8), layR_ok, fun H9 s9 => q _⟩
end
end K65

set_option Elab.async false
set_option linter.all false
set_option maxRecDepth 100000
set_option maxHeartbeats 8000000
namespace K65
open PySem PySem.Spec PyProof.Rows L2 Gd Rm La
theorem at_mk {K : PySem.W.Frag} {h : Heap} {mg : Str → Option Value} {x : Str} {st : Stmt} {ps : List Str} {f : Addr} {od an : Option Addr} {sl : Array (Option Value)} {oc kV dc pm cd ct : Value} (X : K.In h) (G : h.Ns mainGlobals mg)
    (a : PySem.W.nsIn K mainGlobals x = some (some (.ref f))) (l : K.lookup f = some ⟨oc, od, .func (PySem.W.fnOf x x (defArgs st) (defBody st) (defScope st) .none kV dc pm an cd ct), sl⟩) (c : PySem.W.codeIn K cd x = true) (k : PySem.W.keepIn K (.ref f) = true)
    (hb : ∀ (kV doc pm : Value) (an : Option Addr) (cdv ct : Value) (us : List Value), us.length = ps.length → bindArgs (PySem.W.fnOf x x (defArgs st) (defBody st) (defScope st) .none kV doc pm an cdv ct) ⟨us, []⟩ = pure (ps.zip us)) : At K mg x st ps :=
  ⟨_, _, fun_mk l c k, PySem.W.mg_of X G a, (fun_mk l c k).binds hb⟩
theorem all_mk {l : PySem.W.OpenLaw} {w : World} {K : PySem.W.Frag} {h : Heap} {mg : Str → Option Value} {fa : Addr} (X : K.In h) (G : h.Ns mainGlobals mg) (hfa : mg "law" = some (.ref fa))
    {f0 : Addr} {od0 an0 : Option Addr} {sl0 : Array (Option Value)} {oc0 kV0 dc0 pm0 cd0 ct0 : Value}
    {f1 : Addr} {od1 an1 : Option Addr} {sl1 : Array (Option Value)} {oc1 kV1 dc1 pm1 cd1 ct1 : Value}
    {f2 : Addr} {od2 an2 : Option Addr} {sl2 : Array (Option Value)} {oc2 kV2 dc2 pm2 cd2 ct2 : Value}
    {f3 : Addr} {od3 an3 : Option Addr} {sl3 : Array (Option Value)} {oc3 kV3 dc3 pm3 cd3 ct3 : Value}
    {f4 : Addr} {od4 an4 : Option Addr} {sl4 : Array (Option Value)} {oc4 kV4 dc4 pm4 cd4 ct4 : Value}
    {f5 : Addr} {od5 an5 : Option Addr} {sl5 : Array (Option Value)} {oc5 kV5 dc5 pm5 cd5 ct5 : Value}
    {f6 : Addr} {od6 an6 : Option Addr} {sl6 : Array (Option Value)} {oc6 kV6 dc6 pm6 cd6 ct6 : Value}
    {f7 : Addr} {od7 an7 : Option Addr} {sl7 : Array (Option Value)} {oc7 kV7 dc7 pm7 cd7 ct7 : Value}
    {f8 : Addr} {od8 an8 : Option Addr} {sl8 : Array (Option Value)} {oc8 kV8 dc8 pm8 cd8 ct8 : Value}
    {f9 : Addr} {od9 an9 : Option Addr} {sl9 : Array (Option Value)} {oc9 kV9 dc9 pm9 cd9 ct9 : Value}
    {f10 : Addr} {od10 an10 : Option Addr} {sl10 : Array (Option Value)} {oc10 kV10 dc10 pm10 cd10 ct10 : Value}
    {f11 : Addr} {od11 an11 : Option Addr} {sl11 : Array (Option Value)} {oc11 kV11 dc11 pm11 cd11 ct11 : Value}
    {f12 : Addr} {od12 an12 : Option Addr} {sl12 : Array (Option Value)} {oc12 kV12 dc12 pm12 cd12 ct12 : Value}
    {f13 : Addr} {od13 an13 : Option Addr} {sl13 : Array (Option Value)} {oc13 kV13 dc13 pm13 cd13 ct13 : Value}
    {f14 : Addr} {od14 an14 : Option Addr} {sl14 : Array (Option Value)} {oc14 kV14 dc14 pm14 cd14 ct14 : Value}
    {f15 : Addr} {od15 an15 : Option Addr} {sl15 : Array (Option Value)} {oc15 kV15 dc15 pm15 cd15 ct15 : Value}
    {f16 : Addr} {od16 an16 : Option Addr} {sl16 : Array (Option Value)} {oc16 kV16 dc16 pm16 cd16 ct16 : Value}
    {f17 : Addr} {od17 an17 : Option Addr} {sl17 : Array (Option Value)} {oc17 kV17 dc17 pm17 cd17 ct17 : Value}
    {f18 : Addr} {od18 an18 : Option Addr} {sl18 : Array (Option Value)} {oc18 kV18 dc18 pm18 cd18 ct18 : Value}
    {f19 : Addr} {od19 an19 : Option Addr} {sl19 : Array (Option Value)} {oc19 kV19 dc19 pm19 cd19 ct19 : Value}
    {f20 : Addr} {od20 an20 : Option Addr} {sl20 : Array (Option Value)} {oc20 kV20 dc20 pm20 cd20 ct20 : Value}
    {f21 : Addr} {od21 an21 : Option Addr} {sl21 : Array (Option Value)} {oc21 kV21 dc21 pm21 cd21 ct21 : Value}
    {f22 : Addr} {od22 an22 : Option Addr} {sl22 : Array (Option Value)} {oc22 kV22 dc22 pm22 cd22 ct22 : Value}
    {f23 : Addr} {od23 an23 : Option Addr} {sl23 : Array (Option Value)} {oc23 kV23 dc23 pm23 cd23 ct23 : Value}
    {f24 : Addr} {od24 an24 : Option Addr} {sl24 : Array (Option Value)} {oc24 kV24 dc24 pm24 cd24 ct24 : Value}
    {f25 : Addr} {od25 an25 : Option Addr} {sl25 : Array (Option Value)} {oc25 kV25 dc25 pm25 cd25 ct25 : Value}
    {f26 : Addr} {od26 an26 : Option Addr} {sl26 : Array (Option Value)} {oc26 kV26 dc26 pm26 cd26 ct26 : Value}
    {f27 : Addr} {od27 an27 : Option Addr} {sl27 : Array (Option Value)} {oc27 kV27 dc27 pm27 cd27 ct27 : Value}
    {tk0 : Tok}
    {tk1 : Tok}
    {tk2 : Tok}
    {tk3 : Tok}
    {tk4 : Tok}
    {g5 : Addr} {gs5 : Array (Option Value)} {gn5 : Nat} {tk5_0 tk5_1 tk5_2 : Tok}
    {g6 : Addr} {gs6 : Array (Option Value)} {gn6 : Nat} {tk6_0 tk6_1 tk6_2 : Tok}
    {tk7 : Tok}
    {tk8 : Tok}
    {tk9 : Tok}
    {tk10 : Tok}
    (a0 : PySem.W.nsIn K mainGlobals "is_an_integer" = some (some (.ref f0))) (l0 : K.lookup f0 = some ⟨oc0, od0, .func (PySem.W.fnOf "is_an_integer" "is_an_integer" (defArgs s_is_an_integer) (defBody s_is_an_integer) (defScope s_is_an_integer) .none kV0 dc0 pm0 an0 cd0 ct0), sl0⟩) (c0 : PySem.W.codeIn K cd0 "is_an_integer" = true) (k0 : PySem.W.keepIn K (.ref f0) = true)
    (a1 : PySem.W.nsIn K mainGlobals "is_between" = some (some (.ref f1))) (l1 : K.lookup f1 = some ⟨oc1, od1, .func (PySem.W.fnOf "is_between" "is_between" (defArgs s_is_between) (defBody s_is_between) (defScope s_is_between) .none kV1 dc1 pm1 an1 cd1 ct1), sl1⟩) (c1 : PySem.W.codeIn K cd1 "is_between" = true) (k1 : PySem.W.keepIn K (.ref f1) = true)
    (a2 : PySem.W.nsIn K mainGlobals "is_code" = some (some (.ref f2))) (l2 : K.lookup f2 = some ⟨oc2, od2, .func (PySem.W.fnOf "is_code" "is_code" (defArgs s_is_code) (defBody s_is_code) (defScope s_is_code) .none kV2 dc2 pm2 an2 cd2 ct2), sl2⟩) (c2 : PySem.W.codeIn K cd2 "is_code" = true) (k2 : PySem.W.keepIn K (.ref f2) = true)
    (a3 : PySem.W.nsIn K mainGlobals "is_code_action" = some (some (.ref f3))) (l3 : K.lookup f3 = some ⟨oc3, od3, .func (PySem.W.fnOf "is_code_action" "is_code_action" (defArgs s_is_code_action) (defBody s_is_code_action) (defScope s_is_code_action) .none kV3 dc3 pm3 an3 cd3 ct3), sl3⟩) (c3 : PySem.W.codeIn K cd3 "is_code_action" = true) (k3 : PySem.W.keepIn K (.ref f3) = true)
    (a4 : PySem.W.nsIn K mainGlobals "is_layer_action" = some (some (.ref f4))) (l4 : K.lookup f4 = some ⟨oc4, od4, .func (PySem.W.fnOf "is_layer_action" "is_layer_action" (defArgs s_is_layer_action) (defBody s_is_layer_action) (defScope s_is_layer_action) .none kV4 dc4 pm4 an4 cd4 ct4), sl4⟩) (c4 : PySem.W.codeIn K cd4 "is_layer_action" = true) (k4 : PySem.W.keepIn K (.ref f4) = true)
    (a5 : PySem.W.nsIn K mainGlobals "is_hold" = some (some (.ref f5))) (l5 : K.lookup f5 = some ⟨oc5, od5, .func (PySem.W.fnOf "is_hold" "is_hold" (defArgs s_is_hold) (defBody s_is_hold) (defScope s_is_hold) .none kV5 dc5 pm5 an5 cd5 ct5), sl5⟩) (c5 : PySem.W.codeIn K cd5 "is_hold" = true) (k5 : PySem.W.keepIn K (.ref f5) = true)
    (a6 : PySem.W.nsIn K mainGlobals "is_dual_action" = some (some (.ref f6))) (l6 : K.lookup f6 = some ⟨oc6, od6, .func (PySem.W.fnOf "is_dual_action" "is_dual_action" (defArgs s_is_dual_action) (defBody s_is_dual_action) (defScope s_is_dual_action) .none kV6 dc6 pm6 an6 cd6 ct6), sl6⟩) (c6 : PySem.W.codeIn K cd6 "is_dual_action" = true) (k6 : PySem.W.keepIn K (.ref f6) = true)
    (a7 : PySem.W.nsIn K mainGlobals "can_stand" = some (some (.ref f7))) (l7 : K.lookup f7 = some ⟨oc7, od7, .func (PySem.W.fnOf "can_stand" "can_stand" (defArgs s_can_stand) (defBody s_can_stand) (defScope s_can_stand) .none kV7 dc7 pm7 an7 cd7 ct7), sl7⟩) (c7 : PySem.W.codeIn K cd7 "can_stand" = true) (k7 : PySem.W.keepIn K (.ref f7) = true)
    (a8 : PySem.W.nsIn K mainGlobals "has_layout_form" = some (some (.ref f8))) (l8 : K.lookup f8 = some ⟨oc8, od8, .func (PySem.W.fnOf "has_layout_form" "has_layout_form" (defArgs s_has_layout_form) (defBody s_has_layout_form) (defScope s_has_layout_form) .none kV8 dc8 pm8 an8 cd8 ct8), sl8⟩) (c8 : PySem.W.codeIn K cd8 "has_layout_form" = true) (k8 : PySem.W.keepIn K (.ref f8) = true)
    (a9 : PySem.W.nsIn K mainGlobals "check_layout" = some (some (.ref f9))) (l9 : K.lookup f9 = some ⟨oc9, od9, .func (PySem.W.fnOf "check_layout" "check_layout" (defArgs s_check_layout) (defBody s_check_layout) (defScope s_check_layout) .none kV9 dc9 pm9 an9 cd9 ct9), sl9⟩) (c9 : PySem.W.codeIn K cd9 "check_layout" = true) (k9 : PySem.W.keepIn K (.ref f9) = true)
    (a10 : PySem.W.nsIn K mainGlobals "is_dual" = some (some (.ref f10))) (l10 : K.lookup f10 = some ⟨oc10, od10, .func (PySem.W.fnOf "is_dual" "is_dual" (defArgs s_is_dual) (defBody s_is_dual) (defScope s_is_dual) .none kV10 dc10 pm10 an10 cd10 ct10), sl10⟩) (c10 : PySem.W.codeIn K cd10 "is_dual" = true) (k10 : PySem.W.keepIn K (.ref f10) = true)
    (a11 : PySem.W.nsIn K mainGlobals "is_number" = some (some (.ref f11))) (l11 : K.lookup f11 = some ⟨oc11, od11, .func (PySem.W.fnOf "is_number" "is_number" (defArgs s_is_number) (defBody s_is_number) (defScope s_is_number) .none kV11 dc11 pm11 an11 cd11 ct11), sl11⟩) (c11 : PySem.W.codeIn K cd11 "is_number" = true) (k11 : PySem.W.keepIn K (.ref f11) = true)
    (a12 : PySem.W.nsIn K mainGlobals "action_text" = some (some (.ref f12))) (l12 : K.lookup f12 = some ⟨oc12, od12, .func (PySem.W.fnOf "action_text" "action_text" (defArgs s_action_text) (defBody s_action_text) (defScope s_action_text) .none kV12 dc12 pm12 an12 cd12 ct12), sl12⟩) (c12 : PySem.W.codeIn K cd12 "action_text" = true) (k12 : PySem.W.keepIn K (.ref f12) = true)
    (a13 : PySem.W.nsIn K mainGlobals "format_layout" = some (some (.ref f13))) (l13 : K.lookup f13 = some ⟨oc13, od13, .func (PySem.W.fnOf "format_layout" "format_layout" (defArgs s_format_layout) (defBody s_format_layout) (defScope s_format_layout) .none kV13 dc13 pm13 an13 cd13 ct13), sl13⟩) (c13 : PySem.W.codeIn K cd13 "format_layout" = true) (k13 : PySem.W.keepIn K (.ref f13) = true)
    (a14 : PySem.W.nsIn K mainGlobals "plain_action_of" = some (some (.ref f14))) (l14 : K.lookup f14 = some ⟨oc14, od14, .func (PySem.W.fnOf "plain_action_of" "plain_action_of" (defArgs s_plain_action_of) (defBody s_plain_action_of) (defScope s_plain_action_of) .none kV14 dc14 pm14 an14 cd14 ct14), sl14⟩) (c14 : PySem.W.codeIn K cd14 "plain_action_of" = true) (k14 : PySem.W.keepIn K (.ref f14) = true)
    (a15 : PySem.W.nsIn K mainGlobals "dual_of" = some (some (.ref f15))) (l15 : K.lookup f15 = some ⟨oc15, od15, .func (PySem.W.fnOf "dual_of" "dual_of" (defArgs s_dual_of) (defBody s_dual_of) (defScope s_dual_of) .none kV15 dc15 pm15 an15 cd15 ct15), sl15⟩) (c15 : PySem.W.codeIn K cd15 "dual_of" = true) (k15 : PySem.W.keepIn K (.ref f15) = true)
    (a16 : PySem.W.nsIn K mainGlobals "action_of" = some (some (.ref f16))) (l16 : K.lookup f16 = some ⟨oc16, od16, .func (PySem.W.fnOf "action_of" "action_of" (defArgs s_action_of) (defBody s_action_of) (defScope s_action_of) .none kV16 dc16 pm16 an16 cd16 ct16), sl16⟩) (c16 : PySem.W.codeIn K cd16 "action_of" = true) (k16 : PySem.W.keepIn K (.ref f16) = true)
    (a17 : PySem.W.nsIn K mainGlobals "parse_layout" = some (some (.ref f17))) (l17 : K.lookup f17 = some ⟨oc17, od17, .func (PySem.W.fnOf "parse_layout" "parse_layout" (defArgs s_parse_layout) (defBody s_parse_layout) (defScope s_parse_layout) .none kV17 dc17 pm17 an17 cd17 ct17), sl17⟩) (c17 : PySem.W.codeIn K cd17 "parse_layout" = true) (k17 : PySem.W.keepIn K (.ref f17) = true)
    (a18 : PySem.W.nsIn K mainGlobals "_law_spin" = some (some (.ref f18))) (l18 : K.lookup f18 = some ⟨oc18, od18, .func (PySem.W.fnOf "_law_spin" "_law_spin" (defArgs s__law_spin) (defBody s__law_spin) (defScope s__law_spin) .none kV18 dc18 pm18 an18 cd18 ct18), sl18⟩) (c18 : PySem.W.codeIn K cd18 "_law_spin" = true) (k18 : PySem.W.keepIn K (.ref f18) = true)
    (a19 : PySem.W.nsIn K mainGlobals "_law_reel" = some (some (.ref f19))) (l19 : K.lookup f19 = some ⟨oc19, od19, .func (PySem.W.fnOf "_law_reel" "_law_reel" (defArgs s__law_reel) (defBody s__law_reel) (defScope s__law_reel) .none kV19 dc19 pm19 an19 cd19 ct19), sl19⟩) (c19 : PySem.W.codeIn K cd19 "_law_reel" = true) (k19 : PySem.W.keepIn K (.ref f19) = true)
    (a20 : PySem.W.nsIn K mainGlobals "_law_code" = some (some (.ref f20))) (l20 : K.lookup f20 = some ⟨oc20, od20, .func (PySem.W.fnOf "_law_code" "_law_code" (defArgs s__law_code) (defBody s__law_code) (defScope s__law_code) .none kV20 dc20 pm20 an20 cd20 ct20), sl20⟩) (c20 : PySem.W.codeIn K cd20 "_law_code" = true) (k20 : PySem.W.keepIn K (.ref f20) = true)
    (a21 : PySem.W.nsIn K mainGlobals "_law_action" = some (some (.ref f21))) (l21 : K.lookup f21 = some ⟨oc21, od21, .func (PySem.W.fnOf "_law_action" "_law_action" (defArgs s__law_action) (defBody s__law_action) (defScope s__law_action) .none kV21 dc21 pm21 an21 cd21 ct21), sl21⟩) (c21 : PySem.W.codeIn K cd21 "_law_action" = true) (k21 : PySem.W.keepIn K (.ref f21) = true)
    (a22 : PySem.W.nsIn K mainGlobals "_law_layout" = some (some (.ref f22))) (l22 : K.lookup f22 = some ⟨oc22, od22, .func (PySem.W.fnOf "_law_layout" "_law_layout" (defArgs s__law_layout) (defBody s__law_layout) (defScope s__law_layout) .none kV22 dc22 pm22 an22 cd22 ct22), sl22⟩) (c22 : PySem.W.codeIn K cd22 "_law_layout" = true) (k22 : PySem.W.keepIn K (.ref f22) = true)
    (a23 : PySem.W.nsIn K mainGlobals "_law_word" = some (some (.ref f23))) (l23 : K.lookup f23 = some ⟨oc23, od23, .func (PySem.W.fnOf "_law_word" "_law_word" (defArgs s__law_word) (defBody s__law_word) (defScope s__law_word) .none kV23 dc23 pm23 an23 cd23 ct23), sl23⟩) (c23 : PySem.W.codeIn K cd23 "_law_word" = true) (k23 : PySem.W.keepIn K (.ref f23) = true)
    (a24 : PySem.W.nsIn K mainGlobals "_law_text" = some (some (.ref f24))) (l24 : K.lookup f24 = some ⟨oc24, od24, .func (PySem.W.fnOf "_law_text" "_law_text" (defArgs s__law_text) (defBody s__law_text) (defScope s__law_text) .none kV24 dc24 pm24 an24 cd24 ct24), sl24⟩) (c24 : PySem.W.codeIn K cd24 "_law_text" = true) (k24 : PySem.W.keepIn K (.ref f24) = true)
    (a25 : PySem.W.nsIn K mainGlobals "_law_any_code" = some (some (.ref f25))) (l25 : K.lookup f25 = some ⟨oc25, od25, .func (PySem.W.fnOf "_law_any_code" "_law_any_code" (defArgs s__law_any_code) (defBody s__law_any_code) (defScope s__law_any_code) .none kV25 dc25 pm25 an25 cd25 ct25), sl25⟩) (c25 : PySem.W.codeIn K cd25 "_law_any_code" = true) (k25 : PySem.W.keepIn K (.ref f25) = true)
    (a26 : PySem.W.nsIn K mainGlobals "_law_right" = some (some (.ref f26))) (l26 : K.lookup f26 = some ⟨oc26, od26, .func (PySem.W.fnOf "_law_right" "_law_right" (defArgs s__law_right) (defBody s__law_right) (defScope s__law_right) .none kV26 dc26 pm26 an26 cd26 ct26), sl26⟩) (c26 : PySem.W.codeIn K cd26 "_law_right" = true) (k26 : PySem.W.keepIn K (.ref f26) = true)
    (a27 : PySem.W.nsIn K mainGlobals "law" = some (some (.ref f27))) (l27 : K.lookup f27 = some ⟨oc27, od27, .func (PySem.W.fnOf "law" "law" (defArgs s_law) (defBody s_law) (defScope s_law) .none kV27 dc27 pm27 an27 cd27 ct27), sl27⟩) (c27 : PySem.W.codeIn K cd27 "law" = true) (k27 : PySem.W.keepIn K (.ref f27) = true)
    (v0 : PySem.W.nsIn K mainGlobals "MOST_LAYERS" = some (some (.int 6 tk0)))
    (v1 : PySem.W.nsIn K mainGlobals "MOST_KEYS" = some (some (.int 16 tk1)))
    (v2 : PySem.W.nsIn K mainGlobals "MOST_SIGNS" = some (some (.int 8 tk2)))
    (v3 : PySem.W.nsIn K mainGlobals "GREATEST_TIME" = some (some (.int 1000000000 tk3)))
    (v4 : PySem.W.nsIn K mainGlobals "CODE_SIGNS" = some (some (.str "abcdefghijklmnopqrstuvwxyz0123456789" tk4)))
    (v5 : PySem.W.nsIn K mainGlobals "LAYER_WORDS" = some (some (.ref g5))) (u5 : K.lookup g5 = some ⟨.type "tuple", none, .seq #[.str "layer" tk5_0, .str "lock" tk5_1, .str "once" tk5_2] gn5, gs5⟩)
    (v6 : PySem.W.nsIn K mainGlobals "RULES" = some (some (.ref g6))) (u6 : K.lookup g6 = some ⟨.type "tuple", none, .seq #[.str "time" tk6_0, .str "other" tk6_1, .str "within" tk6_2] gn6, gs6⟩)
    (v7 : PySem.W.nsIn K mainGlobals "DIGITS" = some (some (.str "0123456789" tk7)))
    (v8 : PySem.W.nsIn K mainGlobals "MOST_DIGITS" = some (some (.int 30 tk8)))
    (v9 : PySem.W.nsIn K mainGlobals "LAYER_SIGNS" = some (some (.str "@!^" tk9)))
    (v10 : PySem.W.nsIn K mainGlobals "RULE_SIGNS" = some (some (.str "tow" tk10)))
    (z0 : PySem.W.nsIn K mainGlobals "len" = some none)
    (z1 : PySem.W.nsIn K mainGlobals "abs" = some none)
    (z2 : PySem.W.nsIn K mainGlobals "max" = some none)
    (z3 : PySem.W.nsIn K mainGlobals "repr" = some none)
    (z4 : PySem.W.nsIn K mainGlobals "isinstance" = some none)
    (z5 : PySem.W.nsIn K mainGlobals "all" = some none)
    (z6 : PySem.W.nsIn K mainGlobals "list" = some none)
    (z7 : PySem.W.nsIn K mainGlobals "tuple" = some none)
    (z8 : PySem.W.nsIn K mainGlobals "int" = some none)
    (z9 : PySem.W.nsIn K mainGlobals "bool" = some none)
    (z10 : PySem.W.nsIn K mainGlobals "str" = some none)
    (z11 : PySem.W.nsIn K mainGlobals "range" = some none)
    (z12 : PySem.W.nsIn K mainGlobals "enumerate" = some none)
    (z13 : PySem.W.nsIn K mainGlobals "min" = some none) :
    ∃ fd : FuncData, (∀ (s : Shared) (u : Value), BindsTo s fd ⟨[u], []⟩ [("_law_script", u)]) ∧ ∀ base : Heap, K.In base → base.Ns mainGlobals mg → FnG l.prog w K mg base 10 fa fd ["_law_script"] (spLaw K) := by
  have e := hfa.symm.trans (PySem.W.mg_of X G a27)
  cases e
  have A_is_an_integer : At K mg "is_an_integer" s_is_an_integer ["value"] := at_mk X G a0 l0 c0 k0 fun _ _ _ _ _ _ us hl => match us, hl with | [_], _ => rfl
  have A_is_between : At K mg "is_between" s_is_between ["value", "low", "high"] := at_mk X G a1 l1 c1 k1 fun _ _ _ _ _ _ us hl => match us, hl with | [_, _, _], _ => rfl
  have A_is_code : At K mg "is_code" s_is_code ["value"] := at_mk X G a2 l2 c2 k2 fun _ _ _ _ _ _ us hl => match us, hl with | [_], _ => rfl
  have A_is_code_action : At K mg "is_code_action" s_is_code_action ["action"] := at_mk X G a3 l3 c3 k3 fun _ _ _ _ _ _ us hl => match us, hl with | [_], _ => rfl
  have A_is_layer_action : At K mg "is_layer_action" s_is_layer_action ["action", "words", "layer_count"] := at_mk X G a4 l4 c4 k4 fun _ _ _ _ _ _ us hl => match us, hl with | [_, _, _], _ => rfl
  have A_is_hold : At K mg "is_hold" s_is_hold ["value", "layer_count"] := at_mk X G a5 l5 c5 k5 fun _ _ _ _ _ _ us hl => match us, hl with | [_, _], _ => rfl
  have A_is_dual_action : At K mg "is_dual_action" s_is_dual_action ["action", "layer_count"] := at_mk X G a6 l6 c6 k6 fun _ _ _ _ _ _ us hl => match us, hl with | [_, _], _ => rfl
  have A_can_stand : At K mg "can_stand" s_can_stand ["action", "layer", "layer_count"] := at_mk X G a7 l7 c7 k7 fun _ _ _ _ _ _ us hl => match us, hl with | [_, _, _], _ => rfl
  have A_has_layout_form : At K mg "has_layout_form" s_has_layout_form ["value"] := at_mk X G a8 l8 c8 k8 fun _ _ _ _ _ _ us hl => match us, hl with | [_], _ => rfl
  have A_check_layout : At K mg "check_layout" s_check_layout ["value"] := at_mk X G a9 l9 c9 k9 fun _ _ _ _ _ _ us hl => match us, hl with | [_], _ => rfl
  have A_is_dual : At K mg "is_dual" s_is_dual ["action"] := at_mk X G a10 l10 c10 k10 fun _ _ _ _ _ _ us hl => match us, hl with | [_], _ => rfl
  have A_is_number : At K mg "is_number" s_is_number ["text"] := at_mk X G a11 l11 c11 k11 fun _ _ _ _ _ _ us hl => match us, hl with | [_], _ => rfl
  have A_action_text : At K mg "action_text" s_action_text ["action"] := at_mk X G a12 l12 c12 k12 fun _ _ _ _ _ _ us hl => match us, hl with | [_], _ => rfl
  have A_format_layout : At K mg "format_layout" s_format_layout ["layout"] := at_mk X G a13 l13 c13 k13 fun _ _ _ _ _ _ us hl => match us, hl with | [_], _ => rfl
  have A_plain_action_of : At K mg "plain_action_of" s_plain_action_of ["word"] := at_mk X G a14 l14 c14 k14 fun _ _ _ _ _ _ us hl => match us, hl with | [_], _ => rfl
  have A_dual_of : At K mg "dual_of" s_dual_of ["word"] := at_mk X G a15 l15 c15 k15 fun _ _ _ _ _ _ us hl => match us, hl with | [_], _ => rfl
  have A_action_of : At K mg "action_of" s_action_of ["word"] := at_mk X G a16 l16 c16 k16 fun _ _ _ _ _ _ us hl => match us, hl with | [_], _ => rfl
  have A_parse_layout : At K mg "parse_layout" s_parse_layout ["text"] := at_mk X G a17 l17 c17 k17 fun _ _ _ _ _ _ us hl => match us, hl with | [_], _ => rfl
  have A__law_spin : At K mg "_law_spin" s__law_spin ["_law_reel_here", "_law_size"] := at_mk X G a18 l18 c18 k18 fun _ _ _ _ _ _ us hl => match us, hl with | [_, _], _ => rfl
  have A__law_reel : At K mg "_law_reel" s__law_reel ["_law_script", "_law_index"] := at_mk X G a19 l19 c19 k19 fun _ _ _ _ _ _ us hl => match us, hl with | [_, _], _ => rfl
  have A__law_code : At K mg "_law_code" s__law_code ["_law_reel_here"] := at_mk X G a20 l20 c20 k20 fun _ _ _ _ _ _ us hl => match us, hl with | [_], _ => rfl
  have A__law_action : At K mg "_law_action" s__law_action ["_law_reel_here", "_law_layer", "_law_layers", "_law_longest"] := at_mk X G a21 l21 c21 k21 fun _ _ _ _ _ _ us hl => match us, hl with | [_, _, _, _], _ => rfl
  have A__law_layout : At K mg "_law_layout" s__law_layout ["_law_reel_here", "_law_layers", "_law_keys", "_law_longest"] := at_mk X G a22 l22 c22 k22 fun _ _ _ _ _ _ us hl => match us, hl with | [_, _, _, _], _ => rfl
  have A__law_word : At K mg "_law_word" s__law_word ["_law_action_here"] := at_mk X G a23 l23 c23 k23 fun _ _ _ _ _ _ us hl => match us, hl with | [_], _ => rfl
  have A__law_text : At K mg "_law_text" s__law_text ["_law_layout_here"] := at_mk X G a24 l24 c24 k24 fun _ _ _ _ _ _ us hl => match us, hl with | [_], _ => rfl
  have A__law_any_code : At K mg "_law_any_code" s__law_any_code ["_law_reel_here"] := at_mk X G a25 l25 c25 k25 fun _ _ _ _ _ _ us hl => match us, hl with | [_], _ => rfl
  have A__law_right : At K mg "_law_right" s__law_right ["_law_layout_here"] := at_mk X G a26 l26 c26 k26 fun _ _ _ _ _ _ us hl => match us, hl with | [_], _ => rfl
  have A_law : At K mg "law" s_law ["_law_script"] := at_mk X G a27 l27 c27 k27 fun _ _ _ _ _ _ us hl => match us, hl with | [_], _ => rfl
  have m_MOST_LAYERS := PySem.W.mg_of X G v0
  have m_MOST_KEYS := PySem.W.mg_of X G v1
  have m_MOST_SIGNS := PySem.W.mg_of X G v2
  have m_GREATEST_TIME := PySem.W.mg_of X G v3
  have m_CODE_SIGNS := PySem.W.mg_of X G v4
  have m_LAYER_WORDS := PySem.W.mg_of X G v5
  have t_LAYER_WORDS : ∀ H, SqT K H g5 ((["layer", "lock", "once"] : List Str).map V.str) := fun H => .inr ⟨_, _, _, u5, rfl, rfl, (by show 3 ≤ sizeLine; decide), .cons ⟨_, rfl⟩ (.cons ⟨_, rfl⟩ (.cons ⟨_, rfl⟩ (.nil)))⟩
  have n_LAYER_WORDS : ∃ o : Obj, K.lookup g5 = some o ∧ o.cls = .type "tuple" ∧ o.dict = none := ⟨_, u5, rfl, rfl⟩
  have m_RULES := PySem.W.mg_of X G v6
  have t_RULES : ∀ H, SqT K H g6 ((["time", "other", "within"] : List Str).map V.str) := fun H => .inr ⟨_, _, _, u6, rfl, rfl, (by show 3 ≤ sizeLine; decide), .cons ⟨_, rfl⟩ (.cons ⟨_, rfl⟩ (.cons ⟨_, rfl⟩ (.nil)))⟩
  have n_RULES : ∃ o : Obj, K.lookup g6 = some o ∧ o.cls = .type "tuple" ∧ o.dict = none := ⟨_, u6, rfl, rfl⟩
  have m_DIGITS := PySem.W.mg_of X G v7
  have m_MOST_DIGITS := PySem.W.mg_of X G v8
  have m_LAYER_SIGNS := PySem.W.mg_of X G v9
  have m_RULE_SIGNS := PySem.W.mg_of X G v10
  have bt : Bt mg := ⟨PySem.W.mg_none_of X G z0, PySem.W.mg_none_of X G z1, PySem.W.mg_none_of X G z2, PySem.W.mg_none_of X G z3, PySem.W.mg_none_of X G z4, PySem.W.mg_none_of X G z5, PySem.W.mg_none_of X G z6, PySem.W.mg_none_of X G z7, PySem.W.mg_none_of X G z8, PySem.W.mg_none_of X G z9, PySem.W.mg_none_of X G z10, PySem.W.mg_none_of X G z11, PySem.W.mg_none_of X G z12, PySem.W.mg_none_of X G z13⟩
  refine ⟨PySem.W.fnOf "law" "law" (defArgs s_law) (defBody s_law) (defScope s_law) .none kV27 dc27 pm27 an27 cd27 ct27, fun s u => .of_eq rfl, fun base _ _ => ?_⟩
  have C1 := ok_is_an_integer (P := l.prog) (w := w) (base := base) bt A_is_an_integer
  have C2 := ok_is_between bt A_is_between C1
  have C3b := ok_is_code2 (P := l.prog) (w := w) (base := base) bt m_MOST_SIGNS m_CODE_SIGNS A_is_code
  have C3 := ok_is_code C3b
  have C4 := ok_is_code_action bt A_is_code_action C3
  have C5 := ok_is_layer_action bt A_is_layer_action C2
  have C6 := ok_is_hold bt A_is_hold C4 C5
  have C7 := ok_is_dual_action bt m_GREATEST_TIME m_RULES t_RULES A_is_dual_action C3 C6 C2
  have C8 := ok_can_stand bt m_LAYER_WORDS t_LAYER_WORDS A_can_stand C4 C5 C7
  have C9 := ok_has_layout_form (P := l.prog) (w := w) (base := base) bt m_MOST_LAYERS m_MOST_KEYS A_has_layout_form
  have C10 := ok_check_layout bt A_check_layout C9 C8
  have E1 := ok_is_dual (P := l.prog) (w := w) (base := base) bt A_is_dual
  have E2 := ok_is_number (P := l.prog) (w := w) (base := base) bt m_MOST_DIGITS m_DIGITS A_is_number
  have E3 := ok_action_text0 bt m_RULES t_RULES m_LAYER_WORDS t_LAYER_WORDS n_RULES n_LAYER_WORDS m_LAYER_SIGNS m_RULE_SIGNS A_action_text E1
  have E4 := ok_action_text bt m_RULES t_RULES m_LAYER_WORDS t_LAYER_WORDS n_RULES n_LAYER_WORDS m_LAYER_SIGNS m_RULE_SIGNS A_action_text E1 E3
  have E5 := ok_format_layout A_format_layout C10 E4
  have E6 := ok_plain_action_of bt m_LAYER_WORDS t_LAYER_WORDS m_LAYER_SIGNS A_plain_action_of C3b E2
  have E7 := ok_dual_of bt m_RULES t_RULES m_RULE_SIGNS A_dual_of E6 E2
  have E8 := ok_action_of A_action_of E6 E7
  have E9 := ok_parse_layout bt m_MOST_LAYERS m_MOST_KEYS A_parse_layout C8 E8
  have D1 := ok__law_spin (P := l.prog) (w := w) (base := base) A__law_spin
  have D2 := ok__law_reel (P := l.prog) (w := w) (base := base) bt A__law_reel
  have D3 := ok__law_code bt A__law_code D1
  have D4 := ok__law_action bt A__law_action D1 D3
  have D5 := ok__law_layout bt A__law_layout D4
  have D6 := ok__law_word0 (P := l.prog) (w := w) (base := base) bt A__law_word
  have D7 := ok__law_word bt A__law_word D6
  have D8 := ok__law_text A__law_text D7
  have D9 := ok__law_any_code bt A__law_any_code D1
  have D10 := ok__law_right bt A__law_right E9 E5 D8
  exact ok_law bt (fun_mk l27 c27 k27) D2 D1 D5 D9 D10 E5
end K65
open PySem PySem.W PyProof.Rows
set_option maxHeartbeats 0 in
theorem PySem.Challenge.cw_holdtap_k65_layout_texts_holds : PySem.Challenge.rw_holdtap_k65_layout_texts.Holds := by
  w_on; o_law; k_head; (case hw => w_witness2)
  k_fill
  refine Gd.walkG (l := PySem.Challenge.rw_holdtap_k65_layout_texts) (n := 63) (k := 10) (x := "_law_script") (sp := fun K => K65.spLaw K) rfl (by decide) rfl ⟨rfl, by decide, by decide⟩ (fun w h Y => PySem.W.kIn_of Y) ?F (fun _ _ a ns hl hS => ⟨a, ns, rfl, hS, hl, fun _ => rfl⟩)
  case F =>
    intro w mg fa h KX G hmg
    refine' K65.all_mk KX G hmg ?a0 ?l0 ?c0 ?k0 ?a1 ?l1 ?c1 ?k1 ?a2 ?l2 ?c2 ?k2 ?a3 ?l3 ?c3 ?k3 ?a4 ?l4 ?c4 ?k4 ?a5 ?l5 ?c5 ?k5 ?a6 ?l6 ?c6 ?k6 ?a7 ?l7 ?c7 ?k7 ?a8 ?l8 ?c8 ?k8 ?a9 ?l9 ?c9 ?k9 ?a10 ?l10 ?c10 ?k10 ?a11 ?l11 ?c11 ?k11 ?a12 ?l12 ?c12 ?k12 ?a13 ?l13 ?c13 ?k13 ?a14 ?l14 ?c14 ?k14 ?a15 ?l15 ?c15 ?k15 ?a16 ?l16 ?c16 ?k16 ?a17 ?l17 ?c17 ?k17 ?a18 ?l18 ?c18 ?k18 ?a19 ?l19 ?c19 ?k19 ?a20 ?l20 ?c20 ?k20 ?a21 ?l21 ?c21 ?k21 ?a22 ?l22 ?c22 ?k22 ?a23 ?l23 ?c23 ?k23 ?a24 ?l24 ?c24 ?k24 ?a25 ?l25 ?c25 ?k25 ?a26 ?l26 ?c26 ?k26 ?a27 ?l27 ?c27 ?k27 ?v0 ?v1 ?v2 ?v3 ?v4 ?v5 ?u5 ?v6 ?u6 ?v7 ?v8 ?v9 ?v10 ?z0 ?z1 ?z2 ?z3 ?z4 ?z5 ?z6 ?z7 ?z8 ?z9 ?z10 ?z11 ?z12 ?z13
    (case a0 => k_is); (case l0 => k_is); (case c0 => k_is); (case k0 => k_is); (case a1 => k_is); (case l1 => k_is); (case c1 => k_is); (case k1 => k_is); (case a2 => k_is); (case l2 => k_is); (case c2 => k_is); (case k2 => k_is); (case a3 => k_is); (case l3 => k_is); (case c3 => k_is); (case k3 => k_is); (case a4 => k_is); (case l4 => k_is); (case c4 => k_is); (case k4 => k_is); (case a5 => k_is); (case l5 => k_is); (case c5 => k_is); (case k5 => k_is); (case a6 => k_is); (case l6 => k_is); (case c6 => k_is); (case k6 => k_is); (case a7 => k_is); (case l7 => k_is); (case c7 => k_is); (case k7 => k_is); (case a8 => k_is); (case l8 => k_is); (case c8 => k_is); (case k8 => k_is); (case a9 => k_is); (case l9 => k_is); (case c9 => k_is); (case k9 => k_is); (case a10 => k_is); (case l10 => k_is); (case c10 => k_is); (case k10 => k_is); (case a11 => k_is); (case l11 => k_is); (case c11 => k_is); (case k11 => k_is); (case a12 => k_is); (case l12 => k_is); (case c12 => k_is); (case k12 => k_is); (case a13 => k_is); (case l13 => k_is); (case c13 => k_is); (case k13 => k_is); (case a14 => k_is); (case l14 => k_is); (case c14 => k_is); (case k14 => k_is); (case a15 => k_is); (case l15 => k_is); (case c15 => k_is); (case k15 => k_is); (case a16 => k_is); (case l16 => k_is); (case c16 => k_is); (case k16 => k_is); (case a17 => k_is); (case l17 => k_is); (case c17 => k_is); (case k17 => k_is); (case a18 => k_is); (case l18 => k_is); (case c18 => k_is); (case k18 => k_is); (case a19 => k_is); (case l19 => k_is); (case c19 => k_is); (case k19 => k_is); (case a20 => k_is); (case l20 => k_is); (case c20 => k_is); (case k20 => k_is); (case a21 => k_is); (case l21 => k_is); (case c21 => k_is); (case k21 => k_is); (case a22 => k_is); (case l22 => k_is); (case c22 => k_is); (case k22 => k_is); (case a23 => k_is); (case l23 => k_is); (case c23 => k_is); (case k23 => k_is); (case a24 => k_is); (case l24 => k_is); (case c24 => k_is); (case k24 => k_is); (case a25 => k_is); (case l25 => k_is); (case c25 => k_is); (case k25 => k_is); (case a26 => k_is); (case l26 => k_is); (case c26 => k_is); (case k26 => k_is); (case a27 => k_is); (case l27 => k_is); (case c27 => k_is); (case k27 => k_is); (case v0 => k_is); (case v1 => k_is); (case v2 => k_is); (case v3 => k_is); (case v4 => k_is); (case v5 => k_is); (case u5 => k_is); (case v6 => k_is); (case u6 => k_is); (case v7 => k_is); (case v8 => k_is); (case v9 => k_is); (case v10 => k_is); (case z0 => k_is); (case z1 => k_is); (case z2 => k_is); (case z3 => k_is); (case z4 => k_is); (case z5 => k_is); (case z6 => k_is); (case z7 => k_is); (case z8 => k_is); (case z9 => k_is); (case z10 => k_is); (case z11 => k_is); (case z12 => k_is); (case z13 => k_is)

