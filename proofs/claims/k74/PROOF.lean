import PyProof.Rows.All
import Wide.All
import OpenK.AllK
import Wide.FinOn
import HandS.ForMost
import HandS.Walk
import HandS.Wide
import HandS.Style
import HandS.More
import HandS.SetFor
import HandS.SortInts
import HandS.IsInst
import HandS.Codes
import PyProof.ReprRoads
import HandS.Defaults
import HandS.Deep
import HandS.Strs
import HandS.ListItems
import KE.KDictList
import HandS.Conv
import PySem.Challenge.RW_holdtap_k74_whole_played_tick_by_tick
set_option Elab.async false
set_option linter.all false
set_option maxRecDepth 100000
set_option maxHeartbeats 4000000
/-! A layer over the hand layer in which a def knows that no display is being shown (A.guards): repr needs it. -/
namespace Gd
open PySem PySem.Spec PyProof.Rows L2

/-- what a def promises where no guard stands -/
structure FnG (P : Program) (w : World) (K : PySem.W.Frag) (mg : Str → Option Value) (base : Heap)
    (k : Nat) (f : Addr) (fd : FuncData) (ps : List Str) (sp : Sp) : Prop where
  len : ∀ vs H Q E, sp vs H Q E → vs.length = ps.length
  go : ∀ (A : Around) (outer : List Env) (s : Shared) (H : Hp) (args : Args) (us : List Value) (vs : List V) (Q : VK),
    A.guards = some [] → Room k A → Env0 P w K mg base A outer s H → BindsTo s fd args (ps.zip us) →
    Vals vs us → sp vs H Q E0 →
    codeAny (model P w) A (.call (.ref f) args) (CR CX0 outer P w H s Q E0) s

theorem deep_guards {A : Around} {e : Env} (h : A.guards = some []) : (A.deeper e).guards = some [] := h

section
variable {P : Program} {w : World} {K : PySem.W.Frag} {mg : Str → Option Value} {base : Heap}
theorem fnG {x qual : Str} {st : Stmt} {f : Addr} {fd : FuncData} {N ps : List Str} {k : Nat} {sp : Sp}
    (F : Fun K x qual st f fd) (S : FnScope N ps (defScope st))
    (len : ∀ vs H Q E, sp vs H Q E → vs.length = ps.length)
    (hb : ∀ (cdv : Value) (A : Around) (outer : List Env) (s : Shared) (H : Hp) (vs : List V) (Q : VK),
      A.guards = some [] → Room k (A.deeper (envOfC qual (defScope st) s.heap.objs.size f cdv)) → sp vs H Q E0 →
      ∃ t, PSs (cxOf CX0 P w K mg base N qual (defScope st) f cdv A outer s H E0).nox (defBody st) t ∧
        t { nx := fun _ H' => Q .non H', rt := Q } (start N vs) H) :
    FnG P w K mg base (k + 1) f fd ps sp := by
  obtain ⟨oc, od, kV, doc, pm, an, cdv, ct, osl, rfl, lk, hcd⟩ := F.ex
  refine ⟨len, fun A outer s H args us vs Q hg hr e0 bt rv hsp => ?_⟩
  have kin : K.In s.heap := e0.mod.kin.keeps (fun b o e => (e0.bs b o e).1)
  have nol : s.heap.NoLimit := e0.mod.nolimit.keeps (fun b o e => (e0.bs b o e).1)
  have pk : ((ps.zip us).all fun y => (defScope st).names.lookup y.1 == some NameKind.local ||
      (defScope st).names.lookup y.1 == some NameKind.cell) = true := by
    rw [List.all_eq_true]
    rintro ⟨n, v⟩ hm
    have hp := S.par n (List.of_mem_zip hm).1
    rcases hp with e | e <;> simp [e]
  refine Att.call_fn kin nol lk hcd hr.depth bt pk (fun s1 ic => ?_) S.co S.gen S.kind
  obtain ⟨t, ht, hq⟩ := hb cdv A outer s H vs Q hg (hr.deeper _) hsp
  have J := inv_start (CX := CX0) (E := E0) (P := P) (w := w) (mg := mg) (base := base) S hr.hd e0 (len _ _ _ _ hsp) rv ic
  have J' := J.wish (fun _ _ => False)
  refine wpAny_mono (ht.run [] s1 (start N vs) H _ J' hq) (fun fl s' sp' => ?_) (fun _ _ z => z.elim)
  match fl, sp' with
  | .next, ⟨σ', H', L, q⟩ => exact ⟨.non, H', L.os, L.bare, L.base, L.hok, rfl, q⟩
  | .ret u, ⟨v, σ', H', L, rr, q⟩ => exact ⟨v, H', L.os, L.bare, L.base, L.hok, rr, q⟩
  | .brk, ⟨_, _, _, q⟩ => exact False.elim q
  | .cont, ⟨_, _, _, q⟩ => exact False.elim q
end

/-- a def that may be called by its name -/
structure Cl (P : Program) (w : World) (K : PySem.W.Frag) (mg : Str → Option Value) (base : Heap) (k : Nat) (x : Str) (sp : Sp) : Prop where
  ex : ∃ (f : Addr) (fd : FuncData) (ps : List Str), FnG P w K mg base k f fd ps sp ∧ mg x = some (.ref f) ∧
    PySem.W.keepIn K (.ref f) = true ∧ Binds K fd ps []
/-- where a def stands: its text, its name in the module -/
structure At (K : PySem.W.Frag) (mg : Str → Option Value) (x : Str) (st : Stmt) (ps : List Str) : Prop where
  ex : ∃ (f : Addr) (fd : FuncData), Fun K x x st f fd ∧ mg x = some (.ref f) ∧ Binds K fd ps []
section
variable {P : Program} {w : World} {K : PySem.W.Frag} {mg : Str → Option Value} {base : Heap}
theorem clG {x : Str} {st : Stmt} {N ps : List Str} {k : Nat} {sp : Sp} (a : At K mg x st ps) (S : FnScope N ps (defScope st))
    (len : ∀ vs H Q E, sp vs H Q E → vs.length = ps.length)
    (hb : ∀ (f : Addr) (cdv : Value) (A : Around) (outer : List Env) (s : Shared) (H : Hp) (vs : List V) (Q : VK),
      A.guards = some [] → Room k (A.deeper (envOfC x (defScope st) s.heap.objs.size f cdv)) → sp vs H Q E0 →
      ∃ t, PSs (cxOf CX0 P w K mg base N x (defScope st) f cdv A outer s H E0).nox (defBody st) t ∧
        t { nx := fun _ H' => Q .non H', rt := Q } (start N vs) H) : Cl P w K mg base (k + 1) x sp := by
  obtain ⟨f, fd, F, hm, b⟩ := a.ex
  exact ⟨f, fd, ps, fnG F S len (hb f), hm, F.kp, b⟩
theorem Cl.imp {x : Str} {k : Nat} {sp sp' : Sp} (c : Cl P w K mg base k x sp) (h : ∀ vs H Q E, sp' vs H Q E → sp vs H Q E) :
    Cl P w K mg base k x sp' := by
  obtain ⟨f, fd, ps, F, hm, kp, b⟩ := c.ex
  exact ⟨f, fd, ps, ⟨fun vs H Q E z => F.len vs H Q E (h _ _ _ _ z), fun A o s H as us vs Q g r e bt rv z => F.go A o s H as us vs Q g r e bt rv (h _ _ _ _ z)⟩, hm, kp, b⟩
end
section
variable {X : Cx} {k j : Nat} {x : Str} {sp : Sp} {p pos : Pos} {e : Expr} {es : List Expr} {t : TA}
theorem run_cl {f : Addr} {fd : FuncData} {ps : List Str} {pins : List (Addr × Obj)} {σ : L2.St} {H : Hp} {s : Shared} {Q : VK} {us : List Value} {vs : List V}
    (F : FnG X.prog X.w X.K X.mg X.base k f fd ps sp) (hg : X.A.guards = some []) (hr : Room k X.A) (b : Binds X.K fd ps [])
    (I : Inv X pins σ H s) (rv : Vals vs us) (h : sp vs H Q E0) : wpAny (model X.prog X.w) X.A (call (.ref f) us) (EP X pins σ Q) X.xe s := by
  have hl : us.length = ps.length := rv.length.symm.trans (F.len _ _ _ _ h)
  have bt := b s us I.kIn (by simpa using hl)
  rw [List.append_nil] at bt
  refine wpAny_call (codeAny_mono (F.go X.A X.stack s H ⟨us, []⟩ us vs Q hg hr I.env0 bt rv h) (fun r s' hq => ?_))
  match r, hq with
  | .ok (.ret u), hq => exact I.after hq
  | .ok .next, hq => exact False.elim hq
  | .ok .brk, hq => exact False.elim hq
  | .ok .cont, hq => exact False.elim hq
  | .error _, hq => exact False.elim hq
/-- f(e, ..) -/
theorem pe_cl (c : Cl X.prog X.w X.K X.mg X.base k x sp) (hg : X.A.guards = some []) (hr : Room j X.A) (hk : k ≤ j) (gl : Gl X x) (ha : PA X (e :: es) t)
    (hd : (x == ("__debug__" : Str)) = false := by decide)
    (he : starEach (e :: es) X.env = (false, eval e X.env) :: starEach es X.env := by rfl)
    (hp : (backTo pos (starEach es X.env)).any (·.1) = false := by rfl) :
    PE X (.Call (.Name x p) (e :: es) [] pos) (tCall sp [] E0 t) := by
  obtain ⟨f, fd, ps, F, hm, kp, b⟩ := c.ex
  refine ⟨fun pins s σ H Q I h => wpAny_Call_Name_kw (ld_glob I gl hm (PySem.W.callWith_K (h₀ := X.base) I.ok.mod.kin kp ?_ he hp) hd)⟩
  refine thn (ha.run pos pins s σ H _ I h) (fun us s1 z => ?_)
  obtain ⟨vs, H1, I1, rv, q⟩ := z
  exact ⟨I1.kIn, run_cl F hg (hr.mono hk) b I1 rv (by simpa using q)⟩
/-- f() -/
theorem pe_cl0 (c : Cl X.prog X.w X.K X.mg X.base k x sp) (hg : X.A.guards = some []) (hr : Room j X.A) (hk : k ≤ j) (gl : Gl X x)
    (hd : (x == ("__debug__" : Str)) = false := by decide) :
    PE X (.Call (.Name x p) [] [] pos) (tCall sp [] E0 tNil) := by
  obtain ⟨f, fd, ps, F, hm, kp, b⟩ := c.ex
  refine ⟨fun pins s σ H Q I h => wpAny_Call_Name_kw (ld_glob I gl hm (PySem.W.callWith_K0 I.kIn kp ?_) hd)⟩
  exact run_cl (us := []) F hg (hr.mono hk) b I .nil h
end

/-! ### rules that lack: a great power, repr of data -/
def CPowW (i j : Int) : Prop := 0 ≤ j ∧ (Builtin.Int.intBits i : Int) * j ≤ 2 ^ 27
theorem op_powW {X : Cx} : OpR X (binaryOp .Pow) (rI CPowW fun i j => .int (i ^ j.toNat)) := opI fun _ _ _ _ _ _ _ hc q => pow_int hc.1 hc.2 q
theorem bits_le {i : Int} {n : Nat} (h : i.natAbs < 2 ^ n) : Builtin.Int.intBits i ≤ n := by
  unfold Builtin.Int.intBits
  split
  · exact Nat.zero_le _
  · rename_i hz
    have h0 : i.natAbs ≠ 0 := by
      intro z
      apply hz
      have : i = 0 := Int.natAbs_eq_zero.mp z
      simp [this]
    have := (Nat.log2_lt h0).mpr h
    omega
theorem powW {i : Int} {n k : Nat} (h : i.natAbs < 2 ^ n) (hs : n * k ≤ 2 ^ 27) : CPowW i (k : Int) := by
  refine ⟨by omega, ?_⟩
  have b := bits_le h
  have m : Builtin.Int.intBits i * k ≤ 2 ^ 27 := Nat.le_trans (Nat.mul_le_mul_right k b) hs
  exact_mod_cast m

/-- repr(x), x a list or a tuple of data -/
def rRep (K : PySem.W.Frag) : List V → Hp → VK → Prop := fun xs H Q => ∃ (a : Addr) (d : PyData), xs = [.ref a] ∧ Dp K H (.ref a) d ∧
  d.showable = true ∧ d.depth ≤ 50 ∧ d.shown.length ≤ sizeLine ∧ Q (.str d.shown) H
mutual
theorem dp_nodict {K : PySem.W.Frag} {H : Hp} : ∀ (d : PyData) (v : V), Dp K H v d → d.hasDict = false
  | .none, _, _ => rfl
  | .bool _, _, _ => rfl
  | .int _, _, _ => rfl
  | .str _, _, _ => rfl
  | .list ds, _, h => by
    cases h with
    | lst _ ha => exact dps_nodict ds _ ha
  | .tuple ds, _, h => by
    cases h with
    | tup _ ha => exact dps_nodict ds _ ha
  | .dict _, _, h => by cases h
theorem dps_nodict {K : PySem.W.Frag} {H : Hp} : ∀ (ds : List PyData) (vs : List V), DpAll K H vs ds → PyData.hasDictAll ds = false
  | [], _, _ => rfl
  | d :: ds, _, h => by
    cases h with
    | cons h1 h2 =>
      show (d.hasDict || PyData.hasDictAll ds) = false
      rw [dp_nodict d _ h1, dps_nodict ds _ h2]
      rfl
end
theorem call_rep {X : Cx} {k : Nat} (hg : X.A.guards = some []) (hr : Room k X.A) : CallR X (.builtin "repr") (rRep X.K) := by
  intro pins s σ H xs us Q I r h
  obtain ⟨a, d, rfl, hd, hs, hdp, hz, q⟩ := h
  obtain ⟨u, rfl, ru⟩ := vals1 r
  obtain ⟨as, rd⟩ := Dp.reads I d (.ref a) u hd ru
  cases ru
  have hu := hr.un
  exact repr_of_reads' rd hs (PyData.noDict_hsm (dp_nodict d _ hd)) hg (by omega) (fun _ _ e => e)
    (fun h' t tk hk => ⟨.str d.shown, H, I.kept (t' := tk) hk, ⟨t, rfl⟩, q⟩) hz

/-! ### the law's own call -/
section
variable {P : Program} {w : World} {K : PySem.W.Frag} {mg mb : Str → Option Value} {k : Nat} {fa a : Addr} {fd : FuncData} {x : Str} {sp : Sp} {s₁ : Shared} {vs : List Value} {ns : List Int}
/-- the heap as the caller has it, H what is tracked of it: at most the script -/
theorem top_run (KX : K.In s₁.heap) (gl : s₁.heap.Ns mainGlobals mg) (bl : s₁.heap.Ns builtinsNs mb) (bb : ∀ y : Str, y ≠ "__name__" → mb y = bootBuiltins y)
    (nol : s₁.heap.NoLimit) (ng : s₁.gens = #[]) (oa : s₁.heap.get? a = some { cls := .type "list", data := .seq vs.toArray }) (hr : Room k callerA)
    (F : ∀ base : Heap, K.In base → base.Ns mainGlobals mg → FnG P w K mg base k fa fd [x] sp)
    (bt : ∀ (s : Shared) (u : Value), BindsTo s fd ⟨[u], []⟩ [(x, u)]) {H : Hp} (only : Only H) (hok : HOk P w H s₁.heap)
    (at_a : ∀ b, H b ≠ none → b = a ∧ K.lookup a = none) (h : sp [.ref a] H (fun v _ => v = .bl true) E0) :
    codeAny (model P w) callerA (.call (.ref fa) ⟨[.ref a], []⟩)
      (fun r s' => r = .ok (.ret (.bool true)) ∧ OldK s₁.heap s'.heap ∧ s'.os = s₁.os ∧ AllBare s'.gens) s₁ := by
  have free : ∀ {b : Addr} {o : Obj}, s₁.heap.get? b = some o → (b = a → ∃ es ep, o.data = .dict es ep) → H b = none := by
    intro b o e d
    rcases Classical.em (H b = none) with z | z
    · exact z
    · obtain ⟨rfl, _⟩ := at_a b z
      obtain ⟨es, ep, hd⟩ := d rfl
      rw [oa] at e
      cases e
      cases hd
  have nsAt : ∀ {b : Addr} {m : Str → Option Value}, s₁.heap.Ns b m → (hidT s₁.heap H).Ns b m := by
    intro b m z
    obtain ⟨o, es, ep, e, d, r⟩ := z
    exact ⟨o, es, ep, hidT_get e (free e fun _ => ⟨es, ep, d⟩), d, r⟩
  have KB : K.In (hidT s₁.heap H) := by
    intro b o e
    refine hidT_get (KX b o e) ?_
    rcases Classical.em (H b = none) with z | z
    · exact z
    · obtain ⟨rfl, q⟩ := at_a b z
      rw [q] at e
      cases e
  obtain ⟨ml, l1, l2⟩ := nol
  have M : Mod K mg (hidT s₁.heap H) := ⟨KB, nsAt gl, ⟨mb, nsAt bl, bb⟩, ⟨ml, nsAt l1, l2⟩⟩
  have E : Env0 P w K mg (hidT s₁.heap H) callerA [] s₁ H := by
    refine ⟨rfl, M, fun b o e => of_hidT e, Nat.le_of_eq (hidT_size _ _), True.intro, fun b hb => ?_, hok, .of_eq ng⟩
    exact nomatch (show b ∈ ([] : List Addr) from hb)
  refine codeAny_mono ((F _ KB (nsAt gl)).go callerA [] s₁ H ⟨[.ref a], []⟩ [.ref a] [.ref a] _ rfl hr E (bt s₁ (.ref a)) (.cons rfl .nil) h) ?_
  intro r s' z
  match r, z with
  | .ok .next, z => exact False.elim z
  | .ok .brk, z => exact False.elim z
  | .ok .cont, z => exact False.elim z
  | .error _, z => exact False.elim z
  | .ok (.ret u), ⟨v, H', os, bare, un, hok', rv, q⟩ =>
    have q : v = .bl true := q
    subst q
    have ru : u = Value.bool true := rv
    subst ru
    refine ⟨rfl, OldK.of_keep fun b o e => ?_, os, bare⟩
    rcases only b with n | ⟨ob, xs, n⟩
    · exact un.keep b o e n (fun m => nomatch (show b ∈ ([] : List Addr) from m)) (fun m => nomatch m)
    · have f1 := hok b _ n
      have f2 := hok' b _ (un.frzs b ob _ n)
      have g1 : s₁.heap.get? b = some ob := f1.1
      have g2 : s'.heap.get? b = some ob := f2.1
      rw [e] at g1
      cases g1
      exact g2
theorem law_callG (KX : K.In s₁.heap) (gl : s₁.heap.Ns mainGlobals mg) (bl : s₁.heap.Ns builtinsNs mb) (bb : ∀ y : Str, y ≠ "__name__" → mb y = bootBuiltins y)
    (nol : s₁.heap.NoLimit) (ng : s₁.gens = #[]) (oa : s₁.heap.get? a = some { cls := .type "list", data := .seq vs.toArray }) (hi : IntsAre vs ns) (hl : ns.length ≤ sizeLine) (hr : Room k callerA)
    (F : ∀ base : Heap, K.In base → base.Ns mainGlobals mg → FnG P w K mg base k fa fd [x] sp)
    (bt : ∀ (s : Shared) (u : Value), BindsTo s fd ⟨[u], []⟩ [(x, u)])
    (hsp : ∀ H : Hp, Only H → SqL K H a (ns.map V.int) → sp [.ref a] H (fun v _ => v = .bl true) E0) :
    codeAny (model P w) callerA (.call (.ref fa) ⟨[.ref a], []⟩)
      (fun r s' => r = .ok (.ret (.bool true)) ∧ OldK s₁.heap s'.heap ∧ s'.os = s₁.os ∧ AllBare s'.gens) s₁ := by
  have rv := vals_ints hi
  have lenV := hi.length
  by_cases hk : K.lookup a = none
  · let H : Hp := fun b => if b = a then some (.frz { cls := .type "list", data := .seq vs.toArray } (.lst (ns.map V.int))) else none
    have Ha : H a = some (.frz { cls := .type "list", data := .seq vs.toArray } (.lst (ns.map V.int))) := if_pos rfl
    have Hn : ∀ {b : Addr}, b ≠ a → H b = none := fun h => if_neg h
    have only : Only H := by
      intro b
      by_cases e : b = a
      · subst e; exact .inr ⟨_, _, Ha⟩
      · exact .inl (Hn e)
    refine top_run KX gl bl bb nol ng oa hr F bt (H := H) only ?_ ?_ (hsp H only (.inl (.inr ⟨_, Ha⟩)))
    · intro b u z
      by_cases e : b = a
      · subst e
        rw [Ha] at z
        cases z
        exact ⟨oa, by rw [List.length_map]; exact hl, vs, _, rv, oa⟩
      · rw [Hn e] at z; cases z
    · intro b z
      by_cases e : b = a
      · exact ⟨e, hk⟩
      · exact absurd (Hn e) z
  · obtain ⟨o, ho⟩ := Option.ne_none_iff_exists'.mp hk
    have e := KX a o ho
    rw [oa] at e
    cases e
    have only : Only (fun _ => none) := fun _ => .inl rfl
    refine top_run KX gl bl bb nol ng oa hr F bt (H := fun _ => none) only (fun b u z => nomatch z) (fun b z => absurd rfl z) (hsp _ only (.inr ?_))
    exact ⟨_, vs.toArray, _, ho, rfl, rfl, rfl, by rw [List.size_toArray, lenV]; exact hl, by simpa using rv⟩
end
/-- what k_head leaves, from the promise of the law's def -/
theorem walkG {l : PySem.W.OpenLaw} {n k : Nat} {q : Program} {loose : List Str} {XP : (Str → Option Value) → Heap → Prop} {YP : World → Heap → Prop} {d : DefRec} {K : Params → PySem.W.Frag} {sp : PySem.W.Frag → Sp} {x : Str}
    (hn : l.most = some n) (hn2 : n ≤ sizeLine) (hdf : d.params.defaults = []) (hr : Room k callerA)
    (hY : ∀ (w : World) (h : Heap), YP w h → (K w.params).In h)
    (F : ∀ (w : World) (mg : Str → Option Value) (fa : Addr) (h : Heap), (K w.params).In h → h.Ns mainGlobals mg → mg d.name = some (.ref fa) →
      ∃ fd : FuncData, (∀ (s : Shared) (u : Value), BindsTo s fd ⟨[u], []⟩ [(x, u)]) ∧
        ∀ base : Heap, (K w.params).In base → base.Ns mainGlobals mg → FnG l.prog w (K w.params) mg base k fa fd [x] (sp (K w.params)))
    (hsp : ∀ (K : PySem.W.Frag) (H : Hp) (a : Addr) (ns : List Int), ns.length ≤ n → SqL K H a (ns.map V.int) →
      sp K [.ref a] H (fun v _ => v = .bl true) E0) :
    PySem.W.WalkO q loose XP YP l.row.toRowW d [] (fun f vs => PySem.call f vs) := by
  refine Att.attach_call hn hdf ?_
  intro w s₀ s₁ mg mb fa o pm cd doc a vs ns G Y ho hd hcd hmg oa hi hlen ng
  have KX := hY w _ Y
  obtain ⟨fd, bt, hF⟩ := F w mg fa _ KX G.T.g hmg
  exact law_callG KX G.T.g G.T.b G.T.builtins G.T.nolimit ng oa hi (Nat.le_trans hlen hn2) hr hF bt (fun H _ hS => hsp _ H a ns hlen hS)
end Gd

set_option Elab.async false
set_option linter.all false
set_option maxRecDepth 100000
set_option maxHeartbeats 4000000
/-! a def with defaults, called with all of its arguments, or with some of them -/
namespace Gd
open PySem PySem.Spec PyProof.Rows L2
theorem room65 {k : Nat} {A : Around} (r : Room k A) : A.units + 65 < cLine := by have := r.un; omega
/-- where a def with defaults stands; ds: the values that fill up -/
structure AtX (K : PySem.W.Frag) (mg : Str → Option Value) (x : Str) (st : Stmt) (ps : List Str) (ds : List Value) : Prop where
  ex : ∃ (f : Addr) (oc : Value) (od : Option Addr) (dV kV doc pm : Value) (an : Option Addr) (cdv ct : Value) (osl : Array (Option Value)),
    K.lookup f = some ⟨oc, od, .func (PySem.W.fnOf x x (defArgs st) (defBody st) (defScope st) dV kV doc pm an cdv ct), osl⟩ ∧ PySem.W.codeIn K cdv x = true ∧ PySem.W.keepIn K (.ref f) = true ∧ mg x = some (.ref f) ∧
    Binds K (PySem.W.fnOf x x (defArgs st) (defBody st) (defScope st) dV kV doc pm an cdv ct) ps ds
section
variable {P : Program} {w : World} {K : PySem.W.Frag} {mg : Str → Option Value} {base : Heap}
theorem clX {x : Str} {st : Stmt} {N ps : List Str} {k : Nat} {sp : Sp} (a : AtX K mg x st ps []) (S : FnScope N ps (defScope st))
    (len : ∀ vs H Q E, sp vs H Q E → vs.length = ps.length)
    (hb : ∀ (f : Addr) (cdv : Value) (A : Around) (outer : List Env) (s : Shared) (H : Hp) (vs : List V) (Q : VK),
      A.guards = some [] → Room k (A.deeper (envOfC x (defScope st) s.heap.objs.size f cdv)) → sp vs H Q E0 →
      ∃ t, PSs (cxOf CX0 P w K mg base N x (defScope st) f cdv A outer s H E0).nox (defBody st) t ∧
        t { nx := fun _ H' => Q .non H', rt := Q } (start N vs) H) : Cl P w K mg base (k + 1) x sp := by
  obtain ⟨f, oc, od, dV, kV, doc, pm, an, cdv, ct, osl, lk, hcd, kp, hm, bd⟩ := a.ex
  refine ⟨f, _, ps, ⟨len, fun A outer s H args us vs Q hg hr e0 bt rv hsp => ?_⟩, hm, kp, bd⟩
  have kin : K.In s.heap := e0.mod.kin.keeps (fun b o e => (e0.bs b o e).1)
  have nol : s.heap.NoLimit := e0.mod.nolimit.keeps (fun b o e => (e0.bs b o e).1)
  have pk : ((ps.zip us).all fun y => (defScope st).names.lookup y.1 == some NameKind.local ||
      (defScope st).names.lookup y.1 == some NameKind.cell) = true := by
    rw [List.all_eq_true]
    rintro ⟨n, v⟩ hm
    have hp := S.par n (List.of_mem_zip hm).1
    rcases hp with e | e <;> simp [e]
  refine Att.call_fn kin nol lk hcd hr.depth bt pk (fun s1 ic => ?_) S.co S.gen S.kind
  obtain ⟨t, ht, hq⟩ := hb f cdv A outer s H vs Q hg (hr.deeper _) hsp
  have J := inv_start (CX := CX0) (E := E0) (P := P) (w := w) (mg := mg) (base := base) S hr.hd e0 (len _ _ _ _ hsp) rv ic
  have J' := J.wish (fun _ _ => False)
  refine wpAny_mono (ht.run [] s1 (start N vs) H _ J' hq) (fun fl s' sp' => ?_) (fun _ _ z => z.elim)
  match fl, sp' with
  | .next, ⟨σ', H', L, q⟩ => exact ⟨.non, H', L.os, L.bare, L.base, L.hok, rfl, q⟩
  | .ret u, ⟨v, σ', H', L, rr, q⟩ => exact ⟨v, H', L.os, L.bare, L.base, L.hok, rr, q⟩
  | .brk, ⟨_, _, _, q⟩ => exact False.elim q
  | .cont, ⟨_, _, _, q⟩ => exact False.elim q
end
/-- one default behind: all arguments are given -/
theorem atX_all {K : PySem.W.Frag} {h : Heap} {mg : Str → Option Value} {x : Str} {st : Stmt} {ps : List Str} {f T : Addr} {od an td : Option Addr} {sl ts : Array (Option Value)} {oc kV dc pm cd ct d : Value} {tn : Nat} (X : K.In h) (G : h.Ns mainGlobals mg)
    (a : PySem.W.nsIn K mainGlobals x = some (some (.ref f))) (l : K.lookup f = some ⟨oc, od, .func (PySem.W.fnOf x x (defArgs st) (defBody st) (defScope st) (.ref T) kV dc pm an cd ct), sl⟩) (c : PySem.W.codeIn K cd x = true) (k : PySem.W.keepIn K (.ref f) = true)
    (u : K.lookup T = some ⟨.type "tuple", td, .seq #[d] tn, ts⟩)
    (hb : ∀ (T : Addr) (kV doc pm : Value) (an : Option Addr) (cdv ct : Value) (us its : List Value), us.length = ps.length → its.length = 1 →
      ∃ k, bindArgs (PySem.W.fnOf x x (defArgs st) (defBody st) (defScope st) (.ref T) kV doc pm an cdv ct) ⟨us, []⟩ = seqItems? (.ref T) >>= k ∧ k (some its.toArray) = pure (ps.zip us)) : AtX K mg x st ps [] := by
  refine ⟨f, oc, od, .ref T, kV, dc, pm, an, cd, ct, sl, l, c, k, PySem.W.mg_of X G a, fun s us KX hl => ?_⟩
  rw [List.append_nil] at hl ⊢
  obtain ⟨g, e1, e2⟩ := hb T kV dc pm an cd ct us [d] hl rfl
  refine BindsTo.of_looks fun M => ?_
  rw [e1]
  exact looks_items (its := #[d]) KX u rfl (PySem.W.Looks.of_pure e2)
/-- a method's call within a comprehension: the constants said -/
theorem pe_bmB {X : Cx} {K0 : PySem.W.Frag} {T : String} {name : Str} {id : String} {r : V → List V → Hp → VK → Prop} {o e : Expr} {es : List Expr} {to : TE} {t : TA} {apos cpos : Pos} (hK : X.K = K0) (pa : PlainAttrs T) (slot : Slot T name id) (hty : typeOf (.builtin id) = pure (.type "method_descriptor")) (hm : MtR X id r) (ho : PE X o to) (ha : PA X (e :: es) t)
    (hbase : attributeBase o name X.env (eval o X.env) = eval o X.env := by rfl)
    (hfew : ((backTo cpos (starEach (e :: es) X.env)).all (fun x => !x.1) && (backToKw cpos (keywordEach [] X.env)).all (fun x => x.1.isSome)
      && decide ((e :: es).length + ([] : List Keyword).length + (if ([] : List Keyword).isEmpty then 0 else 1) < 30)) = true := by rfl)
    (hline : (apos.endLine == cpos.line) = true := by rfl) (hs : starEach (e :: es) X.env = (false, eval e X.env) :: starEach es X.env := by rfl) (hplain : (backTo cpos (starEach es X.env)).any (·.1) = false := by rfl) :
    PE X (.Call (.Attribute o name apos) (e :: es) [] cpos) (tBM K0 T r to t) := by
  subst hK
  exact pe_bm pa slot hty hm ho ha hbase hfew hline hs hplain
end Gd

set_option Elab.async false
set_option linter.all false
set_option maxRecDepth 100000
set_option maxHeartbeats 4000000
namespace Rm
open PySem PySem.Spec PyProof.Rows L2 Gd

/-! ### how long a display is -/
structure Fit (L n : Nat) (d : PyData) : Prop where
  sh : d.showable = true
  dp : d.depth ≤ n
  ln : d.shown.length ≤ L
theorem Fit.mono {L n L' n' : Nat} {d : PyData} (f : Fit L n d) (h : L ≤ L') (h' : n ≤ n') : Fit L' n' d := ⟨f.sh, by have := f.dp; omega, by have := f.ln; omega⟩
theorem allSh {L n : Nat} : ∀ {ds : List PyData}, (∀ d ∈ ds, Fit L n d) → PyData.showableAll ds = true ∧ PyData.depthAll ds ≤ n ∧ piled (PyData.shownAll ds) ≤ ds.length * (L + 2)
  | [], _ => ⟨rfl, Nat.zero_le _, Nat.zero_le _⟩
  | d :: ds, h => by
    obtain ⟨a, b, c⟩ := allSh (ds := ds) fun x hx => h x (List.mem_cons_of_mem _ hx)
    have f := h d List.mem_cons_self
    refine ⟨?_, ?_, ?_⟩
    · show (d.showable && PyData.showableAll ds) = true
      rw [f.sh, a]; rfl
    · show max d.depth (PyData.depthAll ds) ≤ n
      have := f.dp
      omega
    · show piled (d.shown :: PyData.shownAll ds) ≤ _
      rw [piled_cons, List.length_cons]
      have := f.ln
      have e : (ds.length + 1) * (L + 2) = ds.length * (L + 2) + (L + 2) := Nat.succ_mul _ _
      omega
theorem listText_le (ts : List Str) : (listText ts).length ≤ piled ts + 2 := by
  cases ts with
  | nil => decide
  | cons t r =>
    have h := textFrom_length_pos r 1 (("[" : Str) ++ (if (0 : Nat) > 0 then ", " else "" : String) ++ t) (Nat.succ_pos 0)
    have e : ((("[" : Str) ++ (if (0 : Nat) > 0 then ", " else "" : String) ++ t)).length = 1 + t.length := by
      rw [strLen_append, strLen_append]; rfl
    have x : (listText (t :: r)).length = (textFrom 1 (("[" : Str) ++ (if (0 : Nat) > 0 then ", " else "" : String) ++ t) r).length + 1 := by
      show (textFrom 1 (("[" : Str) ++ (if (0 : Nat) > 0 then ", " else "" : String) ++ t) r ++ "]").length = _
      rw [strLen_append]; rfl
    rw [x, h, e, piled_cons]
    omega
theorem tupleText_le (ts : List Str) : (tupleText ts).length ≤ piled ts + 3 := by
  unfold tupleText
  rw [strLen_append, strLen_append]
  have e1 : ((("(" : String) : Str)).length = 1 := rfl
  have e3 : (((if ts.length == 1 then ",)" else ")" : String) : Str)).length ≤ 2 := by split <;> decide
  rw [e1]
  cases ts with
  | nil =>
    have : (Str.join ", " []).length = 0 := by decide
    omega
  | cons t r =>
    have := join_length_add (t :: r) (by simp)
    omega
theorem fit_list {L n : Nat} {ds : List PyData} (h : ∀ d ∈ ds, Fit L n d) : Fit (ds.length * (L + 2) + 3) (n + 1) (.list ds) := by
  obtain ⟨a, b, c⟩ := allSh h
  have := listText_le (PyData.shownAll ds)
  exact ⟨a, by show PyData.depthAll ds + 1 ≤ _; omega, by show (listText (PyData.shownAll ds)).length ≤ _; omega⟩
theorem fit_tup {L n : Nat} {ds : List PyData} (h : ∀ d ∈ ds, Fit L n d) : Fit (ds.length * (L + 2) + 3) (n + 1) (.tuple ds) := by
  obtain ⟨a, b, c⟩ := allSh h
  have := tupleText_le (PyData.shownAll ds)
  exact ⟨a, by show PyData.depthAll ds + 1 ≤ _; omega, by show (tupleText (PyData.shownAll ds)).length ≤ _; omega⟩
theorem fit_int {i : Int} (h : i.natAbs < 2 ^ 200) : Fit 210 0 (.int i) := by
  have hl : i.natAbs.log2 < 200 := PySem.Flt.log2_lt_of (by decide) h
  refine ⟨?_, Nat.le_refl _, ?_⟩
  · show decide (i.natAbs.log2 < 1920) = true
    exact decide_eq_true (by omega)
  · show (Str.ofString (toString i)).length ≤ 210
    rw [PySem.ofString_length]
    have := int_text_length_le (k := 200) (by decide) hl
    omega
theorem fit_none : Fit 210 0 .none := ⟨rfl, Nat.le_refl _, by decide +kernel⟩
theorem fit_bool (b : Bool) : Fit 210 0 (.bool b) := ⟨rfl, Nat.le_refl _, by cases b <;> decide +kernel⟩

/-! ### records -/
structure Ev where
  t : Int
  k : Int
  d : Bool
def wayS (d : Bool) : Str := if d then "down" else "up"
theorem wayS_inj {a b : Bool} : wayS a = wayS b ↔ a = b := by cases a <;> cases b <;> decide +kernel
theorem wayS_down (d : Bool) : decide (V.str (wayS d) = V.str "down") = d := by cases d <;> decide +kernel
def evD (e : Ev) : PyData := .tuple [.int e.t, .int e.k, .str (wayS e.d)]
def stD (e : Ev) : PyData := .tuple [.int e.k, .str (wayS e.d)]
def evV (e : Ev) : List V := [.int e.t, .int e.k, .str (wayS e.d)]
def stV (e : Ev) : List V := [.int e.k, .str (wayS e.d)]
def recD (es : List Ev) : PyData := .list (es.map evD)
def ordD (es : List Ev) : PyData := .list (es.map stD)
def after (h : Int → Bool) (e : Ev) : Int → Bool := fun k => if k = e.k then e.d else h k
def heldB (es : List Ev) : Int → Bool := es.foldl after fun _ => false
theorem heldB_snoc (es : List Ev) (e : Ev) : heldB (es ++ [e]) = after (heldB es) e := by unfold heldB; rw [List.foldl_append]; rfl
theorem heldB_take {es : List Ev} {i : Nat} {e : Ev} (h : es[i]? = some e) : heldB (es.take (i + 1)) = after (heldB (es.take i)) e := by
  rw [List.take_add_one, h]
  exact heldB_snoc _ _
/-- a record as the document has it -/
def Valid (es : List Ev) : Prop := ∀ (i : Nat) (e : Ev), es[i]? = some e → 0 ≤ e.k ∧ heldB (es.take i) e.k = !e.d ∧ ∀ (j : Nat) (e' : Ev), j < i → es[j]? = some e' → e'.t ≤ e.t
/-- an order: the same without ticks -/
def ValidO (es : List Ev) : Prop := ∀ (i : Nat) (e : Ev), es[i]? = some e → 0 ≤ e.k ∧ heldB (es.take i) e.k = !e.d
theorem Valid.o {es : List Ev} (h : Valid es) : ValidO es := fun i e x => ⟨(h i e x).1, (h i e x).2.1⟩
theorem Valid.nil : Valid [] := fun _ _ h => by simp at h
theorem Valid.take {es : List Ev} (h : Valid es) (n : Nat) : Valid (es.take n) := fun i e x => by
  have hi : i < n := by
    rcases Nat.lt_or_ge i n with q | q
    · exact q
    · rw [List.getElem?_eq_none (by rw [List.length_take]; omega)] at x; cases x
  rw [List.getElem?_take_of_lt hi] at x
  obtain ⟨a, b, c⟩ := h i e x
  refine ⟨a, ?_, fun j e' hj y => ?_⟩
  · rw [List.take_take, Nat.min_eq_left (by omega)]; exact b
  · rw [List.getElem?_take_of_lt (by omega)] at y
    exact c j e' hj y
theorem ValidO.take {es : List Ev} (h : ValidO es) (n : Nat) : ValidO (es.take n) := fun i e x => by
  have hi : i < n := by
    rcases Nat.lt_or_ge i n with q | q
    · exact q
    · rw [List.getElem?_eq_none (by rw [List.length_take]; omega)] at x; cases x
  rw [List.getElem?_take_of_lt hi] at x
  obtain ⟨a, b⟩ := h i e x
  exact ⟨a, by rw [List.take_take, Nat.min_eq_left (by omega)]; exact b⟩
theorem Valid.snoc {es : List Ev} {e : Ev} (h : Valid es) (h0 : 0 ≤ e.k) (hb : heldB es e.k = !e.d) (ht : ∀ e' ∈ es, e'.t ≤ e.t) : Valid (es ++ [e]) := fun i x hx => by
  rcases Nat.lt_or_ge i es.length with q | q
  · rw [List.getElem?_append_left q] at hx
    obtain ⟨a, b, c⟩ := h i x hx
    refine ⟨a, ?_, fun j e' hj y => ?_⟩
    · rw [List.take_append_of_le_length (by omega)]; exact b
    · rw [List.getElem?_append_left (by omega)] at y
      exact c j e' hj y
  · have hi : i = es.length := by
      have := (List.getElem?_eq_some_iff.mp hx).1
      rw [List.length_append] at this
      simp at this
      omega
    subst hi
    rw [List.getElem?_append_right (Nat.le_refl _), Nat.sub_self] at hx
    have ex : e = x := Option.some.inj hx
    subst ex
    refine ⟨h0, ?_, fun j e' hj y => ?_⟩
    · rw [List.take_append_of_le_length (Nat.le_refl _), List.take_length]; exact hb
    · rw [List.getElem?_append_left hj] at y
      exact ht e' (List.mem_of_getElem? y)
/-- the ticks and keys are not too great to be shown -/
def Small (es : List Ev) : Prop := ∀ e ∈ es, e.t.natAbs < 2 ^ 200 ∧ e.k.natAbs < 2 ^ 200
theorem fit_ev {e : Ev} (h : e.t.natAbs < 2 ^ 200 ∧ e.k.natAbs < 2 ^ 200) : Fit 1000 1 (evD e) := by
  refine Fit.mono (fit_tup (L := 210) (n := 0) fun d hd => ?_) (by show 3 * 212 + 3 ≤ 1000; decide) (Nat.le_refl _)
  simp only [List.mem_cons, List.mem_nil_iff, or_false] at hd
  rcases hd with rfl | rfl | rfl
  · exact fit_int h.1
  · exact fit_int h.2
  · exact ⟨rfl, Nat.le_refl _, by cases e.d <;> decide +kernel⟩
theorem fit_st {e : Ev} (h : e.k.natAbs < 2 ^ 200) : Fit 1000 1 (stD e) := by
  refine Fit.mono (fit_tup (L := 210) (n := 0) fun d hd => ?_) (by show 2 * 212 + 3 ≤ 1000; decide) (Nat.le_refl _)
  simp only [List.mem_cons, List.mem_nil_iff, or_false] at hd
  rcases hd with rfl | rfl
  · exact fit_int h
  · exact ⟨rfl, Nat.le_refl _, by cases e.d <;> decide +kernel⟩
theorem fit_rec {es : List Ev} (h : Small es) (hl : es.length ≤ 1000) : Fit 1100000 2 (recD es) := by
  refine Fit.mono (fit_list (L := 1000) (n := 1) fun d hd => ?_) (by rw [List.length_map]; omega) (Nat.le_refl _)
  obtain ⟨e, he, rfl⟩ := List.mem_map.mp hd
  exact fit_ev (h e he)
theorem fit_ord {es : List Ev} (h : Small es) (hl : es.length ≤ 1000) : Fit 1100000 2 (ordD es) := by
  refine Fit.mono (fit_list (L := 1000) (n := 1) fun d hd => ?_) (by rw [List.length_map]; omega) (Nat.le_refl _)
  obtain ⟨e, he, rfl⟩ := List.mem_map.mp hd
  exact fit_st (h e he).2

/-! ### the dict of what is held -/
structure HeldK (kvs : List (Key × V)) (h : Int → Bool) : Prop where
  fm : ∀ p ∈ kvs, ∃ (k : Int) (b : Bool), p = (Sum.inl k, V.bl b)
  nd : (kvs.map (·.1)).Nodup
  at_ : ∀ k : Int, (valV kvs (Sum.inl k)).getD (.bl false) = .bl (h k)
theorem HeldK.nil : HeldK [] fun _ => false := ⟨fun _ h => by simp at h, List.nodup_nil, fun _ => rfl⟩
theorem put_len (kvs : List (Key × V)) (k : Key) (v : V) : (putK kvs k v).length ≤ kvs.length + 1 := by
  unfold putK
  split
  · rw [List.length_map]; omega
  · rw [List.length_append]; exact Nat.le_refl _
theorem put_keys (kvs : List (Key × V)) (k : Key) (v : V) (h : (kvs.map (·.1)).Nodup) : ((putK kvs k v).map (·.1)).Nodup := by
  cases e : valV kvs k with
  | none => exact nd_putK v h e
  | some x =>
    have a : (kvs.any fun kv => decide (kv.1 = k)) = true := by rw [valV_any, e]; rfl
    unfold putK
    rw [if_pos a, List.map_map]
    have : ((fun p : Key × V => p.1) ∘ fun kv => if kv.1 = k then (kv.1, v) else kv) = (·.1) := by
      funext p
      show (if p.1 = k then (p.1, v) else p).1 = p.1
      split <;> rfl
    rw [this]
    exact h
theorem HeldK.put {kvs : List (Key × V)} {es : List Ev} {e : Ev} (h : HeldK kvs (heldB es)) : HeldK (putK kvs (Sum.inl e.k) (.bl e.d)) (heldB (es ++ [e])) := by
  refine ⟨fun p hp => ?_, put_keys _ _ _ h.nd, fun k => ?_⟩
  · unfold putK at hp
    split at hp
    · obtain ⟨q, hq, rfl⟩ := List.mem_map.mp hp
      obtain ⟨k, b, rfl⟩ := h.fm q hq
      by_cases z : (Sum.inl k : Key) = Sum.inl e.k
      · exact ⟨k, e.d, by simp [z]⟩
      · exact ⟨k, b, by simp [z]⟩
    · rcases List.mem_append.mp hp with hp | hp
      · exact h.fm p hp
      · exact ⟨e.k, e.d, List.mem_singleton.mp hp⟩
  · rw [valV_put, heldB_snoc]
    unfold after
    by_cases z : k = e.k
    · subst z; simp
    · rw [if_neg (fun q => z (Sum.inl.inj q)), if_neg z]
      exact h.at_ k
def downs (kvs : List (Key × V)) : List Int := kvs.filterMap fun p => match p with
  | (Sum.inl k, .bl true) => some k
  | _ => none
theorem downs_cons (k : Int) (b : Bool) (r : List (Key × V)) : downs ((Sum.inl k, .bl b) :: r) = if b then k :: downs r else downs r := by
  cases b <;> simp [downs, List.filterMap_cons]
theorem downs_sub : ∀ {kvs : List (Key × V)} {k : Int}, k ∈ downs kvs → (Sum.inl k : Key) ∈ kvs.map (·.1)
  | kvs, k, h => by
    obtain ⟨p, hp, e⟩ := List.mem_filterMap.mp h
    refine List.mem_map.mpr ⟨p, hp, ?_⟩
    obtain ⟨a, b⟩ := p
    cases a with
    | inr _ => cases e
    | inl k' =>
      cases b with
      | bl c => cases c <;> simp at e; rw [e]
      | non => cases e
      | int _ => cases e
      | str _ => cases e
      | byt _ => cases e
      | flt _ => cases e
      | ref _ => cases e
      | ty _ => cases e
theorem downs_nd : ∀ {kvs : List (Key × V)}, (∀ p ∈ kvs, ∃ (k : Int) (b : Bool), p = (Sum.inl k, V.bl b)) → (kvs.map (·.1)).Nodup → (downs kvs).Nodup
  | [], _, _ => List.nodup_nil
  | p :: r, fm, nd => by
    obtain ⟨k, b, rfl⟩ := fm p List.mem_cons_self
    have nd' : ((Sum.inl k : Key) :: r.map (·.1)).Nodup := nd
    obtain ⟨n1, n2⟩ := List.nodup_cons.mp nd'
    have ih := downs_nd (fun q hq => fm q (List.mem_cons_of_mem _ hq)) n2
    rw [downs_cons]
    split
    · exact List.nodup_cons.mpr ⟨fun m => n1 (downs_sub m), ih⟩
    · exact ih
theorem downs_mem : ∀ {kvs : List (Key × V)}, (∀ p ∈ kvs, ∃ (k : Int) (b : Bool), p = (Sum.inl k, V.bl b)) → (kvs.map (·.1)).Nodup → ∀ k : Int, k ∈ downs kvs ↔ valV kvs (Sum.inl k) = some (.bl true)
  | [], _, _, k => by simp [downs, valV]
  | p :: r, fm, nd, k => by
    obtain ⟨k', b, rfl⟩ := fm p List.mem_cons_self
    have nd' : ((Sum.inl k' : Key) :: r.map (·.1)).Nodup := nd
    obtain ⟨n1, n2⟩ := List.nodup_cons.mp nd'
    have ih := downs_mem (fun q hq => fm q (List.mem_cons_of_mem _ hq)) n2 k
    rw [downs_cons]
    by_cases z : k' = k
    · subst z
      rw [valV_pos rfl]
      cases b with
      | true => simp
      | false =>
        simp only [Bool.false_eq_true, if_false]
        constructor
        · intro m; exact absurd (downs_sub m) n1
        · intro m; cases m
    · rw [valV_neg (fun q => z (Sum.inl.inj q))]
      rw [← ih]
      split
      · rw [List.mem_cons]
        exact ⟨fun q => q.resolve_left fun e => z e.symm, .inr⟩
      · exact Iff.rfl
theorem HeldK.mem {kvs : List (Key × V)} {h : Int → Bool} (x : HeldK kvs h) (k : Int) : k ∈ downs kvs ↔ h k = true := by
  rw [downs_mem x.fm x.nd k]
  have q := x.at_ k
  cases e : valV kvs (Sum.inl k) with
  | none =>
    rw [e] at q
    have q : V.bl false = .bl (h k) := q
    have : h k = false := (V.bl.inj q).symm
    simp [this]
  | some v =>
    rw [e] at q
    have q : v = .bl (h k) := q
    subst q
    constructor
    · intro z
      exact V.bl.inj (Option.some.inj z)
    · intro z
      rw [z]
/-- two ascending lists of the same keys -/
theorem same_sorted {a b c d : List Int} (h : ∀ k, k ∈ a ↔ k ∈ b) (na : a.Nodup) (nb : b.Nodup) (pa : c.Perm a) (pb : d.Perm b) (sa : c.Pairwise (· ≤ ·)) (sb : d.Pairwise (· ≤ ·)) : c = d := by
  have p : a.Perm b := (List.perm_ext_iff_of_nodup na nb).mpr h
  exact List.Perm.eq_of_pairwise (fun x y _ _ h1 h2 => Int.le_antisymm h1 h2) sa sb ((pa.trans p).trans pb.symm)

/-! ### heaps that change at one address alone -/
def Off (r : Addr) (H H' : Hp) : Prop := ∀ b o, H b = some o → b ≠ r → H' b = some o
theorem Off.refl {r : Addr} (H : Hp) : Off r H H := fun _ _ h _ => h
theorem Off.trans {r : Addr} {H H1 H2 : Hp} (a : Off r H H1) (b : Off r H1 H2) : Off r H H2 := fun c o h n => b c o (a c o h n) n
theorem Off.of {r : Addr} {H H1 : Hp} (a : Same H H1) : Off r H H1 := fun c o h _ => a c o h
theorem off_upd {r : Addr} {H : Hp} {o : HO} : Off r H (upd H r o) := fun b _ h n => by rw [upd_ne n]; exact h
theorem same_upd {H : Hp} {p : Addr} {o : HO} (h : H p = none) : Same H (upd H p o) := fun b x e => by
  rw [upd_ne (ne_of_none e h)]
  exact e
/-- what is new may change -/
theorem Same.off {H H1 H2 : Hp} {p : Addr} (s : Same H H1) (h : H p = none) (o : Off p H1 H2) : Same H H2 := fun b x e => o b x (s b x e) (ne_of_none e h)

/-! ### lists of tuples -/
def Tups {α : Type} (H : Hp) (f : α → List V) (as : List Addr) (es : List α) : Prop := as.length = es.length ∧ ∀ (i : Nat) (a : Addr) (e : α), as[i]? = some a → es[i]? = some e → H a = some (.tup (f e))
def Lst {α : Type} (f : α → List V) (H : Hp) (c : Addr) (es : List α) : Prop := ∃ as : List Addr, H c = some (.lst (as.map V.ref)) ∧ Tups H f as es
section
variable {α : Type} {f : α → List V} {H H' : Hp} {c r : Addr} {as : List Addr} {es : List α}
theorem Tups.nil : Tups H f [] ([] : List α) := ⟨rfl, fun i a e h _ => by simp at h⟩
theorem Tups.same (h : Tups H f as es) (s : Same H H') : Tups H' f as es := ⟨h.1, fun i a e x y => s _ _ (h.2 i a e x y)⟩
theorem Tups.off {ys : List V} (h : Tups H f as es) (hr : H r = some (.lst ys)) (o : Off r H H') : Tups H' f as es :=
  ⟨h.1, fun i a e x y => o _ _ (h.2 i a e x y) (ne_of (h.2 i a e x y) hr (by intro z; cases z))⟩
theorem Tups.snoc {a : Addr} {e : α} (h : Tups H f as es) (ha : H a = some (.tup (f e))) : Tups H f (as ++ [a]) (es ++ [e]) := by
  refine ⟨by rw [List.length_append, List.length_append, h.1]; rfl, fun i b x hb hx => ?_⟩
  rcases Nat.lt_or_ge i as.length with q | q
  · rw [List.getElem?_append_left q] at hb
    rw [List.getElem?_append_left (by rw [← h.1]; exact q)] at hx
    exact h.2 i b x hb hx
  · have hl := h.1
    have hi : i = as.length := by
      have := (List.getElem?_eq_some_iff.mp hb).1
      rw [List.length_append] at this
      simp at this
      omega
    subst hi
    rw [List.getElem?_append_right (Nat.le_refl _), Nat.sub_self] at hb
    rw [List.getElem?_append_right (by omega), show as.length - es.length = 0 by omega] at hx
    have e1 : a = b := Option.some.inj hb
    have e2 : e = x := Option.some.inj hx
    subst e1 e2
    exact ha
theorem Tups.take (h : Tups H f as es) (n : Nat) : Tups H f (as.take n) (es.take n) := by
  refine ⟨by rw [List.length_take, List.length_take, h.1], fun i b x hb hx => ?_⟩
  have hi : i < n := by
    rcases Nat.lt_or_ge i n with q | q
    · exact q
    · rw [List.getElem?_eq_none (by rw [List.length_take]; omega)] at hb; cases hb
  rw [List.getElem?_take_of_lt hi] at hb hx
  exact h.2 i b x hb hx
theorem Tups.append {bs : List Addr} {gs : List α} (h : Tups H f as es) (h' : Tups H f bs gs) : Tups H f (as ++ bs) (es ++ gs) := by
  refine ⟨by rw [List.length_append, List.length_append, h.1, h'.1], fun i b x hb hx => ?_⟩
  have hl := h.1
  rcases Nat.lt_or_ge i as.length with q | q
  · rw [List.getElem?_append_left q] at hb
    rw [List.getElem?_append_left (by omega)] at hx
    exact h.2 i b x hb hx
  · rw [List.getElem?_append_right q] at hb
    rw [List.getElem?_append_right (by omega), ← hl] at hx
    exact h'.2 _ b x hb hx
theorem Tups.at_ (h : Tups H f as es) {i : Nat} (hi : i < es.length) : ∃ a, as[i]? = some a ∧ H a = some (.tup (f es[i])) := by
  have hl := h.1
  exact ⟨as[i], List.getElem?_eq_getElem (by omega), h.2 i _ _ (List.getElem?_eq_getElem (by omega)) (List.getElem?_eq_getElem hi)⟩
theorem Tups.map {β : Type} {g : β → α} {bs : List β} (h : Tups H f as (bs.map g)) : Tups H (fun b => f (g b)) as bs := by
  refine ⟨by rw [h.1, List.length_map], fun i a b x y => h.2 i a (g b) x (by rw [List.getElem?_map, y]; rfl)⟩
theorem Tups.map' {β : Type} {g : β → α} {bs : List β} (h : Tups H (fun b => f (g b)) as bs) : Tups H f as (bs.map g) := by
  refine ⟨by rw [h.1, List.length_map], fun i a e x y => ?_⟩
  rw [List.getElem?_map] at y
  cases z : bs[i]? with
  | none => rw [z] at y; cases y
  | some b =>
    rw [z] at y
    have y : g b = e := Option.some.inj y
    subst y
    exact h.2 i a b x z
theorem Lst.same (h : Lst f H c es) (s : Same H H') : Lst f H' c es := by
  obtain ⟨as, a, b⟩ := h
  exact ⟨as, s _ _ a, b.same s⟩
theorem Lst.off {ys : List V} (h : Lst f H c es) (hr : H r = some (.lst ys)) (n : c ≠ r) (o : Off r H H') : Lst f H' c es := by
  obtain ⟨as, a, b⟩ := h
  exact ⟨as, o _ _ a n, b.off hr o⟩
end
theorem dp_int {K : PySem.W.Frag} {H : Hp} {i : Int} : Dp K H (.int i) (.int i) := .int i
theorem dpAll_of {K : PySem.W.Frag} {H : Hp} {α : Type} {f : α → List V} {g : α → PyData} (hg : ∀ (a : Addr) (e : α), H a = some (.tup (f e)) → Dp K H (.ref a) (g e)) :
    ∀ (as : List Addr) (es : List α), Tups H f as es → DpAll K H (as.map V.ref) (es.map g)
  | [], [], _ => .nil
  | [], _ :: _, h => by have := h.1; simp at this
  | _ :: _, [], h => by have := h.1; simp at this
  | a :: as, e :: es, h => .cons (hg a e (h.2 0 a e rfl rfl)) (dpAll_of hg as es ⟨by have := h.1; simpa using this, fun i b x hb hx => h.2 (i + 1) b x (by simpa using hb) (by simpa using hx)⟩)
theorem Lst.dp {K : PySem.W.Frag} {H : Hp} {c : Addr} {es : List Ev} (h : Lst evV H c es) : Dp K H (.ref c) (recD es) := by
  obtain ⟨as, a, b⟩ := h
  refine .lst (SqL.of a) (dpAll_of (fun a e ha => ?_) as es b)
  exact .tup (SqT.of ha) (.cons (.int _) (.cons (.int _) (.cons (.str _) .nil)))
theorem Lst.dpO {K : PySem.W.Frag} {H : Hp} {c : Addr} {es : List Ev} (h : Lst stV H c es) : Dp K H (.ref c) (ordD es) := by
  obtain ⟨as, a, b⟩ := h
  refine .lst (SqL.of a) (dpAll_of (fun a e ha => ?_) as es b)
  exact .tup (SqT.of ha) (.cons (.int _) (.cons (.str _) .nil))
theorem dpInts {K : PySem.W.Frag} {H : Hp} : ∀ ns : List Int, DpAll K H (ns.map V.int) (ns.map PyData.int)
  | [] => .nil
  | n :: ns => .cons (.int n) (dpInts ns)
theorem Lst.sql {K : PySem.W.Frag} {α : Type} {f : α → List V} {H : Hp} {c : Addr} {es : List α} (h : Lst f H c es) : ∃ xs : List V, SqL K H c xs ∧ xs.length = es.length := by
  obtain ⟨as, a, b⟩ := h
  exact ⟨_, SqL.of a, by rw [List.length_map]; exact b.1⟩

theorem val_at : ∀ {kvs : List (Key × V)} {i : Nat} {k : Key} {v : V}, (kvs.map (·.1)).Nodup → kvs[i]? = some (k, v) → valV kvs k = some v
  | [], _, _, _, _, h => by simp at h
  | p :: r, 0, k, v, _, h => by
    have e : p = (k, v) := Option.some.inj h
    subst e
    exact valV_pos rfl
  | p :: r, i + 1, k, v, nd, h => by
    have nd' : (p.1 :: r.map (·.1)).Nodup := nd
    obtain ⟨n1, n2⟩ := List.nodup_cons.mp nd'
    have h' : r[i]? = some (k, v) := by simpa using h
    have m : k ∈ r.map (·.1) := List.mem_map.mpr ⟨(k, v), List.mem_of_getElem? h', rfl⟩
    rw [valV_neg (fun e => n1 (e ▸ m))]
    exact val_at n2 h'
theorem downs_append (a b : List (Key × V)) : downs (a ++ b) = downs a ++ downs b := by unfold downs; rw [List.filterMap_append]
theorem downs_take {kvs : List (Key × V)} {i : Nat} {k : Int} {b : Bool} (h : kvs[i]? = some (Sum.inl k, .bl b)) : downs (kvs.take (i + 1)) = if b then downs (kvs.take i) ++ [k] else downs (kvs.take i) := by
  rw [List.take_add_one, h, downs_append]
  cases b <;> simp [downs]
theorem downs_len (kvs : List (Key × V)) : (downs kvs).length ≤ kvs.length := by unfold downs; exact List.length_filterMap_le _ _
end Rm

set_option Elab.async false
set_option linter.all false
set_option maxRecDepth 100000
set_option maxHeartbeats 4000000
namespace Rm
open PySem PySem.Spec PyProof.Rows L2 Gd

theorem Off.new {r p : Addr} {H H1 : Hp} {o : HO} (a : Off r H H1) (n : H p = none) : Off r H (upd H1 p o) := fun b x e ne => by
  rw [upd_ne (ne_of_none e n)]
  exact a b x e ne
theorem Off.at_ {r : Addr} {H H1 : Hp} {o : HO} (a : Off r H H1) : Off r H (upd H1 r o) := a.trans off_upd
theorem Off.sameTrans {r : Addr} {H H1 H2 : Hp} (a : Off r H H1) (b : Same H1 H2) : Off r H H2 := a.trans (Off.of b)
/-- what was free stays free of it: a new address of a later heap is new for the earlier one too -/
theorem Off.free {r p : Addr} {H H1 : Hp} {o : HO} (a : Off r H H1) (hr : H1 r = some o) (n : H1 p = none) : H p = none := by
  cases e : H p with
  | none => rfl
  | some x =>
    have h : p ≠ r := fun z => by rw [z, hr] at n; cases n
    rw [a p x e h] at n
    cases n

theorem getI {ns : List Int} {d : Int} (h0 : 0 ≤ d) (h1 : d < (ns.length : Int)) : ∃ (v : Int), atI (ns.map V.int) d = some (.int v) ∧ ns[d.toNat]? = some v := by
  have hd : d.toNat < ns.length := by omega
  refine ⟨ns[d.toNat], ?_, List.getElem?_eq_getElem hd⟩
  refine at_of (j := d.toNat) (by omega) ?_
  rw [List.getElem?_map, List.getElem?_eq_getElem hd]
  rfl
theorem inv_int (k : Int) : ∀ ns : List Int, inV (.int k) (ns.map V.int) = decide (k ∈ ns)
  | [] => rfl
  | n :: ns => by
    show (eqV (.int n) (.int k) || inV (.int k) (ns.map V.int)) = _
    rw [inv_int k ns]
    have e : eqV (.int n) (.int k) = decide (n = k) := by
      by_cases z : n = k <;> simp [eqV, z]
    rw [e]
    by_cases z : n = k
    · subst z; simp
    · have z' : ¬ k = n := fun q => z q.symm
      simp [z, z']
theorem flat_ints : ∀ ns : List Int, (ns.map V.int).all flatV = true
  | [] => rfl
  | n :: ns => by
    show (flatV (.int n) && (ns.map V.int).all flatV) = true
    rw [flat_ints ns]
    rfl
theorem lay_ints : ∀ ns : List Int, PyData.canLayAll0 (ns.map PyData.int) = true ∧ PyData.depthAll (ns.map PyData.int) = 0
  | [] => ⟨rfl, rfl⟩
  | n :: ns => by
    obtain ⟨a, b⟩ := lay_ints ns
    refine ⟨?_, ?_⟩
    · show (PyData.canLay0 (.int n) && PyData.canLayAll0 (ns.map PyData.int)) = true
      rw [a]
      rfl
    · show max (PyData.depth (.int n)) (PyData.depthAll (ns.map PyData.int)) = 0
      rw [b]
      rfl
theorem shaped_ints (ns : List Int) : SeqAt.shaped (.list (ns.map PyData.int)) = true := by
  obtain ⟨a, b⟩ := lay_ints ns
  show (PyData.canLayAll0 (ns.map PyData.int) && decide (PyData.depthAll (ns.map PyData.int) + 1 ≤ 64)) = true
  rw [a, b]
  rfl
theorem eqv_nil (ds : List PyData) : PyData.eqv (.list ds) (.list []) = ds.isEmpty := by
  cases ds <;> rfl
theorem mem_eraseIdx {ns : List Int} {j : Nat} {k : Int} (nd : ns.Nodup) (h : ns[j]? = some k) (x : Int) : x ∈ ns.eraseIdx j ↔ x ≠ k ∧ x ∈ ns := by
  rw [List.mem_eraseIdx_iff_getElem?]
  constructor
  · rintro ⟨i, hi, e⟩
    refine ⟨fun z => ?_, List.mem_of_getElem? e⟩
    subst z
    exact hi (nd_ix nd e h)
  · rintro ⟨hx, hm⟩
    obtain ⟨i, e⟩ := List.getElem?_of_mem hm
    refine ⟨i, fun z => ?_, e⟩
    subst z
    rw [h] at e
    exact hx (Option.some.inj e).symm
theorem first_ix {ns : List Int} {j : Nat} {k : Int} (nd : ns.Nodup) (h : ns[j]? = some k) : ∀ m : Nat, m < j → ns[m]? ≠ some k := fun m hm e => by
  have := nd_ix nd e h
  omega

/-! ### the keys that are down, as a list -/
structure DownOk (ns : List Int) (es : List Ev) : Prop where
  nd : ns.Nodup
  mem : ∀ k, k ∈ ns ↔ heldB es k = true
theorem DownOk.nil : DownOk [] [] := ⟨List.nodup_nil, fun k => by simp [heldB]⟩
theorem DownOk.down {ns : List Int} {es : List Ev} {t k : Int} (h : DownOk ns es) (n : ¬ k ∈ ns) : DownOk (ns ++ [k]) (es ++ [⟨t, k, true⟩]) := by
  refine ⟨nd_snoc h.nd n, fun x => ?_⟩
  rw [heldB_snoc]
  unfold after
  rw [List.mem_append, List.mem_singleton, h.mem]
  by_cases z : x = k
  · subst z; simp
  · simp [z]
theorem DownOk.up {ns : List Int} {es : List Ev} {t k : Int} {j : Nat} (h : DownOk ns es) (e : ns[j]? = some k) : DownOk (ns.eraseIdx j) (es ++ [⟨t, k, false⟩]) := by
  refine ⟨h.nd.eraseIdx j, fun x => ?_⟩
  rw [heldB_snoc, mem_eraseIdx h.nd e, h.mem]
  unfold after
  by_cases z : x = k
  · subst z; simp
  · simp [z]
theorem DownOk.not {ns : List Int} {es : List Ev} {k : Int} (h : DownOk ns es) (n : ¬ k ∈ ns) : heldB es k = false := by
  cases e : heldB es k with
  | false => rfl
  | true => exact absurd ((h.mem k).mpr e) n
/-- other keys for the same -/
theorem heldB_map {f : Int → Int} (hf : ∀ a b, f a = f b → a = b) : ∀ (es : List Ev) (k : Int), heldB (es.map fun e => ⟨e.t, f e.k, e.d⟩) (f k) = heldB es k := by
  intro es k
  suffices h : ∀ (es : List Ev) (g g' : Int → Bool), (∀ k, g' (f k) = g k) → ∀ k, (es.map fun e => (⟨e.t, f e.k, e.d⟩ : Ev)).foldl after g' (f k) = es.foldl after g k from h es _ _ (fun _ => rfl) k
  intro es
  induction es with
  | nil => intro g g' h k; exact h k
  | cons e es ih =>
    intro g g' h k
    refine ih (after g e) (after g' ⟨e.t, f e.k, e.d⟩) (fun x => ?_) k
    unfold after
    by_cases z : x = e.k
    · subst z; simp
    · have z' : ¬ f x = f e.k := fun q => z (hf _ _ q)
      show (if f x = f e.k then e.d else g' (f x)) = if x = e.k then e.d else g x
      rw [if_neg z, if_neg z', h]
theorem Valid.rekey {f : Int → Int} (hf : ∀ a b, f a = f b → a = b) {es : List Ev} (h : Valid es) (h0 : ∀ e ∈ es, 0 ≤ f e.k) : Valid (es.map fun e => ⟨e.t, f e.k, e.d⟩) := fun i e x => by
  rw [List.getElem?_map] at x
  cases y : es[i]? with
  | none => rw [y] at x; cases x
  | some e' =>
    rw [y] at x
    have x : (⟨e'.t, f e'.k, e'.d⟩ : Ev) = e := Option.some.inj x
    subst x
    obtain ⟨a, b, c⟩ := h i e' y
    refine ⟨h0 e' (List.mem_of_getElem? y), ?_, fun j g hj z => ?_⟩
    · rw [← List.map_take]
      show heldB _ (f e'.k) = !e'.d
      rw [heldB_map hf]
      exact b
    · rw [List.getElem?_map] at z
      cases y2 : es[j]? with
      | none => rw [y2] at z; cases z
      | some g' =>
        rw [y2] at z
        have z : (⟨g'.t, f g'.k, g'.d⟩ : Ev) = g := Option.some.inj z
        subst z
        exact c j g' hj y2
/-- ups behind all for keys that are down -/
theorem Valid.ups {t : Int} : ∀ (ns : List Int) {es : List Ev}, Valid es → ns.Nodup → (∀ k ∈ ns, heldB es k = true ∧ 0 ≤ k) → (∀ e ∈ es, e.t ≤ t) → Valid (es ++ ns.map fun k => ⟨t, k, false⟩)
  | [], es, h, _, _, _ => by simpa using h
  | k :: ns, es, h, nd, hb, ht => by
    obtain ⟨n1, n2⟩ := List.nodup_cons.mp nd
    have h1 : Valid (es ++ [⟨t, k, false⟩]) := h.snoc (hb k List.mem_cons_self).2 (by have := (hb k List.mem_cons_self).1; simpa using this) ht
    have := Valid.ups ns h1 n2 (fun x hx => ⟨by
        rw [heldB_snoc]
        unfold after
        have z : x ≠ k := fun q => n1 (q ▸ hx)
        rw [if_neg z]
        exact (hb x (List.mem_cons_of_mem _ hx)).1, (hb x (List.mem_cons_of_mem _ hx)).2⟩) (fun e he => by
        rcases List.mem_append.mp he with he | he
        · exact ht e he
        · rw [List.mem_singleton.mp he]; exact Int.le_refl _)
    simpa using this
theorem heldB_ups {t : Int} : ∀ (ns : List Int) (es : List Ev) (k : Int), heldB (es ++ ns.map fun k => ⟨t, k, false⟩) k = (heldB es k && !decide (k ∈ ns))
  | [], es, k => by simp
  | n :: ns, es, k => by
    have e : es ++ (n :: ns).map (fun k => (⟨t, k, false⟩ : Ev)) = (es ++ [⟨t, n, false⟩]) ++ ns.map fun k => ⟨t, k, false⟩ := by simp
    rw [e, heldB_ups ns, heldB_snoc]
    unfold after
    by_cases z : k = n
    · subst z; simp
    · have : (k ∈ n :: ns) ↔ k ∈ ns := by simp [z]
      simp [z]
/-- who is down is a key of the record -/
theorem held_mem : ∀ {es : List Ev} {k : Int}, heldB es k = true → ∃ e ∈ es, e.k = k := by
  intro es k
  suffices h : ∀ (es : List Ev) (g : Int → Bool), es.foldl after g k = true → g k = true ∨ ∃ e ∈ es, e.k = k by
    intro z
    rcases h es _ z with q | q
    · cases q
    · exact q
  intro es
  induction es with
  | nil => intro g h; exact .inl h
  | cons e es ih =>
    intro g h
    rcases ih (after g e) h with q | ⟨e', he, hk⟩
    · unfold after at q
      by_cases z : k = e.k
      · exact .inr ⟨e, List.mem_cons_self, z.symm⟩
      · rw [if_neg z] at q
        exact .inl q
    · exact .inr ⟨e', List.mem_cons_of_mem _ he, hk⟩
theorem Valid.mono {es : List Ev} (h : Valid es) : ∀ (i j : Nat) (a b : Ev), i < j → es[i]? = some a → es[j]? = some b → a.t ≤ b.t := fun i j a b hij ha hb => (h j b hb).2.2 i a hij ha
theorem lay_st : ∀ es : List Ev, PyData.canLayAll0 (es.map stD) = true ∧ PyData.depthAll (es.map stD) ≤ 1
  | [] => ⟨rfl, Nat.zero_le _⟩
  | e :: es => by
    obtain ⟨a, b⟩ := lay_st es
    refine ⟨?_, ?_⟩
    · have h : PyData.canLay0 (.str (wayS e.d)) = true := by cases e.d <;> decide +kernel
      show ((true && (PyData.canLay0 (.str (wayS e.d)) && true)) && PyData.canLayAll0 (es.map stD)) = true
      rw [a, h]
      rfl
    · show max (PyData.depth (stD e)) (PyData.depthAll (es.map stD)) ≤ 1
      have : PyData.depth (stD e) = 1 := rfl
      omega
theorem shaped_ord (es : List Ev) : SeqAt.shaped (ordD es) = true := by
  obtain ⟨a, b⟩ := lay_st es
  show (PyData.canLayAll0 (es.map stD) && decide (PyData.depthAll (es.map stD) + 1 ≤ 64)) = true
  rw [a, decide_eq_true (by omega)]
  rfl
theorem shaped_nil : SeqAt.shaped (.list []) = true := rfl
end Rm

set_option Elab.async false
set_option linter.all false
set_option maxRecDepth 100000
set_option maxHeartbeats 4000000
namespace La
open PySem PySem.Spec PyProof.Rows L2 Gd Rm

/-! ### codes -/
def signs : Str := "abcdefghijklmnopqrstuvwxyz0123456789"
def CodeOk (c : Str) : Prop := 1 ≤ c.cps.size ∧ c.cps.size ≤ 8 ∧ ∀ x ∈ c.cps.toList, x ∈ signs.cps.toList
instance (c : Str) : Decidable (CodeOk c) := by unfold CodeOk; infer_instance
theorem signs_low : ∀ x ∈ signs.cps.toList, x < 16 ^ 8 := by decide +kernel
theorem fit_code {c : Str} (h : CodeOk c) : Fit 210 0 (.str c) := by
  refine ⟨rfl, Nat.le_refl _, ?_⟩
  have q := PySem.StrLaws.reprText_len c fun x hx => signs_low x (h.2.2 x hx)
  have e : c.length = c.cps.size := rfl
  have := h.2.1
  show (reprText c).length ≤ 210
  omega
theorem joinL_one : ∀ cs : List Nat, TL.joinL [] (cs.map fun c => [c]) = cs
  | [] => rfl
  | [c] => rfl
  | c :: d :: r => by
    have ih := joinL_one (d :: r)
    show [c] ++ ([] ++ TL.joinL [] ((d :: r).map fun c => [c])) = c :: d :: r
    rw [ih]
    rfl
theorem join_one (cs : List Nat) : (Txt.join (("" : String) : Str) (cs.map fun c => (⟨#[c]⟩ : Str))).cps.toList = cs := by
  have h : ∀ a ys, Txt.join a ys = Str.join a ys := fun a ys => TL.join_eq a ys
  rw [h]
  show TL.tl (Str.join _ _) = cs
  rw [TL.tl_join, List.map_map]
  exact joinL_one cs
theorem code_join {cs : List Nat} (h1 : 1 ≤ cs.length) (h8 : cs.length ≤ 8) (h : ∀ c ∈ cs, c ∈ signs.cps.toList) : CodeOk (Txt.join (("" : String) : Str) (cs.map fun c => (⟨#[c]⟩ : Str))) := by
  have e := join_one cs
  refine ⟨?_, ?_, fun x hx => ?_⟩
  · rw [← Array.length_toList, e]; exact h1
  · rw [← Array.length_toList, e]; exact h8
  · rw [e] at hx; exact h x hx

/-! ### actions -/
inductive Actn where
  | none
  | thr
  | code (c : Str)
  | lay (w : Str) (j : Int)
  | dualC (c d : Str) (t : Int) (r : Str)
  | dualL (c : Str) (j t : Int) (r : Str)
def layWords : List Str := ["layer", "lock", "once"]
def rules : List Str := ["time", "other", "within"]
def ActOk (n i : Int) : Actn → Prop
  | .none => True
  | .thr => 0 < i
  | .code c => CodeOk c
  | .lay w j => w ∈ layWords ∧ 1 ≤ j ∧ j ≤ n - 1
  | .dualC c d t r => CodeOk c ∧ CodeOk d ∧ (1 ≤ t ∧ t ≤ 1000000000) ∧ r ∈ rules
  | .dualL c j t r => CodeOk c ∧ (1 ≤ j ∧ j ≤ n - 1) ∧ (1 ≤ t ∧ t ≤ 1000000000) ∧ r ∈ rules
def ActV (H : Hp) : Actn → V → Prop
  | .none, v => v = .str "none"
  | .thr, v => v = .str "through"
  | .code c, v => ∃ a, v = .ref a ∧ H a = some (.tup [.str "code", .str c])
  | .lay w j, v => ∃ a, v = .ref a ∧ H a = some (.tup [.str w, .int j])
  | .dualC c d t r, v => ∃ a b, v = .ref a ∧ H a = some (.tup [.str "dual", .str c, .ref b, .int t, .str r]) ∧ H b = some (.tup [.str "code", .str d])
  | .dualL c j t r, v => ∃ a b, v = .ref a ∧ H a = some (.tup [.str "dual", .str c, .ref b, .int t, .str r]) ∧ H b = some (.tup [.str "layer", .int j])
def actD : Actn → PyData
  | .none => .str "none"
  | .thr => .str "through"
  | .code c => .tuple [.str "code", .str c]
  | .lay w j => .tuple [.str w, .int j]
  | .dualC c d t r => .tuple [.str "dual", .str c, .tuple [.str "code", .str d], .int t, .str r]
  | .dualL c j t r => .tuple [.str "dual", .str c, .tuple [.str "layer", .int j], .int t, .str r]
theorem fit_word {w : Str} (h : w ∈ layWords ∨ w ∈ rules) : Fit 210 0 (.str w) := by
  refine ⟨rfl, Nat.le_refl _, ?_⟩
  unfold layWords rules at h
  simp only [List.mem_cons, List.mem_nil_iff, or_false] at h
  rcases h with (rfl | rfl | rfl) | (rfl | rfl | rfl) <;> decide +kernel
theorem fit_const (w : Str) (h : (reprText w).length ≤ 210 := by decide +kernel) : Fit 210 0 (.str w) := ⟨rfl, Nat.le_refl _, h⟩
theorem fit_two' {a b : PyData} (ha : Fit 210 0 a) (hb : Fit 210 0 b) : Fit 500 1 (.tuple [a, b]) := by
  refine Fit.mono (fit_tup (L := 210) (n := 0) fun d hd => ?_) (by show 2 * 212 + 3 ≤ 500; decide) (Nat.le_refl _)
  simp only [List.mem_cons, List.mem_nil_iff, or_false] at hd
  rcases hd with rfl | rfl
  · exact ha
  · exact hb
theorem fit_five {a b c d e : PyData} (ha : Fit 210 0 a) (hb : Fit 210 0 b) (hc : Fit 500 1 c) (hd : Fit 210 0 d) (he : Fit 210 0 e) : Fit 3000 2 (.tuple [a, b, c, d, e]) := by
  refine Fit.mono (fit_tup (L := 500) (n := 1) fun x hx => ?_) (by show 5 * 502 + 3 ≤ 3000; decide) (Nat.le_refl _)
  simp only [List.mem_cons, List.mem_nil_iff, or_false] at hx
  rcases hx with rfl | rfl | rfl | rfl | rfl
  · exact ha.mono (by decide) (by decide)
  · exact hb.mono (by decide) (by decide)
  · exact hc
  · exact hd.mono (by decide) (by decide)
  · exact he.mono (by decide) (by decide)
theorem fit_low {i : Int} (h : 0 ≤ i) (h2 : i ≤ 1000000000) : Fit 210 0 (.int i) := fit_int (by
  have : (2 : Nat) ^ 200 > 1000000000 := by decide
  omega)
theorem fit_act {n i : Int} {x : Actn} (h : ActOk n i x) (hn : n ≤ 1000) : Fit 3000 2 (actD x) := by
  cases x with
  | none => exact (fit_const "none").mono (by decide) (by decide)
  | thr => exact (fit_const "through").mono (by decide) (by decide)
  | code c => exact (fit_two' (fit_const "code") (fit_code h)).mono (by decide) (by decide)
  | lay w j =>
    obtain ⟨a, b, c⟩ := h
    exact (fit_two' (fit_word (.inl a)) (fit_low (by omega) (by omega))).mono (by decide) (by decide)
  | dualC c d t r =>
    obtain ⟨a, b, ⟨c1, c2⟩, e⟩ := h
    exact fit_five (fit_const "dual") (fit_code a) (fit_two' (fit_const "code") (fit_code b)) (fit_low (by omega) c2) (fit_word (.inr e))
  | dualL c j t r =>
    obtain ⟨a, ⟨b1, b2⟩, ⟨c1, c2⟩, e⟩ := h
    exact fit_five (fit_const "dual") (fit_code a) (fit_two' (fit_const "layer") (fit_low (by omega) (by omega))) (fit_low (by omega) c2) (fit_word (.inr e))

/-! ### heaps in which tuples stay -/
def Tk (H H' : Hp) : Prop := ∀ b xs, H b = some (.tup xs) → H' b = some (.tup xs)
theorem Tk.of {H H' : Hp} (s : Same H H') : Tk H H' := fun b xs h => s _ _ h
theorem Tk.trans {H H1 H2 : Hp} (a : Tk H H1) (b : Tk H1 H2) : Tk H H2 := fun c xs h => b c xs (a c xs h)
theorem Tk.refl (H : Hp) : Tk H H := fun _ _ h => h
theorem tk_upd {H : Hp} {r : Addr} {ys zs : List V} (h : H r = some (.lst ys)) : Tk H (upd H r (.lst zs)) := fun b xs e => by
  rw [upd_ne (ne_of e h (by intro z; cases z))]
  exact e
theorem ActV.keep {H H' : Hp} (t : Tk H H') : ∀ {x : Actn} {v : V}, ActV H x v → ActV H' x v
  | .none, _, h => h
  | .thr, _, h => h
  | .code _, _, ⟨a, e, h⟩ => ⟨a, e, t _ _ h⟩
  | .lay _ _, _, ⟨a, e, h⟩ => ⟨a, e, t _ _ h⟩
  | .dualC _ _ _ _, _, ⟨a, b, e, h, g⟩ => ⟨a, b, e, t _ _ h, t _ _ g⟩
  | .dualL _ _ _ _, _, ⟨a, b, e, h, g⟩ => ⟨a, b, e, t _ _ h, t _ _ g⟩
theorem ActV.dp {K : PySem.W.Frag} {H : Hp} : ∀ {x : Actn} {v : V}, ActV H x v → Dp K H v (actD x)
  | .none, _, h => by cases h; exact .str _
  | .thr, _, h => by cases h; exact .str _
  | .code _, _, ⟨a, e, h⟩ => by cases e; exact .tup (SqT.of h) (.cons (.str _) (.cons (.str _) .nil))
  | .lay _ _, _, ⟨a, e, h⟩ => by cases e; exact .tup (SqT.of h) (.cons (.str _) (.cons (.int _) .nil))
  | .dualC _ _ _ _, _, ⟨a, b, e, h, g⟩ => by
    cases e
    exact .tup (SqT.of h) (.cons (.str _) (.cons (.str _) (.cons (.tup (SqT.of g) (.cons (.str _) (.cons (.str _) .nil))) (.cons (.int _) (.cons (.str _) .nil)))))
  | .dualL _ _ _ _, _, ⟨a, b, e, h, g⟩ => by
    cases e
    exact .tup (SqT.of h) (.cons (.str _) (.cons (.str _) (.cons (.tup (SqT.of g) (.cons (.str _) (.cons (.int _) .nil))) (.cons (.int _) (.cons (.str _) .nil)))))

/-! ### rows and layouts -/
def Acts (H : Hp) (vs : List V) (xs : List Actn) : Prop := vs.length = xs.length ∧ ∀ (i : Nat) (v : V) (x : Actn), vs[i]? = some v → xs[i]? = some x → ActV H x v
def Row (H : Hp) (r : Addr) (xs : List Actn) : Prop := ∃ vs, H r = some (.lst vs) ∧ Acts H vs xs
def Rows (H : Hp) (rs : List Addr) (L : List (List Actn)) : Prop := rs.length = L.length ∧ ∀ (i : Nat) (r : Addr) (row : List Actn), rs[i]? = some r → L[i]? = some row → Row H r row
def Lay (H : Hp) (c : Addr) (L : List (List Actn)) : Prop := ∃ rs : List Addr, H c = some (.lst (rs.map V.ref)) ∧ Rows H rs L
def rowD (xs : List Actn) : PyData := .list (xs.map actD)
def layD (L : List (List Actn)) : PyData := .list (L.map rowD)
structure LayOk (L : List (List Actn)) (m : Nat) : Prop where
  n1 : 1 ≤ L.length
  n6 : L.length ≤ 6
  m1 : 1 ≤ m
  m16 : m ≤ 16
  len : ∀ row ∈ L, row.length = m
  ok : ∀ (i : Nat) (row : List Actn), L[i]? = some row → ∀ x ∈ row, ActOk L.length i x
section
variable {H H' : Hp} {c r : Addr} {vs : List V} {xs : List Actn} {rs : List Addr} {L : List (List Actn)} {m : Nat}
theorem Acts.nil : Acts H [] [] := ⟨rfl, fun i v x h _ => by simp at h⟩
theorem Acts.keep (h : Acts H vs xs) (t : Tk H H') : Acts H' vs xs := ⟨h.1, fun i v x a b => (h.2 i v x a b).keep t⟩
theorem Acts.at_ (h : Acts H vs xs) {i : Nat} (hi : i < xs.length) : ∃ v, vs[i]? = some v ∧ ActV H xs[i] v := by
  have hl := h.1
  exact ⟨vs[i], List.getElem?_eq_getElem (by omega), h.2 i _ _ (List.getElem?_eq_getElem (by omega)) (List.getElem?_eq_getElem hi)⟩
theorem Acts.snoc {v : V} {x : Actn} (h : Acts H vs xs) (hv : ActV H x v) : Acts H (vs ++ [v]) (xs ++ [x]) := by
  refine ⟨by rw [List.length_append, List.length_append, h.1]; rfl, fun i u y a b => ?_⟩
  have hl := h.1
  rcases Nat.lt_or_ge i vs.length with q | q
  · rw [List.getElem?_append_left q] at a
    rw [List.getElem?_append_left (by omega)] at b
    exact h.2 i u y a b
  · have hi : i = vs.length := by
      have := (List.getElem?_eq_some_iff.mp a).1
      rw [List.length_append] at this
      simp at this
      omega
    subst hi
    rw [List.getElem?_append_right (Nat.le_refl _), Nat.sub_self] at a
    rw [List.getElem?_append_right (by omega), show vs.length - xs.length = 0 by omega] at b
    have e1 : v = u := Option.some.inj a
    have e2 : x = y := Option.some.inj b
    subst e1 e2
    exact hv
theorem Acts.set {v : V} {x : Actn} {j : Nat} (h : Acts H vs xs) (hv : ActV H x v) : Acts H (vs.set j v) (xs.set j x) := by
  refine ⟨by rw [List.length_set, List.length_set, h.1], fun i u y a b => ?_⟩
  have hl := h.1
  by_cases z : j = i
  · subst z
    have hj : j < vs.length := by
      have := (List.getElem?_eq_some_iff.mp a).1
      rwa [List.length_set] at this
    rw [List.getElem?_set_self hj] at a
    rw [List.getElem?_set_self (by omega)] at b
    have e1 : v = u := Option.some.inj a
    have e2 : x = y := Option.some.inj b
    subst e1 e2
    exact hv
  · rw [List.getElem?_set_ne z] at a b
    exact h.2 i u y a b
theorem Row.same (h : Row H r xs) (s : Same H H') : Row H' r xs := by
  obtain ⟨vs, a, b⟩ := h
  exact ⟨vs, s _ _ a, b.keep (Tk.of s)⟩
theorem Rows.same (h : Rows H rs L) (s : Same H H') : Rows H' rs L := ⟨h.1, fun i r row a b => (h.2 i r row a b).same s⟩
theorem Lay.same (h : Lay H c L) (s : Same H H') : Lay H' c L := by
  obtain ⟨rs, a, b⟩ := h
  exact ⟨rs, s _ _ a, b.same s⟩
theorem Rows.at_ (h : Rows H rs L) {i : Nat} (hi : i < L.length) : ∃ r, rs[i]? = some r ∧ Row H r L[i] := by
  have hl := h.1
  exact ⟨rs[i], List.getElem?_eq_getElem (by omega), h.2 i _ _ (List.getElem?_eq_getElem (by omega)) (List.getElem?_eq_getElem hi)⟩
theorem Acts.dp {K : PySem.W.Frag} : ∀ {vs : List V} {xs : List Actn}, Acts H vs xs → DpAll K H vs (xs.map actD)
  | [], [], _ => .nil
  | [], _ :: _, h => by have := h.1; simp at this
  | _ :: _, [], h => by have := h.1; simp at this
  | v :: vs, x :: xs, h => .cons ((h.2 0 v x rfl rfl).dp) (Acts.dp ⟨by have := h.1; simpa using this, fun i u y a b => h.2 (i + 1) u y (by simpa using a) (by simpa using b)⟩)
theorem Row.dp {K : PySem.W.Frag} (h : Row H r xs) : Dp K H (.ref r) (rowD xs) := by
  obtain ⟨vs, a, b⟩ := h
  exact .lst (SqL.of a) b.dp
theorem Rows.dp {K : PySem.W.Frag} : ∀ {rs : List Addr} {L : List (List Actn)}, Rows H rs L → DpAll K H (rs.map V.ref) (L.map rowD)
  | [], [], _ => .nil
  | [], _ :: _, h => by have := h.1; simp at this
  | _ :: _, [], h => by have := h.1; simp at this
  | r :: rs, row :: L, h => .cons ((h.2 0 r row rfl rfl).dp) (Rows.dp ⟨by have := h.1; simpa using this, fun i u y a b => h.2 (i + 1) u y (by simpa using a) (by simpa using b)⟩)
theorem Lay.dp {K : PySem.W.Frag} (h : Lay H c L) : Dp K H (.ref c) (layD L) := by
  obtain ⟨rs, a, b⟩ := h
  exact .lst (SqL.of a) b.dp
theorem LayOk.fit (h : LayOk L m) : Fit 300100 4 (layD L) := by
  refine Fit.mono (fit_list (L := 50000) (n := 3) fun d hd => ?_) (by rw [List.length_map]; have := h.n6; omega) (Nat.le_refl _)
  obtain ⟨row, hr, rfl⟩ := List.mem_map.mp hd
  obtain ⟨i, hi⟩ := List.getElem?_of_mem hr
  refine Fit.mono (fit_list (L := 3000) (n := 2) fun d hd => ?_) (by rw [List.length_map, h.len row hr]; have := h.m16; omega) (Nat.le_refl _)
  obtain ⟨x, hx, rfl⟩ := List.mem_map.mp hd
  exact fit_act (h.ok i row hi x hx) (by have := h.n6; omega)
theorem LayOk.set (h : LayOk L m) {i j : Nat} {x : Actn} {row : List Actn} (hi : L[i]? = some row) (hx : ActOk L.length i x) : LayOk (L.set i (row.set j x)) m := by
  have hil := (List.getElem?_eq_some_iff.mp hi).1
  refine ⟨by rw [List.length_set]; exact h.n1, by rw [List.length_set]; exact h.n6, h.m1, h.m16, fun r hr => ?_, fun k r hk y hy => ?_⟩
  · rcases List.mem_or_eq_of_mem_set hr with q | q
    · exact h.len r q
    · rw [q, List.length_set]; exact h.len row (List.mem_of_getElem? hi)
  · rw [List.length_set]
    by_cases z : i = k
    · subst z
      rw [List.getElem?_set_self hil] at hk
      have e : row.set j x = r := Option.some.inj hk
      subst e
      rcases List.mem_or_eq_of_mem_set hy with q | q
      · exact h.ok i row hi y q
      · rw [q]; exact hx
    · rw [List.getElem?_set_ne z] at hk
      exact h.ok k r hk y hy
end
theorem inv_str (k : Str) : ∀ ws : List Str, inV (.str k) (ws.map V.str) = decide (k ∈ ws)
  | [] => rfl
  | n :: ns => by
    show (eqV (.str n) (.str k) || inV (.str k) (ns.map V.str)) = _
    rw [inv_str k ns]
    have e : eqV (.str n) (.str k) = decide (n = k) := by
      by_cases z : n = k <;> simp [eqV, z]
    rw [e]
    by_cases z : n = k
    · subst z; simp
    · have z' : ¬ k = n := fun q => z q.symm
      simp [z, z']
end La

set_option Elab.async false
set_option linter.all false
set_option maxRecDepth 100000
set_option maxHeartbeats 4000000
/-! repr of any data; bounds in the heap -/
namespace Gd
open PySem PySem.Spec PyProof.Rows L2
def rRepA (K : PySem.W.Frag) : List V → Hp → VK → Prop := fun xs H Q => ∃ (v : V) (d : PyData), xs = [v] ∧ Dp K H v d ∧
  d.showable = true ∧ d.depth ≤ 50 ∧ d.shown.length ≤ sizeLine ∧ Q (.str d.shown) H
theorem call_repA {X : Cx} {k : Nat} (hg : X.A.guards = some []) (hr : Room k X.A) : CallR X (.builtin "repr") (rRepA X.K) := by
  intro pins s σ H xs us Q I r h
  obtain ⟨v, d, rfl, hd, hs, hdp, hz, q⟩ := h
  cases d with
  | list ds =>
    cases hd with
    | lst h1 h2 => exact call_rep hg hr pins s σ H _ us Q I r ⟨_, _, rfl, .lst h1 h2, hs, hdp, hz, q⟩
  | tuple ds =>
    cases hd with
    | tup h1 h2 => exact call_rep hg hr pins s σ H _ us Q I r ⟨_, _, rfl, .tup h1 h2, hs, hdp, hz, q⟩
  | dict ds => cases hd
  | none =>
    cases hd
    obtain ⟨u, rfl, ru⟩ := vals1 r
    cases ru
    exact PySem.P.repr_of_none ⟨.str _, H, I.tok _, ⟨_, rfl⟩, q⟩
  | bool b =>
    cases hd
    obtain ⟨u, rfl, ru⟩ := vals1 r
    cases ru
    exact PySem.P.repr_of_bool ⟨.str _, H, I.tok _, ⟨_, rfl⟩, q⟩
  | int i =>
    cases hd
    obtain ⟨u, rfl, ⟨t, rfl⟩⟩ := vals1 r
    exact PySem.P.repr_of_int (of_decide_eq_true hs) ⟨.str _, H, I.tok _, ⟨_, rfl⟩, q⟩
  | str z =>
    cases hd
    obtain ⟨u, rfl, ⟨t, rfl⟩⟩ := vals1 r
    exact PySem.P.repr_of_str ⟨.str _, H, I.tok _, ⟨_, rfl⟩, q⟩ hz
end Gd

set_option Elab.async false
set_option linter.all false
set_option maxRecDepth 100000
set_option maxHeartbeats 4000000
/-! combos, and the pieces of a record -/
namespace Cb
open PySem PySem.Spec PyProof.Rows L2 Gd Rm La
structure Cmb where
  ks : List Int
  t : Int
  c : Str
structure CmbOk (many : Int) (cb : Cmb) : Prop where
  asc : cb.ks.Pairwise (· < ·)
  len : cb.ks.length = 2 ∨ cb.ks.length = 3
  key : ∀ k ∈ cb.ks, 0 ≤ k ∧ k < many
  time : 1 ≤ cb.t ∧ cb.t ≤ 10 ^ 9
  code : CodeOk cb.c
def CmbV (H : Hp) (cb : Cmb) (v : V) : Prop := ∃ a k, v = .ref a ∧ H a = some (.tup [.ref k, .int cb.t, .str cb.c]) ∧ H k = some (.tup (cb.ks.map V.int))
theorem CmbV.tk {H H' : Hp} {cb : Cmb} {v : V} (h : CmbV H cb v) (t : Tk H H') : CmbV H' cb v := by
  obtain ⟨a, k, e, h1, h2⟩ := h
  exact ⟨a, k, e, t _ _ h1, t _ _ h2⟩
/-- a list of combos -/
def Cmbs (H : Hp) (c : Addr) (cbs : List Cmb) : Prop := ∃ vs : List V, H c = some (.lst vs) ∧ vs.length = cbs.length ∧ ∀ (i : Nat) (v : V) (cb : Cmb), vs[i]? = some v → cbs[i]? = some cb → CmbV H cb v
theorem Cmbs.same {H H' : Hp} {c : Addr} {cbs : List Cmb} (h : Cmbs H c cbs) (s : Same H H') : Cmbs H' c cbs := by
  obtain ⟨vs, a, b, d⟩ := h
  exact ⟨vs, s _ _ a, b, fun i v cb x y => (d i v cb x y).tk (Tk.of s)⟩
theorem Cmbs.go {H H' : Hp} {c : Addr} {cbs : List Cmb} (h : Cmbs H c cbs) (t : Tk H H') (e : ∀ vs, H c = some (.lst vs) → H' c = some (.lst vs)) : Cmbs H' c cbs := by
  obtain ⟨vs, a, b, d⟩ := h
  exact ⟨vs, e _ a, b, fun i v cb x y => (d i v cb x y).tk t⟩
theorem Cmbs.at_ {H : Hp} {cbs : List Cmb} {vs : List V} (h : vs.length = cbs.length ∧ ∀ (i : Nat) (v : V) (cb : Cmb), vs[i]? = some v → cbs[i]? = some cb → CmbV H cb v) {i : Nat} (hi : i < cbs.length) :
    ∃ a k, vs[i]? = some (.ref a) ∧ H a = some (.tup [.ref k, .int cbs[i].t, .str cbs[i].c]) ∧ H k = some (.tup (cbs[i].ks.map V.int)) := by
  obtain ⟨hl, hv⟩ := h
  have hi' : i < vs.length := by omega
  obtain ⟨a, k, e, h1, h2⟩ := hv i vs[i] cbs[i] (List.getElem?_eq_getElem hi') (List.getElem?_eq_getElem hi)
  exact ⟨a, k, by rw [List.getElem?_eq_getElem hi', e], h1, h2⟩
/-- combos for so many keys -/
structure CbsOk (many : Int) (cbs : List Cmb) : Prop where
  all : ∀ cb ∈ cbs, CmbOk many cb
  few : cbs.length ≤ 6
  apart : (cbs.map Cmb.ks).Nodup
theorem CbsOk.nil (many : Int) : CbsOk many [] := ⟨fun cb h => by simp at h, by decide, List.nodup_nil⟩
def ksD (ks : List Int) : PyData := .tuple (ks.map PyData.int)
def cmbD (cb : Cmb) : PyData := .tuple [ksD cb.ks, .int cb.t, .str cb.c]
def cmbsD (cbs : List Cmb) : PyData := .list (cbs.map cmbD)
theorem CmbV.dp {K : PySem.W.Frag} {H : Hp} {cb : Cmb} {v : V} (h : CmbV H cb v) : Dp K H v (cmbD cb) := by
  obtain ⟨a, k, rfl, h1, h2⟩ := h
  exact .tup (SqT.of h1) (.cons (.tup (SqT.of h2) (dpInts _)) (.cons (.int _) (.cons (.str _) .nil)))
theorem dpAll_idx {α : Type} {K : PySem.W.Frag} {H : Hp} {g : α → PyData} {R : α → V → Prop} (hg : ∀ x v, R x v → Dp K H v (g x)) : ∀ (vs : List V) (xs : List α), vs.length = xs.length → (∀ (i : Nat) (v : V) (x : α), vs[i]? = some v → xs[i]? = some x → R x v) → DpAll K H vs (xs.map g)
  | [], [], _, _ => .nil
  | [], _ :: _, h, _ => by simp at h
  | _ :: _, [], h, _ => by simp at h
  | v :: vs, x :: xs, h, f => .cons (hg x v (f 0 v x rfl rfl)) (dpAll_idx hg vs xs (by simpa using h) fun i v x a b => f (i + 1) v x (by simpa using a) (by simpa using b))
theorem Cmbs.dp {K : PySem.W.Frag} {H : Hp} {c : Addr} {cbs : List Cmb} (h : Cmbs H c cbs) : Dp K H (.ref c) (cmbsD cbs) := by
  obtain ⟨vs, a, b, d⟩ := h
  exact .lst (SqL.of a) (dpAll_idx (R := CmbV H) (fun x v h => h.dp) vs cbs b d)
theorem fit_cmb {many : Int} {cb : Cmb} (hm : many ≤ 1000) (h : CmbOk many cb) : Fit 4000 2 (cmbD cb) := by
  have hk : Fit 1000 1 (ksD cb.ks) := by
    refine Fit.mono (fit_tup (L := 210) (n := 0) fun d hd => ?_) (by rw [List.length_map]; have := h.len; omega) (Nat.le_refl _)
    obtain ⟨v, hv, rfl⟩ := List.mem_map.mp hd
    have := h.key v hv
    exact fit_int (by omega)
  have ht := h.time
  refine Fit.mono (fit_tup (L := 1000) (n := 1) fun d hd => ?_) (by show 3 * 1002 + 3 ≤ 4000; decide) (Nat.le_refl _)
  simp only [List.mem_cons, List.mem_nil_iff, or_false] at hd
  rcases hd with rfl | rfl | rfl
  · exact hk
  · exact Fit.mono (fit_int (by omega)) (by decide) (by decide)
  · exact Fit.mono (fit_code h.code) (by decide) (by decide)
theorem fit_cmbs {many : Int} {cbs : List Cmb} (hm : many ≤ 1000) (h : CbsOk many cbs) : Fit 40000 3 (cmbsD cbs) := by
  refine Fit.mono (fit_list (L := 4000) (n := 2) fun d hd => ?_) (by rw [List.length_map]; have := h.few; omega) (Nat.le_refl _)
  obtain ⟨cb, hc, rfl⟩ := List.mem_map.mp hd
  exact fit_cmb hm (h.all cb hc)
theorem lay_cmb (cb : Cmb) (hc : CodeOk cb.c) : PyData.canLay0 (cmbD cb) = true ∧ PyData.depth (cmbD cb) = 2 := by
  obtain ⟨a, b⟩ := lay_ints cb.ks
  refine ⟨?_, ?_⟩
  · show (PyData.canLayAll0 (cb.ks.map PyData.int) && (PyData.canLay0 (.int cb.t) && (PyData.canLay0 (.str cb.c) && true))) = true
    have hs : PyData.strOk cb.c = true := by
      unfold PyData.strOk
      rw [← Array.all_toList, List.all_eq_true]
      have all : ∀ y ∈ signs.cps.toList, decide (y < 0x110000) = true := by decide +kernel
      exact fun y hy => all y (hc.2.2 y hy)
    rw [a]; simp [PyData.canLay0, hs]
  · show max (PyData.depthAll (cb.ks.map PyData.int) + 1) (max 0 (max 0 0)) + 1 = 2
    rw [b]; rfl
theorem lay_cmbs : ∀ cbs : List Cmb, (∀ cb ∈ cbs, CodeOk cb.c) → PyData.canLayAll0 (cbs.map cmbD) = true ∧ PyData.depthAll (cbs.map cmbD) ≤ 2
  | [], _ => ⟨rfl, by decide⟩
  | cb :: cbs, h => by
    obtain ⟨a, b⟩ := lay_cmbs cbs fun c hc => h c (List.mem_cons_of_mem _ hc)
    obtain ⟨x, y⟩ := lay_cmb cb (h cb List.mem_cons_self)
    refine ⟨?_, ?_⟩
    · show (PyData.canLay0 (cmbD cb) && PyData.canLayAll0 (cbs.map cmbD)) = true
      rw [x, a]; rfl
    · show max (PyData.depth (cmbD cb)) (PyData.depthAll (cbs.map cmbD)) ≤ 2
      omega
theorem shaped_cmbs (cbs : List Cmb) (h : ∀ cb ∈ cbs, CodeOk cb.c) : SeqAt.shaped (cmbsD cbs) = true := by
  obtain ⟨a, b⟩ := lay_cmbs cbs h
  show (PyData.canLayAll0 (cbs.map cmbD) && decide (PyData.depthAll (cbs.map cmbD) + 1 ≤ 64)) = true
  rw [a, decide_eq_true (by omega)]; rfl
theorem shaped_ks (ks : List Int) : SeqAt.shaped (ksD ks) = true := by
  obtain ⟨a, b⟩ := lay_ints ks
  show (PyData.canLayAll0 (ks.map PyData.int) && decide (PyData.depthAll (ks.map PyData.int) + 1 ≤ 64)) = true
  rw [a, b]; rfl
theorem lay_kss : ∀ kss : List (List Int), PyData.canLayAll0 (kss.map ksD) = true ∧ PyData.depthAll (kss.map ksD) ≤ 1
  | [] => ⟨rfl, by decide⟩
  | ks :: kss => by
    obtain ⟨a, b⟩ := lay_kss kss
    obtain ⟨x, y⟩ := lay_ints ks
    refine ⟨?_, ?_⟩
    · show (PyData.canLayAll0 (ks.map PyData.int) && PyData.canLayAll0 (kss.map ksD)) = true
      rw [x, a]; rfl
    · show max (PyData.depthAll (ks.map PyData.int) + 1) (PyData.depthAll (kss.map ksD)) ≤ 1
      omega
theorem shaped_kss (kss : List (List Int)) : SeqAt.shaped (.list (kss.map ksD)) = true := by
  obtain ⟨a, b⟩ := lay_kss kss
  show (PyData.canLayAll0 (kss.map ksD) && decide (PyData.depthAll (kss.map ksD) + 1 ≤ 64)) = true
  rw [a, decide_eq_true (by omega)]; rfl
theorem eqv_intsA : ∀ xs ys : List Int, PyData.eqvAll (xs.map PyData.int) (ys.map PyData.int) = decide (xs = ys)
  | [], [] => rfl
  | [], _ :: _ => rfl
  | _ :: _, [] => rfl
  | o :: xs, p :: ys => by
    show (PyData.eqv (.int o) (.int p) && PyData.eqvAll (xs.map PyData.int) (ys.map PyData.int)) = _
    have e : PyData.eqv (.int o) (.int p) = decide (o = p) := by
      by_cases z : o = p
      · subst z; simp [PyData.eqv]
      · simp [PyData.eqv, z]
    rw [e, eqv_intsA xs ys]
    by_cases a : o = p <;> by_cases b : xs = ys <;> simp [a, b]
theorem eqv_intL (xs ys : List Int) : PyData.eqv (.list (xs.map PyData.int)) (.list (ys.map PyData.int)) = decide (xs = ys) := by rw [← eqv_intsA]; rfl
theorem eqv_ks (xs ys : List Int) : PyData.eqv (ksD xs) (ksD ys) = decide (xs = ys) := by rw [← eqv_intsA]; rfl
theorem any_ks (ks : List Int) (kss : List (List Int)) : ((kss.map ksD).any fun z => PyData.eqv z (ksD ks)) = decide (ks ∈ kss) := by
  induction kss with
  | nil => rfl
  | cons x kss ih =>
    rw [List.map_cons, List.any_cons, ih, eqv_ks]
    by_cases a : x = ks
    · subst a; simp
    · have a' : ¬ ks = x := fun e => a e.symm
      by_cases b : ks ∈ kss <;> simp [a, a', b]
/-! ### pieces -/
def Match (cb : Cmb) (s : Nat) (ds : List Ev) : Prop := cb.ks.length = s ∧ cb.ks.Perm ((ds.take s).map Ev.k) ∧ ∃ a b, ds[0]? = some a ∧ ds[s - 1]? = some b ∧ b.t < a.t + cb.t
open Classical in
noncomputable def fp (cbs : List Cmb) (ds : List Ev) : Nat := if ∃ cb ∈ cbs, Match cb 3 ds then 3 else if ∃ cb ∈ cbs, Match cb 2 ds then 2 else 1
theorem match_le {cb : Cmb} {s : Nat} {ds : List Ev} (h : Match cb s ds) : s ≤ ds.length := by
  have a := h.2.1.length_eq
  rw [h.1, List.length_map, List.length_take] at a
  omega
theorem fp_pos (cbs : List Cmb) (ds : List Ev) : 1 ≤ fp cbs ds := by
  unfold fp
  split
  · decide
  · split <;> decide
theorem fp_le (cbs : List Cmb) {ds : List Ev} (h : ds ≠ []) : fp cbs ds ≤ ds.length := by
  unfold fp
  split
  · rename_i q
    obtain ⟨cb, _, m⟩ := q
    exact match_le m
  · split
    · rename_i q
      obtain ⟨cb, _, m⟩ := q
      exact match_le m
    · cases ds with
      | nil => exact absurd rfl h
      | cons _ _ => rw [List.length_cons]; omega
theorem fp_three {cbs : List Cmb} {ds : List Ev} {cb : Cmb} (h : cb ∈ cbs) (m : Match cb 3 ds) : fp cbs ds = 3 := by unfold fp; rw [if_pos ⟨cb, h, m⟩]
theorem fp_two {cbs : List Cmb} {ds : List Ev} {cb : Cmb} (n : ∀ cb ∈ cbs, ¬ Match cb 3 ds) (h : cb ∈ cbs) (m : Match cb 2 ds) : fp cbs ds = 2 := by
  unfold fp
  rw [if_neg (fun ⟨c, hc, q⟩ => n c hc q), if_pos ⟨cb, h, m⟩]
theorem fp_one {cbs : List Cmb} {ds : List Ev} (n : ∀ cb ∈ cbs, ¬ Match cb 3 ds) (n2 : ∀ cb ∈ cbs, ¬ Match cb 2 ds) : fp cbs ds = 1 := by
  unfold fp
  rw [if_neg (fun ⟨c, hc, q⟩ => n c hc q), if_neg (fun ⟨c, hc, q⟩ => n2 c hc q)]
/-- the numbers from a on, below b -/
def seg (a b : Nat) : List Int := (List.range' a (b - a)).map fun k : Nat => (k : Int)
/-- the events from s on, below e -/
def prt (es : List Ev) (s e : Nat) : List Ev := (es.drop s).take (e - s)
inductive Cut (es : List Ev) (cbs : List Cmb) (e : Nat) : Nat → List (List Int) → Prop
  | nil : Cut es cbs e e []
  | cons {s : Nat} {r : List (List Int)} : s < e → Cut es cbs e (s + fp cbs (prt es s e)) r → Cut es cbs e s (seg s (s + fp cbs (prt es s e)) :: r)
/-- from s on, below e, all are downs -/
def Downs (es : List Ev) (s e : Nat) : Prop := ∀ i, s ≤ i → i < e → ∃ ev, es[i]? = some ev ∧ ev.d = true
def Stops (es : List Ev) (e : Nat) : Prop := e = es.length ∨ ∃ ev, es[e]? = some ev ∧ ev.d = false
inductive Due (es : List Ev) (cbs : List Cmb) : Nat → List (List Int) → Prop
  | fin {s : Nat} : es.length ≤ s → Due es cbs s []
  | up {s : Nat} {ev : Ev} {r : List (List Int)} : es[s]? = some ev → ev.d = false → Due es cbs (s + 1) r → Due es cbs s r
  | down {s e : Nat} {r : List (List Int)} : s < e → Downs es s e → Stops es e → Due es cbs (s + fp cbs (prt es s e)) r → Due es cbs s (seg s (s + fp cbs (prt es s e)) :: r)
theorem Downs.le {es : List Ev} {s e : Nat} (h : Downs es s e) (hs : s < e) : e ≤ es.length := by
  obtain ⟨ev, q, _⟩ := h (e - 1) (by omega) (by omega)
  have := (List.getElem?_eq_some_iff.mp q).1
  omega
theorem prt_len {es : List Ev} {s e : Nat} (h : e ≤ es.length) : (prt es s e).length = e - s := by
  unfold prt
  rw [List.length_take, List.length_drop]
  omega
theorem stop_uniq {es : List Ev} {s e e' : Nat} (hs : s < e) (hs' : s < e') (d : Downs es s e) (d' : Downs es s e') (t : Stops es e) (t' : Stops es e') : e = e' := by
  have l := d.le hs
  have l' := d'.le hs'
  rcases Nat.lt_trichotomy e e' with q | q | q
  · rcases t with t | ⟨ev, g, f⟩
    · omega
    · obtain ⟨ev', g', f'⟩ := d' e (by omega) q
      rw [g] at g'
      cases g'
      rw [f] at f'; cases f'
  · exact q
  · rcases t' with t | ⟨ev, g, f⟩
    · omega
    · obtain ⟨ev', g', f'⟩ := d e' (by omega) q
      rw [g] at g'
      cases g'
      rw [f] at f'; cases f'
theorem Due.uniq {es : List Ev} {cbs : List Cmb} {s : Nat} {r : List (List Int)} (h : Due es cbs s r) : ∀ {r' : List (List Int)}, Due es cbs s r' → r = r' := by
  induction h with
  | fin hl =>
    intro r' h'
    cases h' with
    | fin _ => rfl
    | up g _ _ => have := (List.getElem?_eq_some_iff.mp g).1; omega
    | down hs d _ _ => have := d.le hs; omega
  | up g f _ ih =>
    intro r' h'
    cases h' with
    | fin hl => have := (List.getElem?_eq_some_iff.mp g).1; omega
    | up g' f' h' => exact ih h'
    | down hs d _ _ =>
      obtain ⟨ev', g', f'⟩ := d _ (Nat.le_refl _) hs
      rw [g] at g'
      cases g'
      rw [f] at f'; cases f'
  | down hs d t _ ih =>
    intro r' h'
    cases h' with
    | fin hl => have := d.le hs; omega
    | up g f h' =>
      obtain ⟨ev', g', f'⟩ := d _ (Nat.le_refl _) hs
      rw [g] at g'
      cases g'
      rw [f] at f'; cases f'
    | down hs' d' t' h' =>
      have e := stop_uniq hs hs' d d' t t'
      subst e
      rw [ih h']
theorem cut_due {es : List Ev} {cbs : List Cmb} {e : Nat} (t : Stops es e) {r : List (List Int)} (hr : Due es cbs e r) {s : Nat} {r1 : List (List Int)} (h : Cut es cbs e s r1) : Downs es s e → s ≤ e → Due es cbs s (r1 ++ r) := by
  induction h with
  | nil => intro _ _; exact hr
  | @cons s r1 hs _ ih =>
    intro d _
    have hl := prt_len (s := s) (d.le hs)
    have ne : prt es s e ≠ [] := fun z => by rw [z] at hl; simp at hl; omega
    have f := fp_le cbs ne
    rw [hl] at f
    exact Due.down hs d t (ih (fun i a b => d i (by omega) b) (by omega))
end Cb

set_option Elab.async false
set_option linter.all false
set_option maxRecDepth 100000
set_option maxHeartbeats 4000000
/-! a list's slice with a step -/
namespace Gd
open PySem PySem.Spec PyProof.Rows L2
def stepIx (n : Nat) (lo hi : Option Int) (k : Int) : List Nat :=
  let b := sliceBounds lo hi (some k) n
  sliceRange b.1 b.2.1 b.2.2
def stepV {α : Type} (xs : List α) (lo hi : Option Int) (k : Int) : List α := (stepIx xs.length lo hi k).filterMap fun i => xs[i]?
def tSlK (K : PySem.W.Frag) (te : TE) (tl th ts : TO) : TE := fun σ H Q => te σ H fun x H1 => tl σ H1 fun l H2 => th σ H2 fun u H3 => ts σ H3 fun y H4 =>
  ∃ (a : Addr) (xs : List V) (k : Int), x = .ref a ∧ y = some k ∧ k ≠ 0 ∧ SqL K H4 a xs ∧ (stepV xs l u k).length ≤ xs.length ∧ ∀ p, H4 p = none → Q (.ref p) (upd H4 p (.lst (stepV xs l u k)))
theorem vals_pick {xs : List V} {us : List Value} (r : Vals xs us) : ∀ is : List Nat, Vals (is.filterMap fun i => xs[i]?) (is.filterMap fun i => us[i]?)
  | [] => .nil
  | i :: is => by
    have ih := vals_pick r is
    rw [List.filterMap_cons, List.filterMap_cons]
    cases h : xs[i]? with
    | none =>
      have : us[i]? = none := by
        rw [List.getElem?_eq_none_iff] at h ⊢
        rw [← r.length]; exact h
      rw [this]
      exact ih
    | some x =>
      obtain ⟨u, hu, ru⟩ := r.get h
      rw [hu]
      exact .cons ru ih
section
variable {X : Cx} {e : Expr} {lo hi : Option Expr} {st : Expr} {p2 pos : Pos} {te : TE} {tl th ts : TO}
theorem pe_slk (he : PE X e te) (hl : PO X lo tl) (hu : PO X hi th) (hs : PO X (some st) ts) : PE X (.Subscript e (.Slice lo hi (some st) p2) pos) (tSlK X.K te tl th ts) := by
  refine ⟨fun pins s σ H Q I h => Subscript_ (thn (he.run pins s σ H _ I h) fun v s1 z1 => ?_)⟩
  obtain ⟨x, H1, I1, r1, q1⟩ := z1
  refine wpAny_Slice (thn (hl.run pins s1 σ H1 _ I1 q1) fun vl s2 z2 => ?_)
  obtain ⟨l, H2, I2, pl, q2⟩ := z2
  refine thn (hu.run pins s2 σ H2 _ I2 q2) fun vu s3 z3 => ?_
  obtain ⟨u, H3, I3, pu, q3⟩ := z3
  refine thn (hs.run pins s3 σ H3 _ I3 q3) fun vs s4 z4 => ?_
  obtain ⟨y, H4, I4, ps, a, xs, k, rfl, rfl, k0, hx, hlen, q⟩ := z4
  have I5 : Inv X pins σ H4 { s4 with heap := s4.heap.push { cls := .type "slice", data := .fields #[vl, vu, vs] } } := I4.kept (t' := s4.toks) fun b o m => Heap.get?_push_of_some _ m
  cases r1
  obtain ⟨its, r, ht, hz⟩ := I5.list hx
  have hn := r.length
  refine tail_any (ops := [.ref a, .ref s4.heap.objs.size]) ht.isList.typeIs slot_list_getitem.lookup ?_ (by with_unfolding_all rfl)
  refine wpAny_getItem_list_slice ht.isList (Heap.IsSliceOf.new ..) pl pu ps (fun m => k0 (Option.some.inj m)) ?_ (by rw [List.size_toArray, ← hn]; exact hz)
  have er : (slicePick its.toArray l u (some k)).toList = (stepIx xs.length l u k).filterMap fun i => its[i]? := by
    unfold slicePick stepIx
    rw [List.size_toArray, hn]
    simp
  have rv := vals_pick r (stepIx xs.length l u k)
  have I6 := I5.laid (t' := s4.toks) (a := (s4.heap.push { cls := .type "slice", data := .fields #[vl, vu, vs] }).objs.size) (o := .lst (stepV xs l u k)) (h' := (s4.heap.push { cls := .type "slice", data := .fields #[vl, vu, vs] }).push { cls := .type "list", data := .seq (slicePick its.toArray l u (some k)) }) (fun b o m => Heap.get?_push_of_some _ m) (Nat.le_refl _)
    ⟨Nat.le_trans hlen (by rw [hn]; omega), _, 0, rv, by rw [← er, Array.toArray_toList]; exact Heap.get?_push_size _ rfl⟩
  exact ⟨.ref _, _, I6, rfl, q _ (I5.hok.fresh (Nat.le_refl _))⟩
end
end Gd

set_option Elab.async false
set_option linter.all false
set_option maxRecDepth 100000
set_option maxHeartbeats 8000000
/-! set(xs) of a list of ints -/
namespace Gd
open PySem PySem.Spec PyProof.Rows L2
/-- a set as it begins -/
abbrev set0 (w : World) : Obj :=
  { cls := .type "set", dict := none,
    data := .set #[] 0 (.fresh 0 0 (!w.params.followText "set-order")) }
section
variable {P : Program} {w : World} {A : Around} {E : Value → Shared → Prop} {s : Shared}
/-- the loop of set.update over a list of ints, from an empty set at S -/
theorem fill_set {h1 : Heap} {l S : Addr} {its : Array Value} {ns : List Int} {g : Array GenState} {d : Drawn} {tk : Nat} {os : OsState}
    (free : A.handled = none) (hS : h1.get? S = some (set0 w)) (hl : h1.IsList l its) (ne : S ≠ l) (hit : IntsAre its.toList ns) (small : ns.length + 1 < scanBound) :
    codeAny (model P w) A (.builtin "set.update.loop" ⟨[.ref S, .ref h1.objs.size], []⟩)
      (fun r s' => ∃ (h' : Heap) (t c : Nat), r = .ok (.ret .none) ∧ s' = ⟨h', g, d, t, os⟩ ∧ SetR w h' S (fun j => decide (j ∈ ns)) c ∧ c ≤ ns.length ∧ ∀ b o, b ≠ S → h1.get? b = some o → h'.get? b = some o)
      ⟨h1.push { cls := .type "list_iterator", data := .fields #[.ref l, .int 0 0] }, g, d, tk, os⟩ := by
  have len : its.size = ns.length := by
    have e := IntsAre.length hit
    rwa [Array.length_toList] at e
  have lS : S < h1.objs.size := Heap.lt_size hS
  obtain ⟨ol, hol, _⟩ := id hl
  have ll : l < h1.objs.size := Heap.lt_size hol
  have out : S ∉ [h1.objs.size, l] := by
    intro m
    rcases List.mem_cons.mp m with e | m
    · exact Nat.ne_of_lt lS e
    · exact ne (List.mem_singleton.mp m)
  have at_ : ∀ (i : Nat) (v : Value), its[i]? = some v → ∃ k t, ns[i]? = some k ∧ v = .int k t := by
    intro i v e
    have hi : i < ns.length := len ▸ (Array.getElem?_eq_some_iff.mp e).1
    obtain ⟨t, z⟩ := IntsAre.int_at hit i v (by rw [Array.getElem?_toList]; exact e)
    exact ⟨ns[i], t, List.getElem?_eq_getElem hi, by rw [z, List.getD_eq_getElem?_getD, List.getElem?_eq_getElem hi]; rfl⟩
  have W := (Walks.list (prog := P) (w := w) (A := A.in1) (by simp [free]) h1.objs.size l (Nat.ne_of_lt ll) its).toS
  refine set_update_ints W S out ns len small at_ its.size 0 _ (by omega) (Nat.zero_le _) ⟨⟨_, Heap.get?_push_size _ rfl, rfl, rfl⟩, hl.push _⟩ ⟨0, Nat.le_refl _, setR_new_at (Heap.get?_push_of_some _ hS)⟩ (fun s' c m hc hR => ?_)
  obtain ⟨h', g', d', t', os'⟩ := s'
  obtain rfl : g' = g := m.gens
  obtain rfl : d' = d := m.drawn
  obtain rfl : os' = os := m.os
  refine ⟨h', t', c, rfl, rfl, hR, by omega, fun b o nb e => ?_⟩
  refine m.heap b o (fun z => ?_) (Heap.get?_push_of_some _ e)
  rcases List.mem_cons.mp z with z | z
  · exact nb z
  · have := Heap.lt_size e
    rw [List.mem_singleton.mp z] at this
    exact Nat.lt_irrefl _ this
theorem set_of_list {l : Addr} {its : Array Value} {ns : List Int} {Q : Value → Shared → Prop} (free : A.handled = none) (hl : s.heap.IsList l its) (hit : IntsAre its.toList ns) (small : ns.length + 1 < scanBound)
    (q : ∀ (h' : Heap) (t c : Nat), SetR w h' s.heap.objs.size (fun j => decide (j ∈ ns)) c → c ≤ ns.length → (∀ b o, s.heap.get? b = some o → h'.get? b = some o) →
      Q (.ref s.heap.objs.size) { s with heap := h', toks := t }) : wpAny (model P w) A (call (.type "set") [.ref l]) Q E s := by
  have K := F.called_set
  obtain ⟨_, _, mro⟩ := K.mro
  have made := K.made
  have sub := K.sub
  have nt := K.notType
  have can := K.canCreate
  have tc := F.typeCall_set_1 (.ref l)
  have look := K.init.lookup
  have bnd := K.init.bind (.ref s.heap.objs.size)
  refine wpAny_call (codeAny_of_tree (show wpAny _ _ (callAny (.type "set") _) _ _ _ from wpAny_pure ⟨Code.quiet_builtin _ (by decide +kernel), codeAny_builtin F.entry_type_call ?_⟩))
  rw [Around.under_plain (weight_type_call_type "set" [.ref l] []) rfl]
  repeat (any_goals (first | assumption | wp_step))
  refine codeAny_mono (code_set_led1 (.ref l) (E := E) (Q₁ := fun o s1 => o = .ref s.heap.objs.size ∧ s1 = { s with heap := s.heap.push (set0 w) }) ⟨rfl, rfl⟩) fun r s1 hr => ?_
  match r, hr with
  | .error _, hr => exact hr
  | .ok .next, hr => exact hr.elim
  | .ok .brk, hr => exact hr.elim
  | .ok .cont, hr => exact hr.elim
  | .ok (.ret o), hr =>
    obtain ⟨e1, e2⟩ := hr
    subst e1 e2
    have hS : (s.heap.push (set0 w)).get? s.heap.objs.size = some (set0 w) := Heap.get?_push_size _ rfl
    have tS : Shared.TypeIs { s with heap := s.heap.push (set0 w) } (.ref s.heap.objs.size) "set" := ⟨_, hS, rfl⟩
    have keep0 : ∀ b o, s.heap.get? b = some o → (s.heap.push (set0 w)).get? b = some o := fun b o e => Heap.get?_push_of_some _ e
    have hl1 := hl.push (set0 w)
    repeat (any_goals (first | assumption | wp_step))
    refine codeAny_mono (codeAny_call_builtin (R := fun r s2 => ∃ (h' : Heap) (t c : Nat), r = .ok (.ret .none) ∧ s2 = ⟨h', s.gens, s.drawn, t, s.os⟩ ∧ SetR w h' s.heap.objs.size (fun j => decide (j ∈ ns)) c ∧ c ≤ ns.length ∧ ∀ b o, s.heap.get? b = some o → h'.get? b = some o)
      K.init.plain F.entry_set_init (check_set_init_1 tS ?_)) (fun r2 s2 hr2 => ?_)
    · obtain ⟨⟨ocls, odict, odata, oslots⟩, hol, hcl, nl, hdl⟩ := id hl1
      have nd : (Value.type "list" == Value.type "dict") = false := by decide
      have s1 := F.sub_list_set
      have s2 := F.sub_list_frozenset
      simp only at hcl hdl
      subst hcl
      subst hdl
      unfold Builtin.«set.__init__» noKeywords Builtin.Frozenset.updateFrom
      generalize hI : pyIter = iter
      wp_walk
      subst hI
      have nSl : s.heap.objs.size ≠ l := by
        obtain ⟨ol, z, _⟩ := hl
        exact Nat.ne_of_gt (Heap.lt_size z)
      refine wpAny_pyIter_list hl1 (wpAny_bind (wpAny_runValue (codeAny_mono (fill_set (A := A.in1.in1) (by simp [free]) hS hl1 nSl hit small) (fun r s' z => ?_))))
      obtain ⟨h', t, c, rfl, rfl, hR, hc, hk⟩ := z
      have old : ∀ b o, s.heap.get? b = some o → h'.get? b = some o := fun b o e => hk b o (Nat.ne_of_lt (Heap.lt_size e)) (keep0 b o e)
      exact wpAny_pure (wpAny_pure ⟨h', t, c, rfl, rfl, hR, hc, old⟩)
    · obtain ⟨h', t, c, rfl, rfl, hR, hc, hk⟩ := hr2
      repeat (any_goals (first | assumption | wp_step))
      exact q h' t c hR hc hk
end
/-- set(xs) of a list of ints: as many members as different numbers -/
def rSetL (K : PySem.W.Frag) (w : World) : List V → Hp → VK → Prop := fun xs H Q => ∃ (l : Addr) (ns : List Int), xs = [.ref l] ∧ SqL K H l (ns.map V.int) ∧ ns.length ≤ 1000 ∧
  ∀ (a : Addr) (c : Nat), H a = none → (∀ ds : List Int, (∀ k ∈ ns, k ∈ ds) → c ≤ ds.length) → Q (.ref a) (upd H a (SetO w a (fun j => decide (j ∈ ns)) c))
theorem setR_few {w : World} {h : Heap} {a : Addr} {ns : List Int} {c : Nat} (R : SetR w h a (fun j => decide (j ∈ ns)) c) (ds : List Int) (hd : ∀ k ∈ ns, k ∈ ds) : c ≤ ds.length := by
  obtain ⟨o, es, ep, t, _, _, _, _, nd, mem, _, _, n, _⟩ := R
  rw [← n, ← Array.length_toList, ← List.length_map (f := keyOf)]
  refine List.Nodup.length_le_of_subset nd fun k hk => ?_
  exact hd k (of_decide_eq_true ((mem k).mpr hk))
theorem cr_setL {X : Cx} (hc : X.calm = true) : CallR X (.type "set") (rSetL X.K X.w) := by
  intro pins s σ H xs us Q I r h
  obtain ⟨l, ns, rfl, hx, hn, q⟩ := h
  rw [Vals.ref1 r]
  obtain ⟨its, rv, pl, _⟩ := I.list hx
  refine set_of_list (I.ok.hd hc) pl.isList (by simpa using rv.ints) (by unfold scanBound; omega) fun h' t c R _ k => ?_
  exact ⟨.ref s.heap.objs.size, _, I.laid (t' := t) k (Nat.le_refl _) (setO_new R), rfl, q _ c (I.hok.fresh (Nat.le_refl _)) (setR_few R)⟩
end Gd

set_option Elab.async false
set_option linter.all false
set_option maxRecDepth 100000
set_option maxHeartbeats 4000000
/-! Own classes in the layer HG: methods, and objects that are made. -/
namespace Gd
open PySem PySem.Spec PyProof.Rows L2
/-- a method that may be called by its name on an object of the class at C -/
structure ClM (P : Program) (w : World) (K : PySem.W.Frag) (mg : Str → Option Value) (base : Heap) (k : Nat) (C : Addr) (m : Str) (sp : Sp) : Prop where
  ex : ∃ (f : Addr) (fd : FuncData) (ps : List Str), FnG P w K mg base k f fd ps sp ∧ Meth K C m f ∧ Binds K fd ps []
structure AtM (K : PySem.W.Frag) (C : Addr) (m q : Str) (st : Stmt) (ps : List Str) : Prop where
  ex : ∃ (f : Addr) (fd : FuncData), Fun K m q st f fd ∧ Meth K C m f ∧ Binds K fd ps []
/-- a class of which an object may be made -/
structure ClI (P : Program) (w : World) (K : PySem.W.Frag) (mg : Str → Option Value) (base : Heap) (k : Nat) (C : Addr) (x : Str) (sp : Sp) : Prop where
  ex : ∃ (f : Addr) (fd : FuncData) (ps : List Str), FnG P w K mg base k f fd ps sp ∧ Mk K C f ∧ mg x = some (.ref C) ∧ Binds K fd ps []
structure AtI (K : PySem.W.Frag) (mg : Str → Option Value) (C : Addr) (x q : Str) (st : Stmt) (ps : List Str) : Prop where
  ex : ∃ (f : Addr) (fd : FuncData), Fun K "__init__" q st f fd ∧ Mk K C f ∧ mg x = some (.ref C) ∧ Binds K fd ps []
section
variable {P : Program} {w : World} {K : PySem.W.Frag} {mg : Str → Option Value} {base : Heap}
theorem clMG {C : Addr} {m q : Str} {st : Stmt} {N ps : List Str} {k : Nat} {sp : Sp} (a : AtM K C m q st ps) (S : FnScope N ps (defScope st))
    (len : ∀ vs H Q E, sp vs H Q E → vs.length = ps.length)
    (hb : ∀ (f : Addr) (cdv : Value) (A : Around) (outer : List Env) (s : Shared) (H : Hp) (vs : List V) (Q : VK),
      A.guards = some [] → Room k (A.deeper (envOfC q (defScope st) s.heap.objs.size f cdv)) → sp vs H Q E0 →
      ∃ t, PSs (cxOf CX0 P w K mg base N q (defScope st) f cdv A outer s H E0).nox (defBody st) t ∧
        t { nx := fun _ H' => Q .non H', rt := Q } (start N vs) H) : ClM P w K mg base (k + 1) C m sp := by
  obtain ⟨f, fd, F, hm, b⟩ := a.ex
  exact ⟨f, fd, ps, fnG F S len (hb f), hm, b⟩
theorem clIG {C : Addr} {x q : Str} {st : Stmt} {N ps : List Str} {k : Nat} {sp : Sp} (a : AtI K mg C x q st ps) (S : FnScope N ps (defScope st))
    (len : ∀ vs H Q E, sp vs H Q E → vs.length = ps.length)
    (hb : ∀ (f : Addr) (cdv : Value) (A : Around) (outer : List Env) (s : Shared) (H : Hp) (vs : List V) (Q : VK),
      A.guards = some [] → Room k (A.deeper (envOfC q (defScope st) s.heap.objs.size f cdv)) → sp vs H Q E0 →
      ∃ t, PSs (cxOf CX0 P w K mg base N q (defScope st) f cdv A outer s H E0).nox (defBody st) t ∧
        t { nx := fun _ H' => Q .non H', rt := Q } (start N vs) H) : ClI P w K mg base (k + 1) C x sp := by
  obtain ⟨f, fd, F, hm, hx, b⟩ := a.ex
  exact ⟨f, fd, ps, fnG F S len (hb f), hm, hx, b⟩
end
section
variable {X : Cx} {k j : Nat} {x m : Str} {C : Addr} {sp : Sp} {p pos apos : Pos} {o e : Expr} {es : List Expr} {t : TA} {ta : TE}
/-- o.m(e, ..) -/
theorem pe_clM {pl : Sem Bool} (c : ClM X.prog X.w X.K X.mg X.base k C m sp) (cc : Cls X.K C) (hg : X.A.guards = some []) (hr : Room j X.A) (hk : k ≤ j) (ho : PE X o ta) (ha : PA X (e :: es) t)
    (hst : starEach (e :: es) X.env = (false, eval e X.env) :: starEach es X.env := by rfl) (hpl : (backTo pos (starEach es X.env)).any (·.1) = false := by rfl)
    (ht : eval (.Call (.Attribute o m apos) (e :: es) [] pos) X.env = (do
      let ov ← eval o X.env
      standAt apos.atName
      let (f, first) ← holding [ov] (getMethod ov m pl)
      callWith pos f first (backTo pos (starEach (e :: es) X.env)) (backToKw pos (keywordEach [] X.env))) := by rfl) :
    PE X (.Call (.Attribute o m apos) (e :: es) [] pos) (tMeth C m sp [] E0 ta t) := by
  obtain ⟨f, fd, ps, F, hm, b⟩ := c.ex
  refine ⟨fun pins s σ H Q I h => ?_⟩
  refine PySem.W.methodCall_KW (pl := pl) (thn (ho.run pins s σ H _ I h) fun u s1 ⟨x, H1, I1, rx, a, dx, fs, ex, ea, l, q⟩ => ?_) ht
  subst ex
  obtain rfl : u = Value.ref a := rx
  refine getmeth_ok I1 ea cc hm l ?_
  refine PySem.W.callWith_K (first := [.ref a]) (h₀ := X.base) I.ok.mod.kin hm.kp (thn (ha.run pos pins s1 σ H1 _ I1 q) fun us s2 ⟨vs, H2, I2, r, q2⟩ => ⟨I2.kIn, ?_⟩) hst hpl
  exact run_cl (us := .ref a :: us) (vs := .ref a :: vs) F hg (hr.mono hk) b I2 (.cons rfl r) (by simpa using q2)
/-- o.m() -/
theorem pe_clM0 {pl : Sem Bool} (c : ClM X.prog X.w X.K X.mg X.base k C m sp) (cc : Cls X.K C) (hg : X.A.guards = some []) (hr : Room j X.A) (hk : k ≤ j) (ho : PE X o ta)
    (ht : eval (.Call (.Attribute o m apos) [] [] pos) X.env = (do
      let ov ← eval o X.env
      standAt apos.atName
      let (f, first) ← holding [ov] (getMethod ov m pl)
      callWith pos f first (backTo pos (starEach [] X.env)) (backToKw pos (keywordEach [] X.env))) := by rfl) :
    PE X (.Call (.Attribute o m apos) [] [] pos) (tMeth C m sp [] E0 ta tNil) := by
  obtain ⟨f, fd, ps, F, hm, b⟩ := c.ex
  refine ⟨fun pins s σ H Q I h => ?_⟩
  refine PySem.W.methodCall_KW (pl := pl) (thn (ho.run pins s σ H _ I h) fun u s1 ⟨x, H1, I1, rx, a, dx, fs, ex, ea, l, q⟩ => ?_) ht
  subst ex
  obtain rfl : u = Value.ref a := rx
  refine getmeth_ok I1 ea cc hm l ?_
  exact PySem.W.callWith_K0 (first := [.ref a]) I1.kIn hm.kp (run_cl (us := [.ref a]) (vs := [.ref a]) F hg (hr.mono hk) b I1 (.cons rfl .nil) q)
theorem run_clI {f : Addr} {fd : FuncData} {ps : List Str} {pins : List (Addr × Obj)} {σ : L2.St} {H : Hp} {s : Shared} {Q : VK} {us : List Value} {vs : List V} (M : Mk X.K C f) (F : FnG X.prog X.w X.K X.mg X.base k f fd ps sp) (hg : X.A.guards = some []) (hr : Room (k + 1) X.A) (hb : Binds X.K fd ps [])
    (I : Inv X pins σ H s) (r : Vals vs us)
    (h : ∀ x dx, H x = none → H dx = none → dx ≠ x → sp (.ref x :: vs) (upd (upd H dx (.own x)) x (.ins C dx [])) (fun v H2 => v = .non ∧ Q (.ref x) H2) E0) :
    wpAny (model X.prog X.w) X.A (call (.ref C) us) (EP X pins σ Q) X.xe s := by
  have hq := h (s.heap.objs.size + 1) s.heap.objs.size (I.hok.fresh (Nat.le_succ _)) (I.hok.fresh (Nat.le_refl _)) (Nat.ne_of_lt (Nat.lt_succ_self _))
  have I2 := Inv.made (C := C) I
  have r2 : Vals (V.ref (s.heap.objs.size + 1) :: vs) (Value.ref (s.heap.objs.size + 1) :: us) := .cons rfl r
  have hl : (Value.ref (s.heap.objs.size + 1) :: us).length = ps.length := by
    have e := r2.length
    rw [F.len _ _ _ _ hq] at e
    exact e.symm
  have bt := hb _ (Value.ref (s.heap.objs.size + 1) :: us) I2.kIn (by simpa using hl)
  rw [List.append_nil] at bt
  refine wpAny_call (make_map (f := f) I.kIn M.makes M.init (beq_iff_eq.mp M.fn) (codeAny_mono (F.go _ X.stack _ _ ⟨Value.ref (s.heap.objs.size + 1) :: us, []⟩ (Value.ref (s.heap.objs.size + 1) :: us) _ _ hg (hr.make C us [])
    (I2.env0.make C us []) bt r2 hq) fun r s' hq' => ?_))
  match r, hq' with
  | .ok (.ret u), hq' =>
    obtain ⟨v, H', I3, rv, ev, q3⟩ := I2.after hq'
    subst ev
    exact ⟨rv, ⟨V.ref (s.heap.objs.size + 1), H', I3, rfl, q3⟩⟩
  | .ok .next, hq' => exact False.elim hq'
  | .ok .brk, hq' => exact False.elim hq'
  | .ok .cont, hq' => exact False.elim hq'
  | .error _, hq' => exact False.elim hq'
/-- C(e, ..) -/
theorem pe_clI (c : ClI X.prog X.w X.K X.mg X.base k C x sp) (hg : X.A.guards = some []) (hr : Room j X.A) (hk : k + 1 ≤ j) (gl : Gl X x) (ha : PA X (e :: es) t)
    (hdb : (x == ("__debug__" : Str)) = false := by decide) (he : starEach (e :: es) X.env = (false, eval e X.env) :: starEach es X.env := by rfl) (hpl : (backTo pos (starEach es X.env)).any (·.1) = false := by rfl) :
    PE X (.Call (.Name x p) (e :: es) [] pos) (tMake C sp [] E0 t) := by
  obtain ⟨f, fd, ps, F, M, hm, b⟩ := c.ex
  refine ⟨fun pins s σ H Q I h => ?_⟩
  refine wpAny_Call_Name_kw (ld_glob I gl hm ?_ hdb)
  refine PySem.W.callWith_K (h₀ := X.base) I.ok.mod.kin M.kp (thn (ha.run pos pins s σ H _ I h) fun us s1 ⟨vs, H1, I1, r, q⟩ => ⟨I1.kIn, ?_⟩) he hpl
  exact run_clI M F hg (hr.mono hk) b I1 r (by simpa using q)
end
/-! ### list(d.values()) -/
def tListVals (te : TE) : TE := fun σ H Q => te σ H fun x H1 => ∃ (d : Addr) (kvs : List (Key × V)), x = .ref d ∧ H1 d = some (.dK kvs) ∧ ∀ p, H1 p = none → Q (.ref p) (upd H1 p (.lst (kvs.map (·.2))))
theorem kv_vals {kvs : List (Key × V)} {vs : List (Key × Value)} (h : KV kvs vs) : Vals (kvs.map (·.2)) (vs.map (·.2)) := by
  induction h with
  | nil => exact .nil
  | cons h t ih => exact .cons h.2 ih
section
variable {X : Cx} {e : Expr} {te : TE} {p apos cpos pos : Pos}
theorem pe_listVals (hc : X.calm = true) (he : PE X e te) (hg : Gl X "list") (hm : X.mg "list" = none) (hv : bootBuiltins "list" = some (.type "list")) (hbase : attributeBase e "values" X.env (eval e X.env) = eval e X.env := by rfl) (hline : (apos.endLine == cpos.line) = true := by rfl)
    (hs : starEach [.Call (.Attribute e "values" apos) [] [] cpos] X.env = (false, eval (.Call (.Attribute e "values" apos) [] [] cpos) X.env) :: starEach [] X.env := by rfl) :
    PE X (.Call (.Name "list" p) [.Call (.Attribute e "values" apos) [] [] cpos] [] pos) (tListVals te) := by
  refine ⟨fun pins s σ H Q I hq => ?_⟩
  refine wpAny_Call_Name_kw (ld_blt I hg hm hv ?_)
  refine PyProof.Rows.callWith_type1 ?_ hs rfl
  rw [hs]
  show wpAny _ _ (spliced ((false, eval (.Call (.Attribute e "values" apos) [] [] cpos) X.env) :: backTo pos (starEach [] X.env))) _ _ s
  refine Calls.spliced_cons ?_
  refine wpAny_Call_method (T := "dict") (id := "dict.values") hbase rfl hline F.plainAttrs_dict F.slot_dict_values F.type_dict_values (thn (he.run pins s σ H _ I hq) fun u s1 ⟨x, H1, I1, rx, d, kvs, ex, hd, q⟩ => ?_)
  subst ex
  obtain rfl : u = Value.ref d := rx
  obtain ⟨hz, hs0, vs, kv, hdo⟩ := I1.hok d _ hd
  obtain ⟨ep, hat⟩ := hdo.dictAt
  have lk : kvs.length = vs.length := Paired.length kv
  have I2 : Inv X pins σ H1 { s1 with heap := s1.heap.push { cls := .type "dict_values", data := .fields #[.ref d] } } := I1.kept (t' := s1.toks) fun b ob q => Heap.get?_push_of_some _ q
  refine ⟨hdo.typeIs, hdo.mapOf.noDict, ?_⟩
  show wpAny _ _ (callWith cpos (.builtin "dict.values") [.ref d] [] []) _ X.xe s1
  refine method_meetsIn F.slot_dict_values F.entry_dict_values rfl (PySem.evalArgs_none ⟨rfl, hdo.typeIs, F.args_dict_values_1 _, _, PySem.meets_dict_values (mixKind X.prog X.w) d hs0, ⟨vs, hdo⟩, ?_⟩)
  refine Calls.spliced_nil ?_
  refine PySem.W.kdl_call (PySem.W.kdl_values (knd := mixKind X.prog X.w) (kvs := vs) (ep := ep)) (I1.ok.hd hc) ⟨⟨_, Heap.get?_push_size _ rfl, rfl, rfl⟩, hat.push _⟩ (by omega) fun h' tk acc c hk hS hacc => ?_
  have hl : acc.toList = vs.map (·.2) := PySem.W.kdl_vals_eq acc.toList (by rw [Array.length_toList]; exact hacc.1) fun j v e => hacc.2 j v (by rw [← Array.getElem?_toList]; exact e)
  refine ⟨.ref _, _, I2.laid (t' := tk) hk (Nat.le_refl _) (show ObjOk X.prog X.w _ h' _ (.lst (kvs.map (·.2))) from ⟨by rw [List.length_map]; exact hz, acc.toList, c, by rw [hl]; exact kv_vals kv, by rw [Array.toArray_toList]; exact hS⟩), rfl, q _ I2.fresh⟩
end
end Gd

set_option Elab.async false
set_option linter.all false
set_option maxRecDepth 100000
set_option maxHeartbeats 4000000
/-! Playing: the state of the keys, and what each event is. -/
namespace Pl
open PySem PySem.Spec PyProof.Rows L2 Gd Rm La

/-! ### what the keys are bound to -/
abbrev Bd0 := List (Int × Actn)
def putB (bd : Bd0) (k : Int) (x : Actn) : Bd0 := if (bd.any fun p => decide (p.1 = k)) = true then bd.map (fun p => if p.1 = k then (p.1, x) else p) else bd ++ [(k, x)]
def dropB (bd : Bd0) (k : Int) : Bd0 := bd.filter fun p => decide (p.1 ≠ k)
def getB (bd : Bd0) (k : Int) : Option Actn := (bd.find? fun p => decide (p.1 = k)).map (·.2)
abbrev BdR (H : Hp) : (Key × V) → (Int × Actn) → Prop := fun p q => p.1 = Sum.inl q.1 ∧ ActV H q.2 p.2
def Bd (H : Hp) (kvs : List (Key × V)) (bd : Bd0) : Prop := Paired (BdR H) kvs bd
theorem Bd.keep {H H' : Hp} {kvs : List (Key × V)} {bd : Bd0} (h : Bd H kvs bd) (t : Tk H H') : Bd H' kvs bd := by
  unfold Bd at h ⊢
  induction h with
  | nil => exact .nil
  | cons a _ ih => exact .cons ⟨a.1, a.2.keep t⟩ ih
theorem Bd.length {H : Hp} {kvs : List (Key × V)} {bd : Bd0} (h : Bd H kvs bd) : kvs.length = bd.length := by
  unfold Bd at h
  induction h with
  | nil => rfl
  | cons _ _ ih => rw [List.length_cons, List.length_cons, ih]
theorem inl_iff {a b : Int} : ((Sum.inl a : Key) = Sum.inl b) ↔ a = b := ⟨fun h => Sum.inl.inj h, fun h => by rw [h]⟩
theorem Bd.any {H : Hp} {kvs : List (Key × V)} {bd : Bd0} (h : Bd H kvs bd) (k : Int) : (kvs.any fun p => decide (p.1 = (Sum.inl k : Key))) = bd.any fun p => decide (p.1 = k) := by
  unfold Bd at h
  induction h with
  | nil => rfl
  | @cons p q _ _ a _ ih =>
    rw [List.any_cons, List.any_cons, ih, a.1]
    congr 1
    exact decide_eq_decide.mpr inl_iff
theorem Bd.mapP {H : Hp} {kvs : List (Key × V)} {bd : Bd0} (h : Bd H kvs bd) {k : Int} {x : Actn} {v : V} (hx : ActV H x v) :
    Bd H (kvs.map fun p => if p.1 = (Sum.inl k : Key) then (p.1, v) else p) (bd.map fun p => if p.1 = k then (p.1, x) else p) := by
  unfold Bd at h ⊢
  induction h with
  | nil => exact .nil
  | @cons p q _ _ a _ ih =>
    refine .cons ?_ ih
    show BdR H (if p.1 = (Sum.inl k : Key) then (p.1, v) else p) (if q.1 = k then (q.1, x) else q)
    by_cases e : q.1 = k
    · rw [if_pos e, if_pos (by rw [a.1, e])]
      exact ⟨a.1, hx⟩
    · rw [if_neg e, if_neg (fun z => e (inl_iff.mp (a.1.symm.trans z)))]
      exact a
theorem Bd.snoc {H : Hp} {kvs : List (Key × V)} {bd : Bd0} (h : Bd H kvs bd) {p : Key × V} {q : Int × Actn} (a : BdR H p q) : Bd H (kvs ++ [p]) (bd ++ [q]) := by
  unfold Bd at h ⊢
  induction h with
  | nil => exact .cons a .nil
  | cons b _ ih => exact .cons b ih
theorem Bd.put {H : Hp} {kvs : List (Key × V)} {bd : Bd0} (h : Bd H kvs bd) {k : Int} {x : Actn} {v : V} (hx : ActV H x v) : Bd H (putK kvs (Sum.inl k) v) (putB bd k x) := by
  unfold putK putB
  rw [h.any k]
  split
  · exact h.mapP hx
  · exact h.snoc ⟨rfl, hx⟩
theorem Bd.drop {H : Hp} {kvs : List (Key × V)} {bd : Bd0} (h : Bd H kvs bd) (k : Int) : Bd H (dropK kvs (Sum.inl k)) (dropB bd k) := by
  unfold Bd dropK dropB at *
  induction h with
  | nil => exact .nil
  | @cons p q _ _ a _ ih =>
    by_cases e : q.1 = k
    · rw [List.filter_cons_of_neg (by simp [a.1, e]), List.filter_cons_of_neg (by simp [e])]
      exact ih
    · have e' : ¬ p.1 = (Sum.inl k : Key) := fun z => e (inl_iff.mp (a.1.symm.trans z))
      rw [List.filter_cons_of_pos (by simp [e']), List.filter_cons_of_pos (by simp [e])]
      exact .cons a ih
theorem Bd.get {H : Hp} {kvs : List (Key × V)} {bd : Bd0} (h : Bd H kvs bd) (k : Int) : (valV kvs (Sum.inl k) = none ∧ getB bd k = none) ∨ ∃ v x, valV kvs (Sum.inl k) = some v ∧ getB bd k = some x ∧ ActV H x v := by
  unfold Bd at h
  induction h with
  | nil => exact .inl ⟨rfl, rfl⟩
  | @cons p q _ _ a _ ih =>
    by_cases e : q.1 = k
    · refine .inr ⟨p.2, q.2, valV_pos (by rw [a.1, e]), ?_, a.2⟩
      unfold getB
      rw [List.find?_cons_of_pos (by simp [e])]
      rfl
    · have e' : ¬ p.1 = (Sum.inl k : Key) := fun z => e (inl_iff.mp (a.1.symm.trans z))
      rw [valV_neg e']
      have g : ∀ r : Bd0, getB (q :: r) k = getB r k := fun r => by
        unfold getB
        rw [List.find?_cons_of_neg (by simp [e])]
      rw [g]
      exact ih
theorem Bd.dp {K : PySem.W.Frag} {H : Hp} {kvs : List (Key × V)} {bd : Bd0} (h : Bd H kvs bd) : DpAll K H (kvs.map (·.2)) (bd.map fun q => actD q.2) := by
  unfold Bd at h
  induction h with
  | nil => exact .nil
  | cons a _ ih => exact .cons a.2.dp ih
theorem putB_len (bd : Bd0) (k : Int) (x : Actn) : (putB bd k x).length ≤ bd.length + 1 := by
  unfold putB
  split
  · rw [List.length_map]; omega
  · rw [List.length_append]; exact Nat.le_refl _
theorem dropB_len (bd : Bd0) (k : Int) : (dropB bd k).length ≤ bd.length := List.length_filter_le ..
theorem putB_mem {bd : Bd0} {k : Int} {x : Actn} {p : Int × Actn} (h : p ∈ putB bd k x) : p ∈ bd ∨ p = (k, x) := by
  unfold putB at h
  split at h
  · obtain ⟨q, hq, e⟩ := List.mem_map.mp h
    by_cases z : q.1 = k
    · rw [if_pos z] at e; rw [← e, z]; exact .inr rfl
    · rw [if_neg z] at e; rw [← e]; exact .inl hq
  · rcases List.mem_append.mp h with q | q
    · exact .inl q
    · exact .inr (List.mem_singleton.mp q)
theorem dropB_mem {bd : Bd0} {k : Int} {p : Int × Actn} (h : p ∈ dropB bd k) : p ∈ bd := (List.mem_filter.mp h).1
theorem getB_mem {bd : Bd0} {k : Int} {x : Actn} (h : getB bd k = some x) : ∃ p ∈ bd, p.1 = k ∧ p.2 = x := by
  unfold getB at h
  cases e : bd.find? fun p => decide (p.1 = k) with
  | none => rw [e] at h; cases h
  | some p =>
    rw [e] at h
    exact ⟨p, List.mem_of_find?_eq_some e, of_decide_eq_true (List.find?_some (p := fun p : Int × Actn => decide (p.1 = k)) e), Option.some.inj h⟩
/-- what a key may be bound to -/
def BdOk (n : Int) : Actn → Prop
  | .code c => CodeOk c
  | .lay w j => w = ("layer" : String) ∧ 1 ≤ j ∧ j ≤ n - 1
  | _ => False
theorem BdOk.act {n : Int} {x : Actn} (h : BdOk n x) (i : Int) : ActOk n i x := by
  cases x with
  | code c => exact h
  | lay w j => exact ⟨by rw [h.1]; decide +kernel, h.2.1, h.2.2⟩
  | none => exact h.elim
  | thr => exact h.elim
  | dualC _ _ _ _ => exact h.elim
  | dualL _ _ _ _ => exact h.elim
def BdsOk (n : Int) (bd : Bd0) : Prop := ∀ p ∈ bd, BdOk n p.2

/-! ### the state -/
structure Sm where
  lk : List Bool
  on : Int
  bd : Bd0
def isLay (i : Int) : Actn → Bool
  | .lay w j => decide (w = (("layer" : String) : Str)) && decide (j = i)
  | _ => false
def onL (s : Sm) (i : Nat) : Bool := decide (i = 0) || s.lk.getD i false || decide (s.on = i) || s.bd.any fun p => isLay i p.2
def isThr : Actn → Bool
  | .thr => true
  | _ => false
def actAt (L : List (List Actn)) (i k : Nat) : Actn := ((L.getD i []).getD k .none)
def filt (L : List (List Actn)) (s : Sm) (k : Nat) : List Nat := (List.range L.length).filter fun i => !isThr (actAt L i k) && onL s i
def takenL (L : List (List Actn)) (s : Sm) (k : Nat) : Nat := (filt L s k).getLast?.getD 0
def isDl : Actn → Bool
  | .dualC .. => true
  | .dualL .. => true
  | _ => false
def timeOf : Actn → Int
  | .dualC _ _ t _ => t
  | .dualL _ _ t _ => t
  | _ => 0
def ruleOf : Actn → Str
  | .dualC _ _ _ r => r
  | .dualL _ _ _ r => r
  | _ => Str.empty
def tapOf : Actn → Actn
  | .dualC c _ _ _ => .code c
  | .dualL c _ _ _ => .code c
  | x => x
def holdOf : Actn → Actn
  | .dualC _ d _ _ => .code d
  | .dualL _ j _ _ => .lay "layer" j
  | x => x
def press (s : Sm) (k : Int) (x : Actn) : Sm :=
  match x with
  | .code c => { s with on := 0, bd := putB s.bd k (.code c) }
  | .lay w j => if w = ("layer" : String) then { s with on := 0, bd := putB s.bd k (.lay w j) } else if w = ("lock" : String) then { s with on := 0, lk := s.lk.set j.toNat (!s.lk.getD j.toNat false) } else { s with on := j }
  | _ => { s with on := 0 }
def release (s : Sm) (k : Int) : Sm := { s with bd := dropB s.bd k }
def init (n : Nat) : Sm := ⟨List.replicate n false, 0, []⟩

/-! ### deciding events -/
def decEv (own : Int) (rule : Str) : List Int → List Ev → Option Nat
  | _, [] => none
  | inner, e :: r =>
    if e.k = own ∨ (rule = ("other" : String) ∧ e.d = true) then some 0
    else if e.d = true then (decEv own rule (inner ++ [e.k]) r).map (· + 1)
    else if rule = ("within" : String) ∧ e.k ∈ inner then some 0
    else (decEv own rule inner r).map (· + 1)
def decM (es : List Ev) (at_ : Nat) (rule : Str) : Option Nat := (decEv ((es.getD at_ ⟨0, 0, false⟩).k) rule [] (es.drop (at_ + 1))).map (· + (at_ + 1))
def evAt (es : List Ev) (i : Nat) : Ev := es.getD i ⟨0, 0, false⟩
def sureM (es : List Ev) (at_ : Nat) (x : Actn) : Option Nat :=
  match decM es at_ (ruleOf x) with
  | none => none
  | some n => if (evAt es at_).t + timeOf x ≤ (evAt es n).t then none else some n
def tapM (es : List Ev) (at_ : Nat) (sure : Option Nat) : Bool :=
  match sure with
  | none => false
  | some n => decide ((evAt es n).k = (evAt es at_).k)
def kindM (es : List Ev) (at_ : Nat) (x : Actn) : Str := if isDl x then (if tapM es at_ (sureM es at_ x) then "tap" else "hold") else "plain"
def whatM (x : Actn) (kind : Str) : Actn := if kind = ("plain" : String) then x else if kind = ("tap" : String) then tapOf x else holdOf x
/-- what is told of an event: of an up, or of a down -/
inductive Td where
  | up
  | dn (lay : Nat) (kind : Str) (what : Actn) (sure : Option Nat)
def stepS (L : List (List Actn)) (es : List Ev) (i : Nat) (s : Sm) : Sm :=
  if (evAt es i).d then
    let x := actAt L (takenL L s (evAt es i).k.toNat) (evAt es i).k.toNat
    press s (evAt es i).k (whatM x (kindM es i x))
  else release s (evAt es i).k
def stepT (L : List (List Actn)) (es : List Ev) (i : Nat) (s : Sm) : Td :=
  if (evAt es i).d then
    let l := takenL L s (evAt es i).k.toNat
    let x := actAt L l (evAt es i).k.toNat
    .dn l (kindM es i x) (whatM x (kindM es i x)) (if isDl x then sureM es i x else none)
  else .up
def runS (L : List (List Actn)) (es : List Ev) : Nat → Sm
  | 0 => init L.length
  | n + 1 => stepS L es n (runS L es n)
def runT (L : List (List Actn)) (es : List Ev) (i : Nat) : Td := stepT L es i (runS L es i)
end Pl

set_option Elab.async false
set_option linter.all false
set_option maxRecDepth 100000
set_option maxHeartbeats 4000000
namespace K74
open PySem PySem.Spec PyProof.Rows L2 Gd Rm La Cb
def topS (i : Nat) : Stmt := PySem.Challenge.pw_holdtap_k74_whole_played_tick_by_tick.main.body.getD i (.Pass ⟨0, 0, 0, 0⟩)
abbrev s__wall : Stmt := topS 0
abbrev n__wall : List Str := ["k"]
theorem sc__wall : FnScope n__wall ["k"] (defScope s__wall) := ⟨rfl, rfl, rfl, by decide +kernel, rfl, by decide +kernel, by decide +kernel⟩
-- 0 k
abbrev s_is_an_integer : Stmt := topS 6
abbrev n_is_an_integer : List Str := ["value"]
theorem sc_is_an_integer : FnScope n_is_an_integer ["value"] (defScope s_is_an_integer) := ⟨rfl, rfl, rfl, by decide +kernel, rfl, by decide +kernel, by decide +kernel⟩
-- 0 value
abbrev s_is_between : Stmt := topS 7
abbrev n_is_between : List Str := ["value", "low", "high"]
theorem sc_is_between : FnScope n_is_between ["value", "low", "high"] (defScope s_is_between) := ⟨rfl, rfl, rfl, by decide +kernel, rfl, by decide +kernel, by decide +kernel⟩
-- 0 value, 1 low, 2 high
abbrev s_check_layout : Stmt := topS 16
abbrev n_check_layout : List Str := ["value", "layer", "actions", "key", "action"]
theorem sc_check_layout : FnScope n_check_layout ["value"] (defScope s_check_layout) := ⟨rfl, rfl, rfl, by decide +kernel, rfl, by decide +kernel, by decide +kernel⟩
-- 0 value, 1 layer, 2 actions, 3 key, 4 action
abbrev s_has_layout_form : Stmt := topS 17
abbrev n_has_layout_form : List Str := ["value", "many", "actions"]
theorem sc_has_layout_form : FnScope n_has_layout_form ["value"] (defScope s_has_layout_form) := ⟨rfl, rfl, rfl, by decide +kernel, rfl, by decide +kernel, by decide +kernel⟩
-- 0 value, 1 many*, 2 actions*
abbrev s_can_stand : Stmt := topS 18
abbrev n_can_stand : List Str := ["action", "layer", "layer_count"]
theorem sc_can_stand : FnScope n_can_stand ["action", "layer", "layer_count"] (defScope s_can_stand) := ⟨rfl, rfl, rfl, by decide +kernel, rfl, by decide +kernel, by decide +kernel⟩
-- 0 action, 1 layer, 2 layer_count
abbrev s_is_code_action : Stmt := topS 19
abbrev n_is_code_action : List Str := ["action", "word", "code"]
theorem sc_is_code_action : FnScope n_is_code_action ["action"] (defScope s_is_code_action) := ⟨rfl, rfl, rfl, by decide +kernel, rfl, by decide +kernel, by decide +kernel⟩
-- 0 action, 1 word, 2 code
abbrev s_is_layer_action : Stmt := topS 20
abbrev n_is_layer_action : List Str := ["action", "words", "layer_count", "word", "layer"]
theorem sc_is_layer_action : FnScope n_is_layer_action ["action", "words", "layer_count"] (defScope s_is_layer_action) := ⟨rfl, rfl, rfl, by decide +kernel, rfl, by decide +kernel, by decide +kernel⟩
-- 0 action, 1 words, 2 layer_count, 3 word, 4 layer
abbrev s_is_dual_action : Stmt := topS 21
abbrev n_is_dual_action : List Str := ["action", "layer_count", "word", "tap", "hold", "time", "rule"]
theorem sc_is_dual_action : FnScope n_is_dual_action ["action", "layer_count"] (defScope s_is_dual_action) := ⟨rfl, rfl, rfl, by decide +kernel, rfl, by decide +kernel, by decide +kernel⟩
-- 0 action, 1 layer_count, 2 word, 3 tap, 4 hold, 5 time, 6 rule
abbrev s_is_hold : Stmt := topS 22
abbrev n_is_hold : List Str := ["value", "layer_count"]
theorem sc_is_hold : FnScope n_is_hold ["value", "layer_count"] (defScope s_is_hold) := ⟨rfl, rfl, rfl, by decide +kernel, rfl, by decide +kernel, by decide +kernel⟩
-- 0 value, 1 layer_count
abbrev s_is_code : Stmt := topS 23
abbrev n_is_code : List Str := ["value", "sign"]
theorem sc_is_code : FnScope n_is_code ["value"] (defScope s_is_code) := ⟨rfl, rfl, rfl, by decide +kernel, rfl, by decide +kernel, by decide +kernel⟩
-- 0 value, 1 sign*
abbrev s_is_dual : Stmt := topS 24
abbrev n_is_dual : List Str := ["action"]
theorem sc_is_dual : FnScope n_is_dual ["action"] (defScope s_is_dual) := ⟨rfl, rfl, rfl, by decide +kernel, rfl, by decide +kernel, by decide +kernel⟩
-- 0 action
abbrev s_outputs_alone : Stmt := topS 26
abbrev n_outputs_alone : List Str := ["result", "output"]
theorem sc_outputs_alone : FnScope n_outputs_alone ["result"] (defScope s_outputs_alone) := ⟨rfl, rfl, rfl, by decide +kernel, rfl, by decide +kernel, by decide +kernel⟩
-- 0 result, 1 output*
abbrev s_deciding_event : Stmt := topS 30
abbrev n_deciding_event : List Str := ["record", "at", "rule", "own", "inner", "number", "tick", "key", "way"]
theorem sc_deciding_event : FnScope n_deciding_event ["record", "at", "rule"] (defScope s_deciding_event) := ⟨rfl, rfl, rfl, by decide +kernel, rfl, by decide +kernel, by decide +kernel⟩
-- 0 record, 1 at, 2 rule, 3 own, 4 inner, 5 number, 6 tick, 7 key, 8 way
abbrev s_sure_event : Stmt := topS 31
abbrev n_sure_event : List Str := ["record", "at", "dual", "number"]
theorem sc_sure_event : FnScope n_sure_event ["record", "at", "dual"] (defScope s_sure_event) := ⟨rfl, rfl, rfl, by decide +kernel, rfl, by decide +kernel, by decide +kernel⟩
-- 0 record, 1 at, 2 dual, 3 number
abbrev s_dual_kind : Stmt := topS 32
abbrev n_dual_kind : List Str := ["record", "at", "sure"]
theorem sc_dual_kind : FnScope n_dual_kind ["record", "at", "sure"] (defScope s_dual_kind) := ⟨rfl, rfl, rfl, by decide +kernel, rfl, by decide +kernel, by decide +kernel⟩
-- 0 record, 1 at, 2 sure
abbrev s_what_is_done : Stmt := topS 33
abbrev n_what_is_done : List Str := ["action", "kind"]
theorem sc_what_is_done : FnScope n_what_is_done ["action", "kind"] (defScope s_what_is_done) := ⟨rfl, rfl, rfl, by decide +kernel, rfl, by decide +kernel, by decide +kernel⟩
-- 0 action, 1 kind
abbrev s_play : Stmt := topS 34
abbrev n_play : List Str := ["layout", "record", "player", "told", "at", "tick", "key", "way", "layer", "action", "sure", "kind", "what"]
theorem sc_play : FnScope n_play ["layout", "record"] (defScope s_play) := ⟨rfl, rfl, rfl, by decide +kernel, rfl, by decide +kernel, by decide +kernel⟩
-- 0 layout, 1 record, 2 player, 3 told, 4 at, 5 tick, 6 key, 7 way, 8 layer, 9 action, 10 sure, 11 kind, 12 what
abbrev s_check_record : Stmt := topS 37
abbrev n_check_record : List Str := ["value", "many", "held", "index", "event"]
theorem sc_check_record : FnScope n_check_record ["value", "many"] (defScope s_check_record) := ⟨rfl, rfl, rfl, by decide +kernel, rfl, by decide +kernel, by decide +kernel⟩
-- 0 value, 1 many, 2 held, 3 index, 4 event
abbrev s_is_short_list : Stmt := topS 38
abbrev n_is_short_list : List Str := ["value"]
theorem sc_is_short_list : FnScope n_is_short_list ["value"] (defScope s_is_short_list) := ⟨rfl, rfl, rfl, by decide +kernel, rfl, by decide +kernel, by decide +kernel⟩
-- 0 value
abbrev s_is_event : Stmt := topS 39
abbrev n_is_event : List Str := ["value", "tick", "key", "way"]
theorem sc_is_event : FnScope n_is_event ["value"] (defScope s_is_event) := ⟨rfl, rfl, rfl, by decide +kernel, rfl, by decide +kernel, by decide +kernel⟩
-- 0 value, 1 tick, 2 key, 3 way
abbrev s_is_step : Stmt := topS 40
abbrev n_is_step : List Str := ["value", "key", "way"]
theorem sc_is_step : FnScope n_is_step ["value"] (defScope s_is_step) := ⟨rfl, rfl, rfl, by decide +kernel, rfl, by decide +kernel, by decide +kernel⟩
-- 0 value, 1 key, 2 way
abbrev s_is_below : Stmt := topS 41
abbrev n_is_below : List Str := ["key", "many"]
theorem sc_is_below : FnScope n_is_below ["key", "many"] (defScope s_is_below) := ⟨rfl, rfl, rfl, by decide +kernel, rfl, by decide +kernel, by decide +kernel⟩
-- 0 key, 1 many
abbrev s_can_follow : Stmt := topS 42
abbrev n_can_follow : List Str := ["event", "last", "held"]
theorem sc_can_follow : FnScope n_can_follow ["event", "last", "held"] (defScope s_can_follow) := ⟨rfl, rfl, rfl, by decide +kernel, rfl, by decide +kernel, by decide +kernel⟩
-- 0 event, 1 last, 2 held
abbrev s_takes_turn : Stmt := topS 43
abbrev n_takes_turn : List Str := ["held", "key", "way", "goes_down"]
theorem sc_takes_turn : FnScope n_takes_turn ["held", "key", "way"] (defScope s_takes_turn) := ⟨rfl, rfl, rfl, by decide +kernel, rfl, by decide +kernel, by decide +kernel⟩
-- 0 held, 1 key, 2 way, 3 goes_down
abbrev s_played : Stmt := topS 45
abbrev n_played : List Str := ["layout", "record", "_", "told", "meaning", "sure", "output"]
theorem sc_played : FnScope n_played ["layout", "record"] (defScope s_played) := ⟨rfl, rfl, rfl, by decide +kernel, rfl, by decide +kernel, by decide +kernel⟩
-- 0 layout, 1 record, 2 _, 3 told, 4 meaning*, 5 sure*, 6 output*
abbrev s_flat : Stmt := topS 46
abbrev n_flat : List Str := ["layout", "record"]
theorem sc_flat : FnScope n_flat ["layout", "record"] (defScope s_flat) := ⟨rfl, rfl, rfl, by decide +kernel, rfl, by decide +kernel, by decide +kernel⟩
-- 0 layout, 1 record
abbrev s_check_playable : Stmt := topS 47
abbrev n_check_playable : List Str := ["layout", "record"]
theorem sc_check_playable : FnScope n_check_playable ["layout", "record"] (defScope s_check_playable) := ⟨rfl, rfl, rfl, by decide +kernel, rfl, by decide +kernel, by decide +kernel⟩
-- 0 layout, 1 record
abbrev s__law_reel : Stmt := topS 49
abbrev n__law_reel : List Str := ["_law_script", "_law_index", "_law_mixed", "_law_cell"]
theorem sc__law_reel : FnScope n__law_reel ["_law_script", "_law_index"] (defScope s__law_reel) := ⟨rfl, rfl, rfl, by decide +kernel, rfl, by decide +kernel, by decide +kernel⟩
-- 0 _law_script, 1 _law_index, 2 _law_mixed, 3 _law_cell
abbrev s__law_spin : Stmt := topS 50
abbrev n__law_spin : List Str := ["_law_reel_here", "_law_size", "_law_digit", "_law_wide"]
theorem sc__law_spin : FnScope n__law_spin ["_law_reel_here", "_law_size"] (defScope s__law_spin) := ⟨rfl, rfl, rfl, by decide +kernel, rfl, by decide +kernel, by decide +kernel⟩
-- 0 _law_reel_here, 1 _law_size, 2 _law_digit, 3 _law_wide
abbrev s__law_code : Stmt := topS 51
abbrev n__law_code : List Str := ["_law_reel_here", "_law_some", "_law_way", "_law_many", "_law_letters", "_law_turn"]
theorem sc__law_code : FnScope n__law_code ["_law_reel_here"] (defScope s__law_code) := ⟨rfl, rfl, rfl, by decide +kernel, rfl, by decide +kernel, by decide +kernel⟩
-- 0 _law_reel_here*, 1 _law_some, 2 _law_way, 3 _law_many, 4 _law_letters*, 5 _law_turn*
abbrev s__law_action : Stmt := topS 52
abbrev n__law_action : List Str := ["_law_reel_here", "_law_layer", "_law_layers", "_law_longest", "_law_way", "_law_hold_here", "_law_time_here"]
theorem sc__law_action : FnScope n__law_action ["_law_reel_here", "_law_layer", "_law_layers", "_law_longest"] (defScope s__law_action) := ⟨rfl, rfl, rfl, by decide +kernel, rfl, by decide +kernel, by decide +kernel⟩
-- 0 _law_reel_here, 1 _law_layer, 2 _law_layers, 3 _law_longest, 4 _law_way, 5 _law_hold_here, 6 _law_time_here
abbrev s__law_layout : Stmt := topS 53
abbrev n__law_layout : List Str := ["_law_reel_here", "_law_layers", "_law_keys", "_law_longest", "_law_found", "_law_layer", "_law_key"]
theorem sc__law_layout : FnScope n__law_layout ["_law_reel_here", "_law_layers", "_law_keys", "_law_longest"] (defScope s__law_layout) := ⟨rfl, rfl, rfl, by decide +kernel, rfl, by decide +kernel, by decide +kernel⟩
-- 0 _law_reel_here*, 1 _law_layers*, 2 _law_keys, 3 _law_longest*, 4 _law_found, 5 _law_layer*, 6 _law_key*
abbrev s__law_is_on : Stmt := topS 54
abbrev n__law_is_on : List Str := ["_law_state", "_law_layer"]
theorem sc__law_is_on : FnScope n__law_is_on ["_law_state", "_law_layer"] (defScope s__law_is_on) := ⟨rfl, rfl, rfl, by decide +kernel, rfl, by decide +kernel, by decide +kernel⟩
-- 0 _law_state, 1 _law_layer
abbrev s__law_look : Stmt := topS 55
abbrev n__law_look : List Str := ["_law_layout_here", "_law_state", "_law_key", "_law_found", "_law_layer", "_law_row"]
theorem sc__law_look : FnScope n__law_look ["_law_layout_here", "_law_state", "_law_key"] (defScope s__law_look) := ⟨rfl, rfl, rfl, by decide +kernel, rfl, by decide +kernel, by decide +kernel⟩
-- 0 _law_layout_here, 1 _law_state, 2 _law_key, 3 _law_found, 4 _law_layer, 5 _law_row
abbrev s__law_press : Stmt := topS 56
abbrev n__law_press : List Str := ["_law_state", "_law_key", "_law_what", "_law_locked", "_law_bound", "_law_word", "_law_value"]
theorem sc__law_press : FnScope n__law_press ["_law_state", "_law_key", "_law_what"] (defScope s__law_press) := ⟨rfl, rfl, rfl, by decide +kernel, rfl, by decide +kernel, by decide +kernel⟩
-- 0 _law_state, 1 _law_key, 2 _law_what, 3 _law_locked, 4 _law_bound, 5 _law_word, 6 _law_value
abbrev s__law_first_known : Stmt := topS 57
abbrev n__law_first_known : List Str := ["_law_record", "_law_row", "_law_tick", "_law_action_here", "_law_first", "_law_own", "_law_rule", "_law_later", "_law_number", "_law_at", "_law_key", "_law_way", "_law_decide", "_law_is_down", "_law_is_held"]
theorem sc__law_first_known : FnScope n__law_first_known ["_law_record", "_law_row", "_law_tick", "_law_action_here"] (defScope s__law_first_known) := ⟨rfl, rfl, rfl, by decide +kernel, rfl, by decide +kernel, by decide +kernel⟩
-- 0 _law_record, 1 _law_row, 2 _law_tick, 3 _law_action_here, 4 _law_first, 5 _law_own, 6 _law_rule, 7 _law_later, 8 _law_number, 9 _law_at, 10 _law_key, 11 _law_way, 12 _law_decide, 13 _law_is_down, 14 _law_is_held
abbrev s__law_worked : Stmt := topS 58
abbrev n__law_worked : List Str := ["_law_layout_here", "_law_record", "_law_row", "_law_state", "_law_found", "_law_tick", "_law_at", "_law_key", "_law_way", "_law_what", "_law_output", "_law_decide"]
theorem sc__law_worked : FnScope n__law_worked ["_law_layout_here", "_law_record", "_law_row", "_law_state", "_law_found", "_law_tick"] (defScope s__law_worked) := ⟨rfl, rfl, rfl, by decide +kernel, rfl, by decide +kernel, by decide +kernel⟩
-- 0 _law_layout_here, 1 _law_record, 2 _law_row, 3 _law_state, 4 _law_found, 5 _law_tick, 6 _law_at, 7 _law_key, 8 _law_way, 9 _law_what, 10 _law_output, 11 _law_decide
abbrev s__law_machine : Stmt := topS 59
abbrev n__law_machine : List Str := ["_law_layout_here", "_law_record", "_law_row", "_law_state", "_law_found", "_law_last", "_law_tick", "_law_number", "_law_event"]
theorem sc__law_machine : FnScope n__law_machine ["_law_layout_here", "_law_record"] (defScope s__law_machine) := ⟨rfl, rfl, rfl, by decide +kernel, rfl, by decide +kernel, by decide +kernel⟩
-- 0 _law_layout_here, 1 _law_record, 2 _law_row, 3 _law_state, 4 _law_found, 5 _law_last, 6 _law_tick, 7 _law_number, 8 _law_event
abbrev s__law_right : Stmt := topS 60
abbrev n__law_right : List Str := ["_law_reel_here", "_law_layout_here", "_law_keys", "_law_record", "_law_tick", "_law_place", "_law_key", "_law_found", "_law_told", "_law_number", "_law_output"]
theorem sc__law_right : FnScope n__law_right ["_law_reel_here", "_law_layout_here", "_law_keys"] (defScope s__law_right) := ⟨rfl, rfl, rfl, by decide +kernel, rfl, by decide +kernel, by decide +kernel⟩
-- 0 _law_reel_here, 1 _law_layout_here, 2 _law_keys, 3 _law_record, 4 _law_tick, 5 _law_place, 6 _law_key, 7 _law_found, 8 _law_told*, 9 _law_number*, 10 _law_output*
abbrev s_law : Stmt := topS 61
abbrev n_law : List Str := ["_law_script", "_law_index", "_law_reel_here", "_law_keys", "_law_longest", "_law_layout_here", "_law_last", "_law_turn", "_law_longer", "_law_order", "_law_key", "_law_number"]
theorem sc_law : FnScope n_law ["_law_script"] (defScope s_law) := ⟨rfl, rfl, rfl, by decide +kernel, rfl, by decide +kernel, by decide +kernel⟩
-- 0 _law_script, 1 _law_index, 2 _law_reel_here*, 3 _law_keys*, 4 _law_longest, 5 _law_layout_here*, 6 _law_last, 7 _law_turn, 8 _law_longer, 9 _law_order, 10 _law_key, 11 _law_number*
abbrev s_Player_init : Stmt := inClass (topS 29) 0
abbrev n_Player_init : List Str := ["self", "layout"]
theorem sc_Player_init : FnScope n_Player_init ["self", "layout"] (defScope s_Player_init) := ⟨rfl, rfl, rfl, by decide +kernel, rfl, by decide +kernel, by decide +kernel⟩
-- 0 self, 1 layout
abbrev s_twin : Stmt := inClass (topS 29) 1
abbrev n_twin : List Str := ["self"]
theorem sc_twin : FnScope n_twin ["self"] (defScope s_twin) := ⟨rfl, rfl, rfl, by decide +kernel, rfl, by decide +kernel, by decide +kernel⟩
-- 0 self
abbrev s_is_on : Stmt := inClass (topS 29) 2
abbrev n_is_on : List Str := ["self", "layer"]
theorem sc_is_on : FnScope n_is_on ["self", "layer"] (defScope s_is_on) := ⟨rfl, rfl, rfl, by decide +kernel, rfl, by decide +kernel, by decide +kernel⟩
-- 0 self, 1 layer
abbrev s_on_layers : Stmt := inClass (topS 29) 3
abbrev n_on_layers : List Str := ["self"]
theorem sc_on_layers : FnScope n_on_layers ["self"] (defScope s_on_layers) := ⟨rfl, rfl, rfl, by decide +kernel, rfl, by decide +kernel, by decide +kernel⟩
-- 0 self
abbrev s_down_codes : Stmt := inClass (topS 29) 4
abbrev n_down_codes : List Str := ["self"]
theorem sc_down_codes : FnScope n_down_codes ["self"] (defScope s_down_codes) := ⟨rfl, rfl, rfl, by decide +kernel, rfl, by decide +kernel, by decide +kernel⟩
-- 0 self
abbrev s_taken : Stmt := inClass (topS 29) 5
abbrev n_taken : List Str := ["self", "key", "layer", "at", "actions"]
theorem sc_taken : FnScope n_taken ["self", "key"] (defScope s_taken) := ⟨rfl, rfl, rfl, by decide +kernel, rfl, by decide +kernel, by decide +kernel⟩
-- 0 self*, 1 key*, 2 layer, 3 at*, 4 actions*
abbrev s_press : Stmt := inClass (topS 29) 6
abbrev n_press : List Str := ["self", "key", "what", "word", "about"]
theorem sc_press : FnScope n_press ["self", "key", "what"] (defScope s_press) := ⟨rfl, rfl, rfl, by decide +kernel, rfl, by decide +kernel, by decide +kernel⟩
-- 0 self, 1 key, 2 what, 3 word, 4 about
abbrev s_release : Stmt := inClass (topS 29) 7
abbrev n_release : List Str := ["self", "key", "word", "about"]
theorem sc_release : FnScope n_release ["self", "key"] (defScope s_release) := ⟨rfl, rfl, rfl, by decide +kernel, rfl, by decide +kernel, by decide +kernel⟩
-- 0 self, 1 key, 2 word, 3 about

/-! ### the reel -/
def Reel (H : Hp) (r : Addr) (n : Nat) : Prop := ∃ x y z : Int, H r = some (.lst [.int x, .int y, .int z]) ∧ 0 ≤ x ∧ 0 ≤ y ∧ y < 10 ^ 42 ∧ 0 ≤ z ∧ z ≤ (n : Int)
theorem Reel.mono {H : Hp} {r : Addr} {n m : Nat} (h : Reel H r n) (l : n ≤ m) : Reel H r m := by
  obtain ⟨x, y, z, a, b, c, d, e, f⟩ := h
  exact ⟨x, y, z, a, b, c, d, e, by omega⟩
theorem Reel.same {H H' : Hp} {r : Addr} {n : Nat} (h : Reel H r n) (l : Same H H') : Reel H' r n := by
  obtain ⟨x, y, z, a, b⟩ := h
  exact ⟨x, y, z, l _ _ a, b⟩
theorem Reel.upd {H : Hp} {r b : Addr} {n : Nat} {o : HO} (h : Reel H r n) (ne : b ≠ r) : Reel (upd H b o) r n := by
  obtain ⟨x, y, z, g, g'⟩ := h
  exact ⟨x, y, z, by rw [upd_ne ne.symm]; exact g, g'⟩
theorem Reel.new {H : Hp} {r b : Addr} {n : Nat} (h : Reel H r n) (nb : H b = none) : b ≠ r := by
  obtain ⟨_, _, _, hr, _⟩ := h
  exact (ne_of_none hr nb).symm
theorem Reel.free {H H1 : Hp} {r b : Addr} {n : Nat} (o : Off r H H1) (h : Reel H1 r n) (nb : H1 b = none) : H b = none := by
  obtain ⟨_, _, _, hr, _⟩ := h
  exact o.free hr nb
theorem Reel.lst {α : Type} {f : α → List V} {H H' : Hp} {r c : Addr} {n : Nat} {es : List α} (h : Reel H r n) (hl : Lst f H c es) (ne : c ≠ r) (o : Off r H H') : Lst f H' c es := by
  obtain ⟨_, _, _, hr, _⟩ := h
  exact hl.off hr ne o
theorem Reel.tk {H H' : Hp} {r : Addr} {n : Nat} (h : Reel H r n) (o : Off r H H') : Tk H H' := fun b xs e => o _ _ e (by
  obtain ⟨x, y, z, hr, _⟩ := h
  exact ne_of e hr (by intro q; cases q))
/-- the draws so far are fewer than this -/
abbrev most : Nat := 1000000000
def spSpin : Sp := fun vs H Q _ => ∃ (r : Addr) (m : Int) (n : Nat), vs = [.ref r, .int m] ∧ 0 < m ∧ m < 10 ^ 40 ∧ n < most ∧ Reel H r n ∧
  ∀ d H', 0 ≤ d → d < m → Reel H' r (n + 1) → Off r H H' → Q (.int d) H'
structure Bt (mg : Str → Option Value) : Prop where
  m_len : mg "len" = none
  m_abs : mg "abs" = none
  m_max : mg "max" = none
  m_min : mg "min" = none
  m_sum : mg "sum" = none
  m_repr : mg "repr" = none
  m_isinstance : mg "isinstance" = none
  m_all : mg "all" = none
  m_list : mg "list" = none
  m_tuple : mg "tuple" = none
  m_int : mg "int" = none
  m_bool : mg "bool" = none
  m_str : mg "str" = none
  m_range : mg "range" = none
  m_enumerate : mg "enumerate" = none
  m_sorted : mg "sorted" = none
  m_zip : mg "zip" = none
  m_set : mg "set" = none
section
variable {P : Program} {w : World} {K : PySem.W.Frag} {mg : Str → Option Value} {base : Heap}
theorem p43 : (10 : Int) ^ (43 : Int).toNat + 57 = 10 ^ 43 + 57 := rfl
theorem ok__law_spin (a : At K mg "_law_spin" s__law_spin ["_law_reel_here", "_law_size"]) : Cl P w K mg base 1 "_law_spin" spSpin := by
  refine clG a sc__law_spin (fun vs H Q E h => ?_) (fun f cdv A outer s H vs Q hg hr h => ?_)
  · obtain ⟨r, m, n, rfl, _⟩ := h
    rfl
  · obtain ⟨r, m, n, rfl, hm, hm2, hn0, ⟨x, y, z, hR, hx, hy, hy2, hz, hz2⟩, q⟩ := h
    have hn : n < 1000000000 := hn0
    refine ⟨_, (pss_cons (ps_if (pt_cmpR op_gt (pe_ix ix_list (pv 0) pe_int (fun _ _ => rfl)) pe_int (nomark _)) (pss_cons (ps_set (i := 2) sc__law_spin.nd rfl (Or.inl rfl) (pe_op op_mod (pe_ix ix_list (pv 0) pe_int (fun _ _ => rfl)) (pv 1)))
      (pss_cons (ps_asg (pe_op op_fdivW (pe_ix ix_list (pv 0) pe_int (fun _ _ => rfl)) (pv 1)) (pg_sub (pv 0) pe_int set_list))
      (pss_one (ps_ret (pv 2))))) pss_nil)
      (pss_cons (ps_asg (pe_op op_add (pe_ix ix_list (pv 0) pe_int (fun _ _ => rfl)) pe_int) (pg_sub (pv 0) pe_int set_list))
      (pss_cons (ps_set (i := 3) sc__law_spin.nd rfl (Or.inl rfl) (pe_op op_mod (pe_op op_powW (pe_op op_add (pe_ix ix_list (pv 0) pe_int (fun _ _ => rfl)) (pe_op op_mulW pe_int (pe_ix ix_list (pv 0) pe_int (fun _ _ => rfl)))) pe_int) (pe_op op_add (pe_op op_powW pe_int pe_int) pe_int)))
      (pss_cons (ps_set (i := 3) sc__law_spin.nd rfl (Or.inl rfl) (pe_op op_mod (pe_op op_powW (pe_op op_add (pv 3) (pe_op op_mulW pe_int (pe_ix ix_list (pv 0) pe_int (fun _ _ => rfl)))) pe_int) (pe_op op_add (pe_op op_powW pe_int pe_int) pe_int)))
      (pss_one (ps_ret (pe_op op_mod (pe_op op_fdivW (pv 3) pe_int) (pv 1)))))))), ?_⟩
    refine ⟨_, rfl, r, _, 0, _, rfl, rfl, SqL.of hR, atI_nat (j := 0) rfl, ?_⟩
    refine ⟨_, _, rfl, rfl, _, rfl, ite2 (fun e => ?_) (fun e => ?_)⟩
    · -- a digit of the great number
      have e0 : 0 < x := of_decide_eq_true e
      refine ⟨_, rfl, r, _, 0, _, rfl, rfl, SqL.of hR, atI_nat (j := 0) rfl, _, rfl, _, _, rfl, rfl, hm, ?_⟩
      refine ⟨_, rfl, r, _, 0, _, rfl, rfl, SqL.of hR, atI_nat (j := 0) rfl, _, rfl, _, _, rfl, rfl, wide_div (b := 140) hm (by omega) (by decide) (by decide), ?_⟩
      refine ⟨_, rfl, r, _, 0, 0, rfl, rfl, hR, rfl, ?_⟩
      refine ⟨_, rfl, q _ _ (Int.emod_nonneg _ (by omega)) (Int.emod_lt_of_pos _ hm) ⟨x / m, y, z, upd_same, Int.ediv_nonneg hx (by omega), hy, hy2, hz, by omega⟩ off_upd⟩
    · refine ⟨_, rfl, r, _, 2, _, rfl, rfl, SqL.of hR, atI_nat (j := 2) rfl, _, _, rfl, rfl, ?_⟩
      refine ⟨_, rfl, r, _, 2, 2, rfl, rfl, hR, rfl, ?_⟩
      have hR1 : upd H r (.lst [.int x, .int y, .int (z + 1)]) r = some (.lst [.int x, .int y, .int (z + 1)]) := upd_same
      refine ⟨_, rfl, r, _, 1, _, rfl, rfl, SqL.of hR1, atI_nat (j := 1) rfl, ?_⟩
      refine ⟨_, rfl, r, _, 2, _, rfl, rfl, SqL.of hR1, atI_nat (j := 2) rfl, ?_⟩
      have b1 : (z + 1).natAbs < 2 ^ 40 := by omega
      have b2 : (49979687 * (z + 1)).natAbs < 2 ^ 80 := by omega
      refine ⟨_, _, rfl, rfl, wide_mul (a := 40) (b := 40) (by decide) b1 (by decide) (by decide) (by decide), ?_⟩
      refine ⟨_, _, rfl, rfl, ?_⟩
      have b3 : (y + 49979687 * (z + 1)).natAbs < 2 ^ 150 := by omega
      refine ⟨_, _, rfl, rfl, powW (n := 150) (k := 3) b3 (by decide), ?_⟩
      refine ⟨_, _, rfl, rfl, powW (n := 40) (k := 43) (by decide) (by decide), ?_⟩
      refine ⟨_, _, rfl, rfl, _, _, rfl, rfl, (show (0 : Int) < 10 ^ 43 + 57 by decide), ?_⟩
      have c1 : 0 ≤ (y + 49979687 * (z + 1)) ^ 3 % (10 ^ 43 + 57) := Int.emod_nonneg _ (by decide)
      have c2 : (y + 49979687 * (z + 1)) ^ 3 % (10 ^ 43 + 57) < 10 ^ 43 + 57 := Int.emod_lt_of_pos _ (by decide)
      generalize hu : (y + 49979687 * (z + 1)) ^ 3 % (10 ^ 43 + 57) = u at c1 c2
      refine ⟨.int u, congrArg (fun v => some (some (V.int v))) hu, ?_⟩
      refine ⟨_, rfl, r, _, 2, _, rfl, rfl, SqL.of hR1, atI_nat (j := 2) rfl, ?_⟩
      have b4 : (22801763 * (z + 1)).natAbs < 2 ^ 80 := by omega
      refine ⟨_, _, rfl, rfl, wide_mul (a := 40) (b := 40) (by decide) b1 (by decide) (by decide) (by decide), ?_⟩
      have b5 : (u + 22801763 * (z + 1)).natAbs < 2 ^ 150 := by omega
      refine ⟨_, _, rfl, rfl, _, _, rfl, rfl, powW (n := 150) (k := 5) b5 (by decide), ?_⟩
      refine ⟨_, _, rfl, rfl, powW (n := 40) (k := 40) (by decide) (by decide), ?_⟩
      refine ⟨_, _, rfl, rfl, _, _, rfl, rfl, (show (0 : Int) < 10 ^ 40 + 121 by decide), ?_⟩
      refine ⟨_, rfl, _, _, rfl, rfl, wide_div (b := 40) (by decide) (by decide) (by decide) (by decide), ?_⟩
      refine ⟨_, rfl, _, _, rfl, rfl, hm, ?_⟩
      exact q _ _ (Int.emod_nonneg _ (by omega)) (Int.emod_lt_of_pos _ hm) ⟨x, y, z + 1, upd_same, hx, hy, hy2, by omega, by omega⟩ off_upd
def spReel (K : PySem.W.Frag) : Sp := fun vs H Q _ => ∃ (s : Addr) (ns : List Int) (i : Nat), vs = [.ref s, .int (i : Int)] ∧ SqL K H s (ns.map V.int) ∧ ns.length ≤ 63 ∧ i < 100 ∧
  ∀ r H', Same H H' → H r = none → Reel H' r 0 → Q (.ref r) H'
theorem ok__law_reel (bt : Bt mg) (a : At K mg "_law_reel" s__law_reel ["_law_script", "_law_index"]) : Cl P w K mg base 1 "_law_reel" (spReel K) := by
  refine clG a sc__law_reel (fun vs H Q E h => ?_) (fun f cdv A outer s H vs Q hg hr h => ?_)
  · obtain ⟨r, m, n, rfl, _⟩ := h
    rfl
  · obtain ⟨sc, ns, i, rfl, hS, hl, hi, q⟩ := h
    refine ⟨_, (pss_cons (ps_set (i := 2) sc__law_reel.nd rfl (Or.inl rfl) (pe_op op_add pe_int (pe_op op_mulW pe_int (pv 1))))
      (pss_cons (ps_for PassesOwn.never rfl (pi_list (pv 0)) (pg_name (i := 3) sc__law_reel.nd rfl (Or.inl rfl)) (pss_one (ps_set (i := 2) sc__law_reel.nd rfl (Or.inl rfl) (pe_op op_mod (pe_op op_add (pe_op op_mulW (pv 2) pe_int) (pe_op op_mod (pv 3) (pe_op op_add (pe_op op_powW pe_int pe_int) pe_int))) (pe_op op_add (pe_op op_powW pe_int pe_int) pe_int)))))
      (pss_cons (ps_set (i := 3) sc__law_reel.nd rfl (Or.inl rfl) (pe_ifExp (pt_cmpR op_lt (pv 1) (pe_callB call_len_seq (by rfl) bt.m_len (by decide +kernel) (pa_cons (pv 0) pa_nil)) (nomark _)) (pe_callB call_abs (by rfl) bt.m_abs (by decide +kernel) (pa_cons (pe_ix ix_list (pv 0) (pv 1) (fun _ _ => rfl)) pa_nil)) pe_int))
      (pss_one (ps_ret (pe_lst (pa_cons (pe_callB (call_max2 rfl) (by rfl) bt.m_max (by decide +kernel) (pa_cons pe_int (pa_cons (pe_op op_sub (pv 3) (pe_op op_powW pe_int pe_int)) pa_nil))) (pa_cons (pv 2) (pa_cons pe_int pa_nil))))))))), ?_⟩
    -- mixed = 60013 + 53 * index
    refine ⟨_, rfl, _, _, rfl, rfl, wide_mul (a := 40) (b := 40) (by decide) (by omega) (by decide) (by decide) (by decide), _, _, rfl, rfl, ?_⟩
    refine ⟨_, rfl, sc, rfl, ⟨_, hS⟩, for_it (walk_list (xs := ns.map V.int)) (fun _ σ H' => H' = H ∧ ∃ m y3, σ = [some (.ref sc), some (.int (i : Int)), some (.int m), y3] ∧ 0 ≤ m ∧ m < 10 ^ 42)
      ⟨rfl, _, _, rfl, by omega, by omega⟩ (fun _ _ H' _ p => by obtain ⟨rfl, _⟩ := p; exact hS) (fun j x σ H1 H2 hj p y => ?_) (fun σ H1 p => ?_)⟩
    · obtain ⟨rfl, m, y3, rfl, m0, m1⟩ := p
      obtain ⟨rfl, hx⟩ := y
      obtain ⟨c, hc, rfl⟩ : ∃ c, ns[j]? = some c ∧ V.int c = x := by
        rw [List.getElem?_map] at hx
        cases e : ns[j]? with
        | none => rw [e] at hx; cases hx
        | some c => rw [e] at hx; exact ⟨c, rfl, Option.some.inj hx⟩
      have b1 : m.natAbs < 2 ^ 140 := by omega
      refine ⟨_, rfl, _, _, rfl, rfl, wide_mul (a := 140) (b := 40) b1 (by decide) (by decide) (by decide) (by decide), ?_⟩
      refine ⟨_, rfl, _, _, rfl, rfl, powW (n := 40) (k := 43) (by decide) (by decide), _, _, rfl, rfl, ?_⟩
      refine ⟨_, _, rfl, rfl, (show (0 : Int) < 10 ^ 43 + 57 by decide), _, _, rfl, rfl, _, _, rfl, rfl, powW (n := 40) (k := 41) (by decide) (by decide), ?_⟩
      refine ⟨_, _, rfl, rfl, _, _, rfl, rfl, (show (0 : Int) < 10 ^ 41 + 37 by decide), ?_⟩
      have c1 := Int.emod_nonneg (m * 8675311 + c % (10 ^ 43 + 57)) (b := 10 ^ 41 + 37) (by decide)
      have c2 := Int.emod_lt_of_pos (m * 8675311 + c % (10 ^ 43 + 57)) (b := 10 ^ 41 + 37) (by decide)
      refine ⟨rfl, _, _, rfl, c1, ?_⟩
      exact Int.lt_trans c2 (by decide)
    · obtain ⟨rfl, m, y3, rfl, m0, m1⟩ := p
      refine ⟨_, rfl, .ref sc, rfl, sc, _, rfl, .inl hS, _, _, rfl, rfl, _, rfl, ite2 (fun e => ?_) (fun e => ?_)⟩
      · have e0 : (i : Int) < ((ns.map V.int).length : Nat) := of_decide_eq_true e
        rw [List.length_map] at e0
        have hlt : i < ns.length := by omega
        have g : (ns.map V.int)[i]? = some (.int ns[i]) := by
          rw [List.getElem?_map, List.getElem?_eq_getElem hlt]; rfl
        refine ⟨_, rfl, _, rfl, sc, _, (i : Int), _, rfl, rfl, hS, atI_nat g, _, rfl, ?_⟩
        refine ⟨_, rfl, _, _, rfl, rfl, powW (n := 40) (k := 18) (by decide) (by decide), _, _, rfl, rfl, _, _, rfl, .int m, rfl, (by show 3 ≤ sizeLine; decide), fun p np => ?_⟩
        exact q p _ (same_upd np) np ⟨_, m, 0, upd_same, by split <;> omega, m0, m1, by decide, by decide⟩
      · refine ⟨_, rfl, _, _, rfl, rfl, powW (n := 40) (k := 18) (by decide) (by decide), _, _, rfl, rfl, _, _, rfl, .int m, rfl, (by show 3 ≤ sizeLine; decide), fun p np => ?_⟩
        exact q p _ (same_upd np) np ⟨_, m, 0, upd_same, by split <;> omega, m0, m1, by decide, by decide⟩
end
end K74

set_option Elab.async false
set_option linter.all false
set_option maxRecDepth 100000
set_option maxHeartbeats 4000000
namespace K74
open PySem PySem.Spec PyProof.Rows L2 Gd Rm La Cb
def rLenB (K : PySem.W.Frag) : List V → Hp → VK → Prop := fun xs H Q => ∃ p ys, xs = [.ref p] ∧ (SqL K H p ys ∨ SqT K H p ys) ∧ Q (.int ys.length) H
def rListOf (K : PySem.W.Frag) : List V → Hp → VK → Prop := fun xs H Q => ∃ p ys, xs = [.ref p] ∧ (SqL K H p ys ∨ SqT K H p ys) ∧ ∀ l, H l = none → Q (.ref l) (upd H l (.lst ys))
theorem ixN_nat {n j : Nat} (hj : j < n) : ixN n (j : Int) = some j := by unfold ixN; rw [if_pos (by omega), if_pos (by omega), Int.toNat_natCast]
theorem get_map_ref {as : List Addr} {i : Nat} {b : Addr} (h : as[i]? = some b) : (as.map V.ref)[i]? = some (.ref b) := by rw [List.getElem?_map, h]; rfl
theorem get_map_int {ns : List Int} {i : Nat} {b : Int} (h : ns[i]? = some b) : (ns.map V.int)[i]? = some (.int b) := by rw [List.getElem?_map, h]; rfl
theorem cutTake {xs : List V} {k : Nat} : cutV xs none (some (k : Int)) = xs.take k := by
  unfold cutV
  rw [HT.sIx_none, HT.sIx_nat, List.drop_zero, Nat.sub_zero]
  rcases Nat.le_total k xs.length with h | h
  · rw [Nat.min_eq_left h]
  · rw [Nat.min_eq_right h, List.take_of_length_le (Nat.le_refl _), List.take_of_length_le h]
theorem cutDrop {xs : List V} {k : Nat} (h1 : k ≤ xs.length) : cutV xs (some (k : Int)) none = xs.drop k := by
  unfold cutV
  rw [HT.sIx_none, HT.sIx_nat, Nat.min_eq_left h1]
  exact List.take_of_length_le (by rw [List.length_drop]; omega)
theorem allTrue (n : Nat) : (List.replicate n true).all id = true := by simp
theorem small400 {n : Nat} (h : n ≤ 1000) : n ≤ sizeLine := Nat.le_of_lt (small1000 h)
section
variable {P : Program} {w : World} {K : PySem.W.Frag} {mg : Str → Option Value} {base : Heap}
def spInt : Sp := fun vs H Q _ => ∃ i : Int, vs = [.int i] ∧ Q (.bl true) H
theorem ok_is_an_integer (bt : Bt mg) (a : At K mg "is_an_integer" s_is_an_integer ["value"]) : Cl P w K mg base 1 "is_an_integer" spInt := by
  refine clG a sc_is_an_integer (fun vs H Q E h => ?_) (fun f cdv A outer s H vs Q hg hr h => ?_)
  · obtain ⟨i, rfl, _⟩ := h
    rfl
  · obtain ⟨i, rfl, q⟩ := h
    refine ⟨_, (pss_one (ps_ret (pe_and (pe_callB call_isi (by rfl) bt.m_isinstance (by decide +kernel) (pa_cons (pv 0) (pa_cons (pe_bltn (v := .ty "int") (by rfl) bt.m_int (by decide +kernel) rfl) pa_nil))) (pe_one (pe_not (pe_callB call_isi (by rfl) bt.m_isinstance (by decide +kernel) (pa_cons (pv 0) (pa_cons (pe_bltn (v := .ty "bool") (by rfl) bt.m_bool (by decide +kernel) rfl) pa_nil)))))))), ?_⟩
    refine ⟨_, rfl, _, _, _, _, true, rfl, .ty "int", .base (.int i), kit_ty (by decide +kernel), _, rfl, iteT ?_⟩
    exact ⟨_, rfl, _, _, _, _, false, rfl, .ty "bool", .base (.int i), kit_ty (by decide +kernel), _, rfl, q⟩
def spBet : Sp := fun vs H Q _ => ∃ i l u : Int, vs = [.int i, .int l, .int u] ∧ l ≤ i ∧ i ≤ u ∧ Q (.bl true) H
theorem ok_is_between (bt : Bt mg) (a : At K mg "is_between" s_is_between ["value", "low", "high"]) (c_is_an_integer : Cl P w K mg base 1 "is_an_integer" spInt) : Cl P w K mg base 2 "is_between" spBet := by
  refine clG a sc_is_between (fun vs H Q E h => ?_) (fun f cdv A outer s H vs Q hg hr h => ?_)
  · obtain ⟨i, l, u, rfl, _⟩ := h
    rfl
  · obtain ⟨i, l, u, rfl, h1, h2, q⟩ := h
    refine ⟨_, (pss_one (ps_ret (pe_and (pe_cl c_is_an_integer hg hr (by decide) (by rfl) (pa_cons (pv 0) pa_nil)) (pe_one (pe_chain op_le op_le (pv 1) (pv 0) (pv 2)))))), ?_⟩
    refine ⟨_, rfl, _, rfl, _, rfl, iteT ?_⟩
    refine ⟨_, rfl, _, rfl, _, _, rfl, rfl, true, congrArg V.bl (decide_eq_true h1), iteT ⟨_, rfl, _, _, rfl, rfl, ?_⟩⟩
    show Q (.bl (decide (i ≤ u))) H
    rw [decide_eq_true h2]
    exact q
def spCode : Sp := fun vs H Q _ => ∃ c : Str, vs = [.str c] ∧ CodeOk c ∧ ∀ H', Same H H' → Q (.bl true) H'
theorem ok_is_code (bt : Bt mg) {tk1 tk2 : Tok} (m_MOST_SIGNS : mg "MOST_SIGNS" = some (.int 8 tk1)) (m_CODE_SIGNS : mg "CODE_SIGNS" = some (.str "abcdefghijklmnopqrstuvwxyz0123456789" tk2)) (a : At K mg "is_code" s_is_code ["value"]) : Cl P w K mg base 1 "is_code" spCode := by
  refine clG a sc_is_code (fun vs H Q E h => ?_) (fun f cdv A outer s H vs Q hg hr h => ?_)
  · obtain ⟨i, rfl, _⟩ := h
    rfl
  · obtain ⟨c, rfl, hc, q⟩ := h
    refine ⟨_, (pss_cons (ps_if (PW.pt (pw_or (pt_not (pt_val (pe_callB call_isi (by rfl) bt.m_isinstance (by decide +kernel) (pa_cons (pv 0) (pa_cons (pe_bltn (v := .ty "str") (by rfl) bt.m_str (by decide +kernel) rfl) pa_nil))))) (pw_or1 (pt_not (pt_chain op_le op_le pe_int (pe_callB call_len_str (by rfl) bt.m_len (by decide +kernel) (pa_cons (pv 0) pa_nil)) (pe_glob (v := .int 8) (by rfl) m_MOST_SIGNS ⟨_, rfl⟩)))))) (pss_one (ps_ret pe_bl)) pss_nil)
      (pss_one (ps_ret (pe_callB (cr_all rfl) (by rfl) bt.m_all (by decide +kernel) (pa_cons (pe_lc (own := [("sign", 1)]) (g := (gName 1)) (by rfl) sc_is_code.nd (pi_str (pv 0)) (blkOk_by (N := n_is_code) (sc := defScope s_is_code) (by decide +kernel)) (fun _ _ _ _ _ => (pg_name (i := 1) sc_is_code.nd rfl (Or.inl rfl))) (fun _ _ _ _ _ => pts_nil) (fun _ _ _ _ _ => (pe_cmpR op_in_sign (pv 1) (pe_glob (v := .str "abcdefghijklmnopqrstuvwxyz0123456789") (by rfl) m_CODE_SIGNS ⟨_, rfl⟩) rfl))) pa_nil))))), ?_⟩
    have e1 : (c.length : Int) = (c.cps.size : Int) := rfl
    have h1 := hc.1
    have h8 := hc.2.1
    refine ⟨_, rfl, _, _, _, _, true, rfl, .ty "str", .base (.str _), kit_ty (by decide +kernel), _, rfl, iteF ?_⟩
    refine ⟨_, rfl, c, rfl, (by rw [sizeLine_eq]; have : c.length = c.cps.size := rfl; omega), _, _, rfl, rfl, true, congrArg V.bl (decide_eq_true (by omega)), iteT ⟨_, _, rfl, rfl, true, congrArg V.bl (decide_eq_true (by omega)), ?_⟩⟩
    refine iteF ⟨_, rfl, c, rfl, fun L nL => lc_it (walk_str (z := c)) (fun i H' => H' = upd H L (.lst ((List.replicate i true).map V.bl))) rfl (fun _ _ _ _ => True.intro) (fun i x H2 H3 hi p y => ?_) (fun H2 p => ?_)⟩
    · obtain ⟨rfl, d, hd, rfl⟩ := y
      subst p
      have hm : d ∈ signs.cps.toList := hc.2.2 d (by rw [Array.mem_toList_iff]; exact Array.mem_of_getElem? hd)
      refine ⟨rfl, ⟨_, rfl, d, signs, rfl, rfl, _, upd_same, ?_, ?_⟩⟩
      · rw [List.length_map, List.length_replicate]; exact small1000 (by omega)
      · show upd (upd H L _) L (.lst (_ ++ [V.bl (decide (d ∈ signs.cps.toList))])) = _
        rw [decide_eq_true hm, upd_upd, List.replicate_succ', List.map_append]; rfl
    · subst p
      refine ⟨L, _, rfl, SqL.of upd_same, ?_⟩
      rw [allTrue]
      exact q _ (same_upd nL)
def spCA : Sp := fun vs H Q _ => ∃ (a : Addr) (w : Str) (y : V), vs = [.ref a] ∧ H a = some (.tup [.str w, y]) ∧ ((w = ("code" : String) ∧ ∃ c, y = .str c ∧ CodeOk c ∧ ∀ H', Same H H' → Q (.bl true) H') ∨ (w ≠ (("code" : String) : Str) ∧ Q (.bl false) H))
theorem ok_is_code_action (bt : Bt mg) (a : At K mg "is_code_action" s_is_code_action ["action"]) (c_is_code : Cl P w K mg base 1 "is_code" spCode) : Cl P w K mg base 2 "is_code_action" spCA := by
  refine clG a sc_is_code_action (fun vs H Q E h => ?_) (fun f cdv A outer s H vs Q hg hr h => ?_)
  · obtain ⟨a, w, y, rfl, _⟩ := h
    rfl
  · obtain ⟨a, w, y, rfl, ha, h⟩ := h
    refine ⟨_, (pss_cons (ps_asg (pv 0) (pg_tup rfl (pgs_cons (pg_name (i := 1) sc_is_code_action.nd rfl (Or.inl rfl)) (pgs_cons (pg_name (i := 2) sc_is_code_action.nd rfl (Or.inl rfl)) pgs_nil))))
      (pss_one (ps_ret (pe_and (pe_callB call_isi (by rfl) bt.m_isinstance (by decide +kernel) (pa_cons (pv 1) (pa_cons (pe_bltn (v := .ty "str") (by rfl) bt.m_str (by decide +kernel) rfl) pa_nil))) (pe_and (pe_cmpR op_eq (pv 1) pe_str (nomark _)) (pe_one (pe_cl c_is_code hg hr (by decide) (by rfl) (pa_cons (pv 2) pa_nil)))))))), ?_⟩
    refine ⟨_, rfl, a, _, rfl, SqT.of ha, rfl, _, _, rfl, _, _, rfl, rfl, ?_⟩
    refine ⟨_, rfl, _, _, _, _, true, rfl, .ty "str", .base (.str _), kit_ty (by decide +kernel), _, rfl, iteT ?_⟩
    rcases h with ⟨rfl, c, rfl, hc, q⟩ | ⟨hn, q⟩
    · exact ⟨_, rfl, rfl, true, rfl, iteT ⟨_, rfl, c, rfl, hc, q⟩⟩
    · refine ⟨_, rfl, rfl, false, ?_, iteF q⟩
      exact congrArg V.bl (decide_eq_false fun z => hn (V.str.inj z))
def spLA (K : PySem.W.Frag) : Sp := fun vs H Q _ => ∃ (a g : Addr) (w : Str) (ws : List Str) (j n : Int), vs = [.ref a, .ref g, .int n] ∧ H a = some (.tup [.str w, .int j]) ∧ SqT K H g (ws.map V.str) ∧ w ∈ ws ∧ 1 ≤ j ∧ j ≤ n - 1 ∧ Q (.bl true) H
theorem flat_strs : ∀ ns : List Str, (ns.map V.str).all flatV = true
  | [] => rfl
  | n :: ns => by
    show (flatV (.str n) && (ns.map V.str).all flatV) = true
    rw [flat_strs ns]
    rfl
theorem ok_is_layer_action (bt : Bt mg) (a : At K mg "is_layer_action" s_is_layer_action ["action", "words", "layer_count"]) (c_is_between : Cl P w K mg base 2 "is_between" spBet) : Cl P w K mg base 3 "is_layer_action" (spLA K) := by
  refine clG a sc_is_layer_action (fun vs H Q E h => ?_) (fun f cdv A outer s H vs Q hg hr h => ?_)
  · obtain ⟨a, g, w, ws, j, n, rfl, _⟩ := h
    rfl
  · obtain ⟨a, g, w, ws, j, n, rfl, ha, hw, hm, h1, h2, q⟩ := h
    refine ⟨_, (pss_cons (ps_asg (pv 0) (pg_tup rfl (pgs_cons (pg_name (i := 3) sc_is_layer_action.nd rfl (Or.inl rfl)) (pgs_cons (pg_name (i := 4) sc_is_layer_action.nd rfl (Or.inl rfl)) pgs_nil))))
      (pss_one (ps_ret (pe_and (pe_callB call_isi (by rfl) bt.m_isinstance (by decide +kernel) (pa_cons (pv 3) (pa_cons (pe_bltn (v := .ty "str") (by rfl) bt.m_str (by decide +kernel) rfl) pa_nil))) (pe_and (pe_cmpR op_in_seq (pv 3) (pv 1) (by rfl)) (pe_one (pe_cl c_is_between hg hr (by decide) (by rfl) (pa_cons (pv 4) (pa_cons pe_int (pa_cons (pe_op op_sub (pv 2) pe_int) pa_nil)))))))))), ?_⟩
    refine ⟨_, rfl, a, _, rfl, SqT.of ha, rfl, _, _, rfl, _, _, rfl, rfl, ?_⟩
    refine ⟨_, rfl, _, _, _, _, true, rfl, .ty "str", .base (.str _), kit_ty (by decide +kernel), _, rfl, iteT ?_⟩
    refine ⟨_, rfl, _, rfl, g, _, rfl, .inr hw, rfl, flat_strs ws, true, ?_, iteT ?_⟩
    · show V.bl (inV (.str w) (ws.map V.str)) = _
      rw [inv_str, decide_eq_true hm]
    · exact ⟨_, rfl, _, rfl, _, _, rfl, rfl, j, 1, n - 1, rfl, h1, h2, q⟩
def spHold : Sp := fun vs H Q _ => ∃ (a : Addr) (n : Int), vs = [.ref a, .int n] ∧ ((∃ c, H a = some (.tup [.str "code", .str c]) ∧ CodeOk c) ∨ (∃ j, H a = some (.tup [.str "layer", .int j]) ∧ 1 ≤ j ∧ j ≤ n - 1)) ∧ ∀ H', Same H H' → Q (.bl true) H'
theorem ok_is_hold (bt : Bt mg) (a : At K mg "is_hold" s_is_hold ["value", "layer_count"]) (c_is_code_action : Cl P w K mg base 2 "is_code_action" spCA) (c_is_layer_action : Cl P w K mg base 3 "is_layer_action" (spLA K)) : Cl P w K mg base 4 "is_hold" spHold := by
  refine clG a sc_is_hold (fun vs H Q E h => ?_) (fun f cdv A outer s H vs Q hg hr h => ?_)
  · obtain ⟨a, n, rfl, _⟩ := h
    rfl
  · obtain ⟨a, n, rfl, h, q⟩ := h
    refine ⟨_, (pss_cons (ps_if (PW.pt (pw_or (pt_not (pt_val (pe_callB call_isi (by rfl) bt.m_isinstance (by decide +kernel) (pa_cons (pv 0) (pa_cons (pe_bltn (v := .ty "tuple") (by rfl) bt.m_tuple (by decide +kernel) rfl) pa_nil))))) (pw_or1 (pt_cmpR op_ne (pe_callB call_len_seq (by rfl) bt.m_len (by decide +kernel) (pa_cons (pv 0) pa_nil)) pe_int (nomark _))))) (pss_one (ps_ret pe_bl)) pss_nil)
      (pss_one (ps_ret (pe_or (pe_cl c_is_code_action hg hr (by decide) (by rfl) (pa_cons (pv 0) pa_nil)) (pe_one (pe_cl c_is_layer_action hg hr (by decide) (by rfl) (pa_cons (pv 0) (pa_cons (pe_tup (pa_cons pe_str pa_nil)) (pa_cons (pv 1) pa_nil))))))))), ?_⟩
    rcases h with ⟨c, ha, hc⟩ | ⟨j, ha, h1, h2⟩
    · refine ⟨_, rfl, _, _, _, _, true, rfl, .ty "tuple", .base (.tup ha), kit_ty (by decide +kernel), _, rfl, iteF ?_⟩
      refine ⟨_, rfl, a, _, rfl, .inr (SqT.of ha), rfl, _, rfl, iteF ?_⟩
      exact ⟨_, rfl, a, _, _, rfl, ha, .inl ⟨rfl, c, rfl, hc, fun H' s' => ⟨true, rfl, iteT (q H' s')⟩⟩⟩
    · refine ⟨_, rfl, _, _, _, _, true, rfl, .ty "tuple", .base (.tup ha), kit_ty (by decide +kernel), _, rfl, iteF ?_⟩
      refine ⟨_, rfl, a, _, rfl, .inr (SqT.of ha), rfl, _, rfl, iteF ?_⟩
      refine ⟨_, rfl, a, _, _, rfl, ha, .inr ⟨by decide +kernel, false, rfl, iteF ?_⟩⟩
      refine ⟨_, rfl, (by show 1 ≤ sizeLine; decide), fun p np => ?_⟩
      exact ⟨_, rfl, a, p, _, ["layer"], j, n, rfl, (same_upd np) _ _ ha, SqT.of upd_same, List.mem_singleton.mpr rfl, h1, h2, q _ (same_upd np)⟩
end
end K74

set_option Elab.async false
set_option linter.all false
set_option maxRecDepth 100000
set_option maxHeartbeats 4000000
namespace K74
open PySem PySem.Spec PyProof.Rows L2 Gd Rm La Cb
section
variable {P : Program} {w : World} {K : PySem.W.Frag} {mg : Str → Option Value} {base : Heap}
def spDA : Sp := fun vs H Q _ => ∃ (a b : Addr) (c r : Str) (t n : Int), vs = [.ref a, .int n] ∧ H a = some (.tup [.str "dual", .str c, .ref b, .int t, .str r]) ∧ CodeOk c ∧ ((∃ d, H b = some (.tup [.str "code", .str d]) ∧ CodeOk d) ∨ (∃ j, H b = some (.tup [.str "layer", .int j]) ∧ 1 ≤ j ∧ j ≤ n - 1)) ∧
  1 ≤ t ∧ t ≤ 1000000000 ∧ r ∈ rules ∧ ∀ H', Same H H' → Q (.bl true) H'
theorem ok_is_dual_action (bt : Bt mg) {tk : Tok} {g_RULES : Addr} (m_GREATEST_TIME : mg "GREATEST_TIME" = some (.int 1000000000 tk)) (m_RULES : mg "RULES" = some (.ref g_RULES)) (t_RULES : ∀ H, SqT K H g_RULES (rules.map V.str)) (a : At K mg "is_dual_action" s_is_dual_action ["action", "layer_count"])
    (c_is_code : Cl P w K mg base 1 "is_code" spCode) (c_is_hold : Cl P w K mg base 4 "is_hold" spHold) (c_is_between : Cl P w K mg base 2 "is_between" spBet) : Cl P w K mg base 5 "is_dual_action" spDA := by
  refine clG a sc_is_dual_action (fun vs H Q E h => ?_) (fun f cdv A outer s H vs Q hg hr h => ?_)
  · obtain ⟨a, b, c, r, t, n, rfl, _⟩ := h
    rfl
  · obtain ⟨a, b, c, r, t, n, rfl, ha, hc, hb, h1, h2, hr', q⟩ := h
    refine ⟨_, (pss_cons (ps_asg (pv 0) (pg_tup rfl (pgs_cons (pg_name (i := 2) sc_is_dual_action.nd rfl (Or.inl rfl)) (pgs_cons (pg_name (i := 3) sc_is_dual_action.nd rfl (Or.inl rfl)) (pgs_cons (pg_name (i := 4) sc_is_dual_action.nd rfl (Or.inl rfl)) (pgs_cons (pg_name (i := 5) sc_is_dual_action.nd rfl (Or.inl rfl)) (pgs_cons (pg_name (i := 6) sc_is_dual_action.nd rfl (Or.inl rfl)) pgs_nil)))))))
      (pss_cons (ps_if (PW.pt (pw_or (pt_not (pt_val (pe_callB call_isi (by rfl) bt.m_isinstance (by decide +kernel) (pa_cons (pv 2) (pa_cons (pe_bltn (v := .ty "str") (by rfl) bt.m_str (by decide +kernel) rfl) pa_nil))))) (pw_or1 (pt_cmpR op_ne (pv 2) pe_str (nomark _))))) (pss_one (ps_ret pe_bl)) pss_nil)
      (pss_cons (ps_if (PW.pt (pw_or (pt_not (pt_val (pe_cl c_is_code hg hr (by decide) (by rfl) (pa_cons (pv 3) pa_nil)))) (pw_or1 (pt_not (pt_val (pe_cl c_is_hold hg hr (by decide) (by rfl) (pa_cons (pv 4) (pa_cons (pv 1) pa_nil)))))))) (pss_one (ps_ret pe_bl)) pss_nil)
      (pss_one (ps_ret (pe_and (pe_cl c_is_between hg hr (by decide) (by rfl) (pa_cons (pv 5) (pa_cons pe_int (pa_cons (pe_glob (v := .int 1000000000) (by rfl) m_GREATEST_TIME ⟨_, rfl⟩) pa_nil)))) (pe_and (pe_callB call_isi (by rfl) bt.m_isinstance (by decide +kernel) (pa_cons (pv 6) (pa_cons (pe_bltn (v := .ty "str") (by rfl) bt.m_str (by decide +kernel) rfl) pa_nil))) (pe_one (pe_cmpR op_in_seq (pv 6) (pe_glob (v := .ref g_RULES) (by rfl) m_RULES rfl) (by rfl)))))))))), ?_⟩
    refine ⟨_, rfl, a, _, rfl, SqT.of ha, rfl, _, _, rfl, _, _, rfl, _, _, rfl, _, _, rfl, _, _, rfl, rfl, ?_⟩
    refine ⟨_, rfl, _, _, _, _, true, rfl, .ty "str", .base (.str _), kit_ty (by decide +kernel), _, rfl, iteF ?_⟩
    refine ⟨_, rfl, rfl, _, rfl, iteF ?_⟩
    refine ⟨_, rfl, c, rfl, hc, fun H1 s1 => ⟨_, rfl, iteF ?_⟩⟩
    refine ⟨_, rfl, _, rfl, b, n, rfl, ?_, fun H2 s2 => ⟨_, rfl, iteF ?_⟩⟩
    · rcases hb with ⟨d, e, k⟩ | ⟨j, e, k⟩
      · exact .inl ⟨d, s1 _ _ e, k⟩
      · exact .inr ⟨j, s1 _ _ e, k⟩
    · refine ⟨_, rfl, t, 1, 1000000000, rfl, h1, h2, true, rfl, iteT ?_⟩
      refine ⟨_, rfl, _, _, _, _, true, rfl, .ty "str", .base (.str _), kit_ty (by decide +kernel), _, rfl, iteT ?_⟩
      refine ⟨_, rfl, g_RULES, _, rfl, .inr (t_RULES _), rfl, flat_strs _, ?_⟩
      show Q (.bl (inV (.str r) (rules.map V.str))) H2
      rw [inv_str, decide_eq_true hr']
      exact q _ (s1.trans s2)
def spStand : Sp := fun vs H Q _ => ∃ (v : V) (i n : Int) (x : Actn), vs = [v, .int i, .int n] ∧ ActV H x v ∧ ActOk n i x ∧ ∀ H', Same H H' → Q (.bl true) H'
theorem ok_can_stand (bt : Bt mg) {g_LAYER_WORDS : Addr} (m_LAYER_WORDS : mg "LAYER_WORDS" = some (.ref g_LAYER_WORDS)) (t_LAYER_WORDS : ∀ H, SqT K H g_LAYER_WORDS (layWords.map V.str)) (a : At K mg "can_stand" s_can_stand ["action", "layer", "layer_count"])
    (c_is_code_action : Cl P w K mg base 2 "is_code_action" spCA) (c_is_layer_action : Cl P w K mg base 3 "is_layer_action" (spLA K)) (c_is_dual_action : Cl P w K mg base 5 "is_dual_action" spDA) : Cl P w K mg base 6 "can_stand" spStand := by
  refine clG a sc_can_stand (fun vs H Q E h => ?_) (fun f cdv A outer s H vs Q hg hr h => ?_)
  · obtain ⟨v, i, n, x, rfl, _⟩ := h
    rfl
  · obtain ⟨v, i, n, x, rfl, hv, hx, q⟩ := h
    refine ⟨_, (pss_cons (ps_if (pt_val (pe_callB call_isi (by rfl) bt.m_isinstance (by decide +kernel) (pa_cons (pv 0) (pa_cons (pe_bltn (v := .ty "str") (by rfl) bt.m_str (by decide +kernel) rfl) pa_nil)))) (pss_one (ps_ret (pe_or (pe_cmpR (op_eqD hr.units) (pv 0) pe_str (nomark _)) (pe_one (pe_and (pe_cmpR (op_eqD hr.units) (pv 0) pe_str (nomark _)) (pe_one (pe_cmpR op_gt (pv 1) pe_int (nomark _)))))))) pss_nil)
      (pss_cons (ps_if (pt_not (pt_val (pe_callB call_isi (by rfl) bt.m_isinstance (by decide +kernel) (pa_cons (pv 0) (pa_cons (pe_bltn (v := .ty "tuple") (by rfl) bt.m_tuple (by decide +kernel) rfl) pa_nil))))) (pss_one (ps_ret pe_bl)) pss_nil)
      (pss_cons (ps_if (pt_cmpR op_eq (pe_callB call_len_seq (by rfl) bt.m_len (by decide +kernel) (pa_cons (pv 0) pa_nil)) pe_int (nomark _)) (pss_one (ps_ret (pe_or (pe_cl c_is_code_action hg hr (by decide) (by rfl) (pa_cons (pv 0) pa_nil)) (pe_one (pe_cl c_is_layer_action hg hr (by decide) (by rfl) (pa_cons (pv 0) (pa_cons (pe_glob (v := .ref g_LAYER_WORDS) (by rfl) m_LAYER_WORDS rfl) (pa_cons (pv 2) pa_nil)))))))) pss_nil)
      (pss_one (ps_ret (pe_and (pe_cmpR op_eq (pe_callB call_len_seq (by rfl) bt.m_len (by decide +kernel) (pa_cons (pv 0) pa_nil)) pe_int (nomark _)) (pe_one (pe_cl c_is_dual_action hg hr (by decide) (by rfl) (pa_cons (pv 0) (pa_cons (pv 2) pa_nil)))))))))), ?_⟩
    cases x with
    | none =>
      cases hv
      refine ⟨_, rfl, _, _, _, _, true, rfl, .ty "str", .base (.str _), kit_ty (by decide +kernel), _, rfl, iteT ?_⟩
      exact ⟨_, rfl, _, _, .str _, .str _, by decide +kernel, by decide +kernel, true, congrArg V.bl (by decide +kernel), iteT (q _ (Same.refl _))⟩
    | thr =>
      cases hv
      have h0 : 0 < i := hx
      refine ⟨_, rfl, _, _, _, _, true, rfl, .ty "str", .base (.str _), kit_ty (by decide +kernel), _, rfl, iteT ?_⟩
      refine ⟨_, rfl, _, _, .str _, .str _, by decide +kernel, by decide +kernel, false, congrArg V.bl (by decide +kernel), iteF ?_⟩
      refine ⟨_, rfl, _, _, .str _, .str _, by decide +kernel, by decide +kernel, true, congrArg V.bl (by decide +kernel), iteT ⟨_, rfl, _, _, rfl, rfl, ?_⟩⟩
      show Q (.bl (decide (0 < i))) H
      rw [decide_eq_true h0]
      exact q _ (Same.refl _)
    | code c =>
      obtain ⟨a, rfl, ha⟩ := hv
      refine ⟨_, rfl, _, _, _, _, false, rfl, .ty "str", .base (.tup ha), kit_ty (by decide +kernel), _, rfl, iteF ?_⟩
      refine ⟨_, rfl, _, _, _, _, true, rfl, .ty "tuple", .base (.tup ha), kit_ty (by decide +kernel), _, rfl, iteF ?_⟩
      refine ⟨_, rfl, a, _, rfl, .inr (SqT.of ha), rfl, _, rfl, iteT ?_⟩
      exact ⟨_, rfl, a, _, _, rfl, ha, .inl ⟨rfl, c, rfl, hx, fun H' s' => ⟨true, rfl, iteT (q H' s')⟩⟩⟩
    | lay w j =>
      obtain ⟨a, rfl, ha⟩ := hv
      obtain ⟨x1, x2, x3⟩ := hx
      refine ⟨_, rfl, _, _, _, _, false, rfl, .ty "str", .base (.tup ha), kit_ty (by decide +kernel), _, rfl, iteF ?_⟩
      refine ⟨_, rfl, _, _, _, _, true, rfl, .ty "tuple", .base (.tup ha), kit_ty (by decide +kernel), _, rfl, iteF ?_⟩
      refine ⟨_, rfl, a, _, rfl, .inr (SqT.of ha), rfl, _, rfl, iteT ?_⟩
      have hn : w ≠ (("code" : String) : Str) := by
        rintro rfl
        revert x1
        decide +kernel
      exact ⟨_, rfl, a, _, _, rfl, ha, .inr ⟨hn, false, rfl, iteF ⟨_, rfl, _, rfl, a, g_LAYER_WORDS, w, layWords, j, n, rfl, ha, t_LAYER_WORDS _, x1, x2, x3, q _ (Same.refl _)⟩⟩⟩
    | dualC c d t r =>
      obtain ⟨a, b, rfl, ha, hb⟩ := hv
      obtain ⟨x1, x2, ⟨x3, x4⟩, x5⟩ := hx
      refine ⟨_, rfl, _, _, _, _, false, rfl, .ty "str", .base (.tup ha), kit_ty (by decide +kernel), _, rfl, iteF ?_⟩
      refine ⟨_, rfl, _, _, _, _, true, rfl, .ty "tuple", .base (.tup ha), kit_ty (by decide +kernel), _, rfl, iteF ?_⟩
      refine ⟨_, rfl, a, _, rfl, .inr (SqT.of ha), rfl, _, rfl, iteF ?_⟩
      refine ⟨_, rfl, a, _, rfl, .inr (SqT.of ha), rfl, true, rfl, iteT ?_⟩
      exact ⟨_, rfl, _, rfl, a, b, c, r, t, n, rfl, ha, x1, .inl ⟨d, hb, x2⟩, x3, x4, x5, q⟩
    | dualL c j t r =>
      obtain ⟨a, b, rfl, ha, hb⟩ := hv
      obtain ⟨x1, ⟨x2, x2'⟩, ⟨x3, x4⟩, x5⟩ := hx
      refine ⟨_, rfl, _, _, _, _, false, rfl, .ty "str", .base (.tup ha), kit_ty (by decide +kernel), _, rfl, iteF ?_⟩
      refine ⟨_, rfl, _, _, _, _, true, rfl, .ty "tuple", .base (.tup ha), kit_ty (by decide +kernel), _, rfl, iteF ?_⟩
      refine ⟨_, rfl, a, _, rfl, .inr (SqT.of ha), rfl, _, rfl, iteF ?_⟩
      refine ⟨_, rfl, a, _, rfl, .inr (SqT.of ha), rfl, true, rfl, iteT ?_⟩
      exact ⟨_, rfl, _, rfl, a, b, c, r, t, n, rfl, ha, x1, .inr ⟨j, hb, x2, x2'⟩, x3, x4, x5, q⟩
def spForm : Sp := fun vs H Q _ => ∃ (c : Addr) (L : List (List Actn)) (m : Nat), vs = [.ref c] ∧ Lay H c L ∧ LayOk L m ∧ ∀ H', Same H H' → Q (.bl true) H'
theorem ok_has_layout_form (bt : Bt mg) {tk1 tk2 : Tok} (m_MOST_LAYERS : mg "MOST_LAYERS" = some (.int 6 tk1)) (m_MOST_KEYS : mg "MOST_KEYS" = some (.int 16 tk2)) (a : At K mg "has_layout_form" s_has_layout_form ["value"]) : Cl P w K mg base 1 "has_layout_form" spForm := by
  refine clG a sc_has_layout_form (fun vs H Q E h => ?_) (fun f cdv A outer s H vs Q hg hr h => ?_)
  · obtain ⟨c, L, m, rfl, _⟩ := h
    rfl
  · obtain ⟨c, L, m, rfl, hL, hO, q⟩ := h
    refine ⟨_, (pss_cons (ps_if (PW.pt (pw_or (pt_not (pt_val (pe_callB call_isi (by rfl) bt.m_isinstance (by decide +kernel) (pa_cons (pv 0) (pa_cons (pe_bltn (v := .ty "list") (by rfl) bt.m_list (by decide +kernel) rfl) pa_nil))))) (pw_or1 (pt_not (pt_chain op_le op_le pe_int (pe_callB call_len_seq (by rfl) bt.m_len (by decide +kernel) (pa_cons (pv 0) pa_nil)) (pe_glob (v := .int 6) (by rfl) m_MOST_LAYERS ⟨_, rfl⟩)))))) (pss_one (ps_ret pe_bl)) pss_nil)
      (pss_cons (ps_if (pt_not (pt_val (pe_callB (cr_all rfl) (by rfl) bt.m_all (by decide +kernel) (pa_cons (pe_lc (own := [("actions", 2)]) (g := (gName 2)) (by rfl) sc_has_layout_form.nd (pi_list (pv 0)) (blkOk_by (N := n_has_layout_form) (sc := defScope s_has_layout_form) (by decide +kernel)) (fun _ _ _ _ _ => (pg_name (i := 2) sc_has_layout_form.nd rfl (Or.inl rfl))) (fun _ _ _ _ _ => pts_nil) (fun _ _ _ _ _ => (pe_callB (r := rIsi K) call_isi (by rfl) bt.m_isinstance (by decide +kernel) (pa_cons (pv 2) (pa_cons (pe_bltn (v := .ty "list") (by rfl) bt.m_list (by decide +kernel) rfl) pa_nil))))) pa_nil)))) (pss_one (ps_ret pe_bl)) pss_nil)
      (pss_cons (ps_set (i := 1) sc_has_layout_form.nd rfl (Or.inr rfl) (pe_callB call_len_seq (by rfl) bt.m_len (by decide +kernel) (pa_cons (pe_ix ix_list (pv 0) pe_int (fun _ _ => rfl)) pa_nil)))
      (pss_one (ps_ret (pe_and (pe_chain op_le op_le pe_int (pv 1) (pe_glob (v := .int 16) (by rfl) m_MOST_KEYS ⟨_, rfl⟩)) (pe_one (pe_callB (cr_all rfl) (by rfl) bt.m_all (by decide +kernel) (pa_cons (pe_lc (own := [("actions", 2)]) (g := (gName 2)) (by rfl) sc_has_layout_form.nd (pi_list (pv 0)) (blkOk_by (N := n_has_layout_form) (sc := defScope s_has_layout_form) (by decide +kernel)) (fun _ _ _ _ _ => (pg_name (i := 2) sc_has_layout_form.nd rfl (Or.inl rfl))) (fun _ _ _ _ _ => pts_nil) (fun _ _ _ _ _ => (pe_cmpR op_eq (pe_callB (r := rLenB K) call_len_seq (by rfl) bt.m_len (by decide +kernel) (pa_cons (pv 2) pa_nil)) (pv 1) (nomark _)))) pa_nil))))))))), ?_⟩
    obtain ⟨rs, hc, hR⟩ := hL
    have hlen : (rs.map V.ref).length = L.length := by rw [List.length_map]; exact hR.1
    have n1 := hO.n1
    have n6 := hO.n6
    refine ⟨_, rfl, _, _, _, _, true, rfl, .ty "list", .base (.lst hc), kit_ty (by decide +kernel), _, rfl, iteF ?_⟩
    refine ⟨_, rfl, c, _, rfl, .inl (SqL.of hc), _, _, rfl, rfl, true, congrArg V.bl (decide_eq_true (by omega)), iteT ⟨_, _, rfl, rfl, true, congrArg V.bl (decide_eq_true (by omega)), iteF ?_⟩⟩
    refine ⟨_, rfl, c, rfl, ⟨_, SqL.of hc⟩, fun M nM => lc_it (walk_list (xs := rs.map V.ref)) (fun i H' => H' = upd H M (.lst ((List.replicate i true).map V.bl))) rfl
      (fun i H' _ p => by subst p; exact SqL.of ((same_upd nM) _ _ hc)) (fun i x H2 H3 hi p y => ?_) (fun H2 p => ?_)⟩
    · obtain ⟨rfl, hx⟩ := y
      subst p
      have hi' : i < L.length := by omega
      obtain ⟨r, hr1, hr2⟩ := hR.at_ hi'
      have ex : V.ref r = x := Option.some.inj ((get_map_ref hr1).symm.trans hx)
      subst ex
      obtain ⟨vs, hv, _⟩ := hr2
      refine ⟨rfl, ⟨_, rfl, _, _, _, _, true, rfl, .ty "list", .base (.lst ((same_upd nM) _ _ hv)), kit_ty (by decide +kernel), _, upd_same, ?_, ?_⟩⟩
      · rw [List.length_map, List.length_replicate]; exact small1000 (by omega)
      · rw [upd_upd, List.replicate_succ', List.map_append]; rfl
    · subst p
      refine ⟨M, _, rfl, SqL.of upd_same, _, rfl, ?_⟩
      rw [allTrue]
      have s1 : Same H (upd H M (.lst ((List.replicate (rs.map V.ref).length true).map V.bl))) := same_upd nM
      generalize upd H M (.lst ((List.replicate (rs.map V.ref).length true).map V.bl)) = H1 at s1
      have hc1 := s1 _ _ hc
      have hR1 := hR.same s1
      obtain ⟨r0, e0, vs0, hv0, ha0⟩ := hR1.at_ (i := 0) (by omega)
      have hm0 : vs0.length = m := by rw [ha0.1]; exact hO.len _ (List.getElem_mem _)
      have m1 := hO.m1
      have m16 := hO.m16
      refine iteF ⟨_, rfl, c, _, 0, .ref r0, rfl, rfl, SqL.of hc1, atI_nat (j := 0) (get_map_ref e0), ?_⟩
      refine ⟨r0, _, rfl, .inl (SqL.of hv0), ?_⟩
      rw [hm0]
      refine ⟨_, rfl, _, _, rfl, rfl, true, congrArg V.bl (decide_eq_true (by omega)), iteT ⟨_, _, rfl, rfl, true, congrArg V.bl (decide_eq_true (by omega)), iteT ?_⟩⟩
      refine ⟨_, rfl, c, rfl, ⟨_, SqL.of hc1⟩, fun N nN => lc_it (walk_list (xs := rs.map V.ref)) (fun i H' => H' = upd H1 N (.lst ((List.replicate i true).map V.bl))) rfl
        (fun i H' _ p => by subst p; exact SqL.of ((same_upd nN) _ _ hc1)) (fun i x H2 H3 hi p y => ?_) (fun H2 p => ?_)⟩
      · obtain ⟨rfl, hx⟩ := y
        subst p
        have hi' : i < L.length := by omega
        obtain ⟨r, hr1, vs, hv, ha⟩ := hR1.at_ hi'
        have ex : V.ref r = x := Option.some.inj ((get_map_ref hr1).symm.trans hx)
        subst ex
        have hm : vs.length = m := by rw [ha.1]; exact hO.len _ (List.getElem_mem _)
        refine ⟨rfl, ⟨_, rfl, r, _, rfl, .inl (SqL.of ((same_upd nN) _ _ hv)), _, rfl, rfl, _, upd_same, ?_, ?_⟩⟩
        · rw [List.length_map, List.length_replicate]; exact small1000 (by omega)
        · rw [hm, decide_eq_true rfl, upd_upd, List.replicate_succ', List.map_append]; rfl
      · subst p
        refine ⟨N, _, rfl, SqL.of upd_same, ?_⟩
        rw [allTrue]
        exact q _ (s1.trans (same_upd nN))
def spCheckL : Sp := fun vs H Q _ => ∃ (c : Addr) (L : List (List Actn)) (m : Nat), vs = [.ref c] ∧ Lay H c L ∧ LayOk L m ∧ ∀ H', Same H H' → Q .non H'
theorem ok_check_layout (bt : Bt mg) (a : At K mg "check_layout" s_check_layout ["value"]) (c_has_layout_form : Cl P w K mg base 1 "has_layout_form" spForm) (c_can_stand : Cl P w K mg base 6 "can_stand" spStand) : Cl P w K mg base 7 "check_layout" spCheckL := by
  refine clG a sc_check_layout (fun vs H Q E h => ?_) (fun f cdv A outer s H vs Q hg hr h => ?_)
  · obtain ⟨c, L, m, rfl, _⟩ := h
    rfl
  · obtain ⟨c, L, m, rfl, hL, hO, q⟩ := h
    refine ⟨_, (pss_cons (ps_if (pt_not (pt_val (pe_cl c_has_layout_form hg hr (by decide) (by rfl) (pa_cons (pv 0) pa_nil)))) pss_never pss_nil)
      (pss_one (ps_for PassesOwn.never rfl (pi_enum (by rfl) bt.m_enumerate (pa_cons (pv 0) pa_nil)) (pg_tup rfl (pgs_cons (pg_name (i := 1) sc_check_layout.nd rfl (Or.inl rfl)) (pgs_cons (pg_name (i := 2) sc_check_layout.nd rfl (Or.inl rfl)) pgs_nil))) (pss_one (ps_for PassesOwn.never rfl (pi_enum (by rfl) bt.m_enumerate (pa_cons (pv 2) pa_nil)) (pg_tup rfl (pgs_cons (pg_name (i := 3) sc_check_layout.nd rfl (Or.inl rfl)) (pgs_cons (pg_name (i := 4) sc_check_layout.nd rfl (Or.inl rfl)) pgs_nil))) (pss_one (ps_if (pt_not (pt_val (pe_cl c_can_stand hg hr (by decide) (by rfl) (pa_cons (pv 4) (pa_cons (pv 1) (pa_cons (pe_callB call_len_seq (by rfl) bt.m_len (by decide +kernel) (pa_cons (pv 0) pa_nil)) pa_nil)))))) pss_never pss_nil))))))), ?_⟩
    refine ⟨_, rfl, c, L, m, rfl, hL, hO, fun H1 s1 => ⟨_, rfl, iteF ?_⟩⟩
    obtain ⟨rs, hc, hR⟩ := hL.same s1
    have hlen : (rs.map V.ref).length = L.length := by rw [List.length_map]; exact hR.1
    refine ⟨_, rfl, c, _, rfl, SqL.of hc, for_it (walk_enum (xs := rs.map V.ref)) (fun i σ H' => Same H1 H' ∧ ∃ y1 y2 y3 y4, σ = [some (.ref c), y1, y2, y3, y4]) ⟨Same.refl _, _, _, _, _, rfl⟩ (fun _ _ H' _ p => SqL.of (p.1 _ _ hc)) (fun i x σ H2 H3 hi p y => ?_) (fun σ H2 p => ?_)⟩
    · obtain ⟨s2, y1, y2, y3, y4, rfl⟩ := p
      obtain ⟨T, u, v, rfl, nT, rfl, e1, e2⟩ := y
      have hi' : i < L.length := by omega
      obtain ⟨r, hr1, vs, hv, ha⟩ := hR.at_ hi'
      have e2' : v = .ref r := Option.some.inj ((show (rs.map V.ref)[i]? = some v from e2).symm.trans (get_map_ref hr1))
      subst e2'
      have e1' : u = .int (i : Nat) := (Option.some.inj e1).symm
      subst e1'
      have s3 : Same H1 (upd H2 T (.tup [.int (i : Nat), .ref r])) := s2.trans (same_upd nT)
      refine ⟨T, _, rfl, SqT.of upd_same, rfl, _, _, rfl, _, _, rfl, rfl, ?_⟩
      have hv3 := s3 _ _ hv
      have hvl := ha.1
      generalize upd H2 T (.tup [.int (i : Nat), .ref r]) = H4 at s3 hv3
      refine ⟨_, rfl, r, _, rfl, SqL.of hv3, for_it (walk_enum (xs := vs)) (fun j σ H' => Same H4 H' ∧ ∃ y3 y4, σ = [some (.ref c), some (.int (i : Nat)), some (.ref r), y3, y4]) ⟨Same.refl _, _, _, rfl⟩ (fun _ _ H' _ p => SqL.of (p.1 _ _ hv3)) (fun j x σ H5 H6 hj p y => ?_) (fun σ H5 p => ?_)⟩
      · obtain ⟨s5, y3, y4, rfl⟩ := p
        obtain ⟨T2, u2, v2, rfl, nT2, rfl, e3, e4⟩ := y
        have hj' : j < L[i].length := by omega
        obtain ⟨v', hv', hav⟩ := ha.at_ hj'
        have e4' : v2 = v' := Option.some.inj ((show vs[j]? = some v2 from e4).symm.trans hv')
        subst e4'
        have e3' : u2 = .int (j : Nat) := (Option.some.inj e3).symm
        subst e3'
        have s6 : Same H1 (upd H5 T2 (.tup [.int (j : Nat), v2])) := (s3.trans s5).trans (same_upd nT2)
        refine ⟨T2, _, rfl, SqT.of upd_same, rfl, _, _, rfl, _, _, rfl, rfl, ?_⟩
        refine ⟨_, rfl, _, rfl, _, rfl, c, _, rfl, .inl (SqL.of (s6 _ _ hc)), v2, i, L.length, L[i][j], ?_, hav.keep (Tk.of s6), hO.ok i _ (List.getElem?_eq_getElem hi') _ (List.getElem_mem _), fun H7 s7 => ⟨_, rfl, iteF ⟨(s5.trans (same_upd nT2)).trans s7, _, _, rfl⟩⟩⟩
        rw [hlen]
        rfl
      · obtain ⟨s5, y3, y4, rfl⟩ := p
        exact ⟨s3.trans s5, _, _, _, _, rfl⟩
    · exact q _ (s1.trans p.1)
end
end K74

set_option Elab.async false
set_option linter.all false
set_option maxRecDepth 100000
set_option maxHeartbeats 4000000
namespace K74
open PySem PySem.Spec PyProof.Rows L2 Gd Rm La Cb
section
variable {P : Program} {w : World} {K : PySem.W.Frag} {mg : Str → Option Value} {base : Heap}
theorem down_or_up (d : Bool) : inV (.str (wayS d)) [.str "down", .str "up"] = true := by cases d <;> decide +kernel
def spStep : Sp := fun vs H Q _ => ∃ (a : Addr) (e : Ev), vs = [.ref a] ∧ H a = some (.tup (stV e)) ∧ 0 ≤ e.k ∧ ∀ H', Same H H' → Q (.bl true) H'
theorem ok_is_step (bt : Bt mg) (a : At K mg "is_step" s_is_step ["value"]) (c_is_an_integer : Cl P w K mg base 1 "is_an_integer" spInt) : Cl P w K mg base 2 "is_step" spStep := by
  refine clG a sc_is_step (fun vs H Q E h => ?_) (fun f cdv A outer s H vs Q hg hr h => ?_)
  · obtain ⟨a, e, rfl, _⟩ := h
    rfl
  · obtain ⟨a, e, rfl, ha, h0, q⟩ := h
    refine ⟨_, (pss_cons (ps_if (PW.pt (pw_or (pt_not (pt_val (pe_callB call_isi (by rfl) bt.m_isinstance (by decide +kernel) (pa_cons (pv 0) (pa_cons (pe_bltn (v := .ty "tuple") (by rfl) bt.m_tuple (by decide +kernel) rfl) pa_nil))))) (pw_or1 (pt_cmpR op_ne (pe_callB call_len_seq (by rfl) bt.m_len (by decide +kernel) (pa_cons (pv 0) pa_nil)) pe_int (nomark _))))) (pss_one (ps_ret pe_bl)) pss_nil)
      (pss_cons (ps_asg (pv 0) (pg_tup rfl (pgs_cons (pg_name (i := 1) sc_is_step.nd rfl (Or.inl rfl)) (pgs_cons (pg_name (i := 2) sc_is_step.nd rfl (Or.inl rfl)) pgs_nil))))
      (pss_one (ps_ret (pe_and (pe_cl c_is_an_integer hg hr (by decide) (by rfl) (pa_cons (pv 1) pa_nil)) (pe_and (pe_cmpR op_ge (pv 1) pe_int (nomark _)) (pe_and (pe_callB call_isi (by rfl) bt.m_isinstance (by decide +kernel) (pa_cons (pv 2) (pa_cons (pe_bltn (v := .ty "str") (by rfl) bt.m_str (by decide +kernel) rfl) pa_nil))) (pe_one (pe_cmpR op_in_seq (pv 2) (pe_tup (pa_cons pe_str (pa_cons pe_str pa_nil))) (by rfl)))))))))), ?_⟩
    refine ⟨_, rfl, _, _, _, _, true, rfl, .ty "tuple", .base (.tup ha), kit_ty (by decide +kernel), _, rfl, iteF ?_⟩
    refine ⟨_, rfl, a, _, rfl, .inr (SqT.of ha), rfl, _, rfl, iteF ?_⟩
    refine ⟨_, rfl, a, _, rfl, SqT.of ha, rfl, _, _, rfl, _, _, rfl, rfl, ?_⟩
    refine ⟨_, rfl, _, rfl, _, rfl, iteT ?_⟩
    refine ⟨_, rfl, _, _, rfl, rfl, true, congrArg V.bl (decide_eq_true h0), iteT ?_⟩
    refine ⟨_, rfl, _, _, _, _, true, rfl, .ty "str", .base (.str _), kit_ty (by decide +kernel), _, rfl, iteT ?_⟩
    refine ⟨_, rfl, (by show 2 ≤ sizeLine; decide), fun p np => ?_⟩
    refine ⟨p, _, rfl, .inr (SqT.of upd_same), rfl, rfl, ?_⟩
    have hd := down_or_up e.d
    show Q (.bl (inV (.str (wayS e.d)) [.str "down", .str "up"])) _
    rw [hd]
    exact q _ (same_upd np)
def spEvent : Sp := fun vs H Q _ => ∃ (a : Addr) (e : Ev), vs = [.ref a] ∧ H a = some (.tup (evV e)) ∧ 0 ≤ e.k ∧ ∀ H', Same H H' → Q (.bl true) H'
theorem ok_is_event (bt : Bt mg) (a : At K mg "is_event" s_is_event ["value"]) (c_is_an_integer : Cl P w K mg base 1 "is_an_integer" spInt) (c_is_step : Cl P w K mg base 2 "is_step" spStep) : Cl P w K mg base 3 "is_event" spEvent := by
  refine clG a sc_is_event (fun vs H Q E h => ?_) (fun f cdv A outer s H vs Q hg hr h => ?_)
  · obtain ⟨a, e, rfl, _⟩ := h
    rfl
  · obtain ⟨a, e, rfl, ha, h0, q⟩ := h
    refine ⟨_, (pss_cons (ps_if (PW.pt (pw_or (pt_not (pt_val (pe_callB call_isi (by rfl) bt.m_isinstance (by decide +kernel) (pa_cons (pv 0) (pa_cons (pe_bltn (v := .ty "tuple") (by rfl) bt.m_tuple (by decide +kernel) rfl) pa_nil))))) (pw_or1 (pt_cmpR op_ne (pe_callB call_len_seq (by rfl) bt.m_len (by decide +kernel) (pa_cons (pv 0) pa_nil)) pe_int (nomark _))))) (pss_one (ps_ret pe_bl)) pss_nil)
      (pss_cons (ps_asg (pv 0) (pg_tup rfl (pgs_cons (pg_name (i := 1) sc_is_event.nd rfl (Or.inl rfl)) (pgs_cons (pg_name (i := 2) sc_is_event.nd rfl (Or.inl rfl)) (pgs_cons (pg_name (i := 3) sc_is_event.nd rfl (Or.inl rfl)) pgs_nil)))))
      (pss_one (ps_ret (pe_and (pe_cl c_is_an_integer hg hr (by decide) (by rfl) (pa_cons (pv 1) pa_nil)) (pe_one (pe_cl c_is_step hg hr (by decide) (by rfl) (pa_cons (pe_tup (pa_cons (pv 2) (pa_cons (pv 3) pa_nil))) pa_nil)))))))), ?_⟩
    refine ⟨_, rfl, _, _, _, _, true, rfl, .ty "tuple", .base (.tup ha), kit_ty (by decide +kernel), _, rfl, iteF ?_⟩
    refine ⟨_, rfl, a, _, rfl, .inr (SqT.of ha), rfl, _, rfl, iteF ?_⟩
    refine ⟨_, rfl, a, _, rfl, SqT.of ha, rfl, _, _, rfl, _, _, rfl, _, _, rfl, rfl, ?_⟩
    refine ⟨_, rfl, _, rfl, _, rfl, iteT ?_⟩
    refine ⟨_, rfl, _, rfl, (by show 2 ≤ sizeLine; decide), fun p np => ?_⟩
    exact ⟨p, e, rfl, upd_same, h0, fun H' s' => q H' ((same_upd np).trans s')⟩
def spShort : Sp := fun vs H Q _ => ∃ (a : Addr) (xs : List V), vs = [.ref a] ∧ H a = some (.lst xs) ∧ xs.length ≤ 400 ∧ Q (.bl true) H
theorem ok_is_short_list (bt : Bt mg) (tk : Tok) (m_MOST_EVENTS : mg "MOST_EVENTS" = some (.int 400 tk)) (a : At K mg "is_short_list" s_is_short_list ["value"]) : Cl P w K mg base 1 "is_short_list" spShort := by
  refine clG a sc_is_short_list (fun vs H Q E h => ?_) (fun f cdv A outer s H vs Q hg hr h => ?_)
  · obtain ⟨a, xs, rfl, _⟩ := h
    rfl
  · obtain ⟨a, xs, rfl, ha, hl, q⟩ := h
    refine ⟨_, (pss_one (ps_ret (pe_and (pe_callB call_isi (by rfl) bt.m_isinstance (by decide +kernel) (pa_cons (pv 0) (pa_cons (pe_bltn (v := .ty "list") (by rfl) bt.m_list (by decide +kernel) rfl) pa_nil))) (pe_one (pe_cmpR op_le (pe_callB call_len_seq (by rfl) bt.m_len (by decide +kernel) (pa_cons (pv 0) pa_nil)) (pe_glob (v := .int 400) (by rfl) m_MOST_EVENTS ⟨_, rfl⟩) (nomark _)))))), ?_⟩
    refine ⟨_, rfl, _, _, _, _, true, rfl, .ty "list", .base (.lst ha), kit_ty (by decide +kernel), _, rfl, iteT ?_⟩
    refine ⟨_, rfl, a, _, rfl, .inl (SqL.of ha), _, _, rfl, rfl, ?_⟩
    show Q (.bl (decide ((xs.length : Int) ≤ 400))) H
    rw [decide_eq_true (show (xs.length : Int) ≤ 400 by omega)]
    exact q
def spTurn : Sp := fun vs H Q _ => ∃ (d : Addr) (kvs : List (Key × V)) (k : Int) (b : Bool), vs = [.ref d, .int k, .str (wayS b)] ∧ H d = some (.dK kvs) ∧ kvs.length < sizeLine ∧
  (valV kvs (Sum.inl k)).getD (.bl false) = .bl (!b) ∧ Q (.bl true) (upd H d (.dK (putK kvs (Sum.inl k) (.bl b))))
theorem ok_takes_turn (a : At K mg "takes_turn" s_takes_turn ["held", "key", "way"]) : Cl P w K mg base 1 "takes_turn" spTurn := by
  refine clG a sc_takes_turn (fun vs H Q E h => ?_) (fun f cdv A outer s H vs Q hg hr h => ?_)
  · obtain ⟨d, kvs, k, b, rfl, _⟩ := h
    rfl
  · obtain ⟨d, kvs, k, b, rfl, hd, hl, hv, q⟩ := h
    refine ⟨_, (pss_cons (ps_set (i := 3) sc_takes_turn.nd rfl (Or.inl rfl) (pe_cmpR op_eq (pv 2) pe_str (nomark _)))
      (pss_cons (ps_if (pt_cmpR op_eq (pe_dget2 (hu_of hr) (pv 0) (pv 1) pe_bl ⟨rfl, rfl, rfl, rfl⟩) (pv 3) (nomark _)) (pss_one (ps_ret pe_bl)) pss_nil)
      (pss_cons (ps_dput (hu_of hr) (pv 0) (pv 1) (pv 3) rfl)
      (pss_one (ps_ret pe_bl))))), ?_⟩
    refine ⟨_, rfl, rfl, ?_⟩
    refine ⟨_, rfl, d, rfl, .inl ⟨kvs, .inl hd⟩, _, rfl, _, DGet.k (k := Sum.inl k) hd, ?_⟩
    rw [wayS_down, hv]
    refine ⟨_, rfl, rfl, _, rfl, ?_⟩
    rw [decide_eq_false (fun z => by have := V.bl.inj z; cases b <;> cases this)]
    refine iteF ?_
    exact ⟨_, rfl, _, rfl, _, rfl, d, _, rfl, DPut.k (k := Sum.inl k) hd hl, q⟩
def spBelow : Sp := fun vs H Q _ => ∃ k m : Int, vs = [.int k, .int m] ∧ k < m ∧ Q (.bl true) H
theorem ok_is_below (a : At K mg "is_below" s_is_below ["key", "many"]) : Cl P w K mg base 1 "is_below" spBelow := by
  refine clG a sc_is_below (fun vs H Q E h => ?_) (fun f cdv A outer s H vs Q hg hr h => ?_)
  · obtain ⟨k, m, rfl, _⟩ := h
    rfl
  · obtain ⟨k, m, rfl, hk, q⟩ := h
    refine ⟨_, (pss_one (ps_ret (pe_or (pe_cmpR op_isN (pv 1) pe_non (nomark _)) (pe_one (pe_cmpR op_lt (pv 0) (pv 1) (nomark _)))))), ?_⟩
    refine ⟨_, rfl, rfl, _, rfl, iteF ⟨_, rfl, _, rfl, _, _, rfl, rfl, ?_⟩⟩
    show Q (.bl (decide (k < m))) H
    rw [decide_eq_true hk]
    exact q
def spFollow : Sp := fun vs H Q _ => ∃ (b d : Addr) (e : Ev) (l : V) (kvs : List (Key × V)), vs = [.ref b, l, .ref d] ∧ H b = some (.tup (evV e)) ∧
  (l = .non ∨ ∃ (b' : Addr) (e' : Ev), l = .ref b' ∧ H b' = some (.tup (evV e')) ∧ e'.t ≤ e.t) ∧ H d = some (.dK kvs) ∧ kvs.length < sizeLine ∧
  (valV kvs (Sum.inl e.k)).getD (.bl false) = .bl (!e.d) ∧ Q (.bl true) (upd H d (.dK (putK kvs (Sum.inl e.k) (.bl e.d))))
theorem ok_can_follow (a : At K mg "can_follow" s_can_follow ["event", "last", "held"]) (c_takes_turn : Cl P w K mg base 1 "takes_turn" spTurn) : Cl P w K mg base 2 "can_follow" spFollow := by
  refine clG a sc_can_follow (fun vs H Q E h => ?_) (fun f cdv A outer s H vs Q hg hr h => ?_)
  · obtain ⟨b, d, e, l, kvs, rfl, _⟩ := h
    rfl
  · obtain ⟨b, d, e, l, kvs, rfl, hb, hl, hd, hz, hv, q⟩ := h
    refine ⟨_, (pss_cons (ps_if (PW.pt (pw_and (pt_cmpR op_notN (pv 1) pe_non (nomark _)) (pw_and1 (pt_cmpR op_lt (pe_ix ix_tup (pv 0) pe_int (fun _ _ => rfl)) (pe_ix ix_tup (pv 1) pe_int (fun _ _ => rfl)) (nomark _))))) (pss_one (ps_ret pe_bl)) pss_nil)
      (pss_one (ps_ret (pe_cl c_takes_turn hg hr (by decide) (by rfl) (pa_cons (pv 2) (pa_cons (pe_ix ix_tup (pv 0) pe_int (fun _ _ => rfl)) (pa_cons (pe_ix ix_tup (pv 0) pe_int (fun _ _ => rfl)) pa_nil))))))), ?_⟩
    rcases hl with rfl | ⟨b', e', rfl, hb', hle⟩
    · refine ⟨_, rfl, rfl, _, rfl, iteF ?_⟩
      refine ⟨_, rfl, _, rfl, b, _, _, _, rfl, rfl, SqT.of hb, atI_nat (j := 1) rfl, _, rfl, b, _, _, _, rfl, rfl, SqT.of hb, atI_nat (j := 2) rfl, ?_⟩
      exact ⟨d, kvs, e.k, e.d, rfl, hd, hz, hv, q⟩
    · refine ⟨_, rfl, rfl, _, rfl, iteT ?_⟩
      refine ⟨_, rfl, b, _, _, _, rfl, rfl, SqT.of hb, atI_nat (j := 0) rfl, _, rfl, b', _, _, _, rfl, rfl, SqT.of hb', atI_nat (j := 0) rfl, _, _, rfl, rfl, _, rfl, ite2 (fun z => ?_) (fun z => ?_)⟩
      · have z0 : e.t < e'.t := of_decide_eq_true z
        omega
      · refine ⟨_, rfl, _, rfl, b, _, _, _, rfl, rfl, SqT.of hb, atI_nat (j := 1) rfl, _, rfl, b, _, _, _, rfl, rfl, SqT.of hb, atI_nat (j := 2) rfl, ?_⟩
        exact ⟨d, kvs, e.k, e.d, rfl, hd, hz, hv, q⟩
def spCheck : Sp := fun vs H Q _ => ∃ (c : Addr) (m : Int) (es : List Ev), vs = [.ref c, .int m] ∧ Lst evV H c es ∧ Valid es ∧ es.length ≤ 400 ∧ (∀ e ∈ es, e.k < m) ∧ ∀ H', Same H H' → Q .non H'
theorem ok_check_record (bt : Bt mg) (a : AtX K mg "check_record" s_check_record ["value", "many"] []) (c_is_short_list : Cl P w K mg base 1 "is_short_list" spShort) (c_is_event : Cl P w K mg base 3 "is_event" spEvent) (c_can_follow : Cl P w K mg base 2 "can_follow" spFollow) (c_is_below : Cl P w K mg base 1 "is_below" spBelow) :
    Cl P w K mg base 4 "check_record" spCheck := by
  refine clX a sc_check_record (fun vs H Q E h => ?_) (fun f cdv A outer s H vs Q hg hr h => ?_)
  · obtain ⟨a, m, e, rfl, _⟩ := h
    rfl
  · obtain ⟨c, m, es, rfl, hL, hV, hl, hkm, q⟩ := h
    refine ⟨_, (pss_cons (ps_if (pt_not (pt_val (pe_cl c_is_short_list hg hr (by decide) (by rfl) (pa_cons (pv 0) pa_nil)))) pss_never pss_nil)
      (pss_cons (ps_set (i := 2) sc_check_record.nd rfl (Or.inl rfl) pe_dnewK)
      (pss_one (ps_for PassesOwn.never rfl (pi_enum (by rfl) bt.m_enumerate (pa_cons (pv 0) pa_nil)) (pg_tup rfl (pgs_cons (pg_name (i := 3) sc_check_record.nd rfl (Or.inl rfl)) (pgs_cons (pg_name (i := 4) sc_check_record.nd rfl (Or.inl rfl)) pgs_nil))) (pss_cons (ps_if (PW.pt (pw_or (pt_not (pt_val (pe_cl c_is_event hg hr (by decide) (by rfl) (pa_cons (pv 4) pa_nil)))) (pw_or1 (pt_not (pt_val (pe_cl c_is_below hg hr (by decide) (by rfl) (pa_cons (pe_ix ix_tup (pv 4) pe_int (fun _ _ => rfl)) (pa_cons (pv 1) pa_nil)))))))) pss_never pss_nil)
      (pss_one (ps_if (pt_not (pt_val (pe_cl c_can_follow hg hr (by decide) (by rfl) (pa_cons (pv 4) (pa_cons (pe_ifExp (pt_cmpR op_gt (pv 3) pe_int (nomark _)) (pe_ix ix_list (pv 0) (pe_op op_sub (pv 3) pe_int) (fun _ _ => rfl)) pe_non) (pa_cons (pv 2) pa_nil)))))) pss_never pss_nil))))))), ?_⟩
    obtain ⟨as, hc, hT⟩ := hL
    have hlen : (as.map V.ref).length = es.length := by rw [List.length_map]; exact hT.1
    refine ⟨_, rfl, c, _, rfl, hc, by omega, _, rfl, iteF ?_⟩
    intro d nd
    refine ⟨_, rfl, c, _, rfl, SqL.of ((same_upd nd) _ _ hc), for_it (walk_enum (xs := as.map V.ref))
      (fun i σ H' => Same H H' ∧ ∃ kvs y2 y3, σ = [some (.ref c), some (.int m), some (.ref d), y2, y3] ∧ H' d = some (.dK kvs) ∧ kvs.length ≤ i ∧ HeldK kvs (heldB (es.take i)))
      ⟨same_upd nd, _, _, _, rfl, upd_same, Nat.le_refl _, HeldK.nil⟩ (fun _ _ H' _ p => SqL.of (p.1 _ _ hc)) (fun i x σ H1 H2 hi p y => ?_) (fun σ H1 p => ?_)⟩
    · obtain ⟨s1, kvs, y2, y3, rfl, hd, hkl, hk⟩ := p
      obtain ⟨T, u, v, rfl, nT, rfl, e1, e2⟩ := y
      have hi' : i < es.length := by omega
      obtain ⟨b, hb, hbt⟩ := hT.at_ hi'
      have he : es[i]? = some es[i] := List.getElem?_eq_getElem hi'
      obtain ⟨v1, v2, v3⟩ := hV i _ he
      have e2' : v = .ref b := by
        have e2 : (as.map V.ref)[i]? = some v := e2
        rw [List.getElem?_map, hb] at e2
        exact (Option.some.inj e2).symm
      subst e2'
      have e1' : u = .int (i : Nat) := (Option.some.inj e1).symm
      subst e1'
      have s2 : Same H (upd H1 T (.tup [.int (i : Nat), .ref b])) := s1.trans (same_upd nT)
      have hb2 := s2 _ _ hbt
      refine ⟨T, _, rfl, SqT.of upd_same, rfl, _, _, rfl, _, _, rfl, rfl, ?_⟩
      refine ⟨_, rfl, b, _, rfl, hb2, v1, fun H3 s3 => ?_⟩
      have s4 := s2.trans s3
      have hb4 := s4 _ _ hbt
      refine ⟨_, rfl, iteF ?_⟩
      have hkk := hkm _ (List.getElem_mem hi')
      refine ⟨_, rfl, b, _, _, _, rfl, rfl, SqT.of hb4, atI_nat (j := 1) rfl, _, rfl, es[i].k, m, rfl, hkk, _, rfl, iteF ?_⟩
      have hd4 : H3 d = some (.dK kvs) := s3 _ _ ((same_upd nT) _ _ hd)
      have fin : Same H (upd H3 d (.dK (putK kvs (Sum.inl es[i].k) (.bl es[i].d)))) ∧ ∃ kvs' y2 y3, [some (V.ref c), some (V.int m), some (V.ref d), some (V.int (i : Nat)), some (V.ref b)] = [some (V.ref c), some (V.int m), some (V.ref d), y2, y3] ∧
          upd H3 d (.dK (putK kvs (Sum.inl es[i].k) (.bl es[i].d))) d = some (.dK kvs') ∧ kvs'.length ≤ i + 1 ∧ HeldK kvs' (heldB (es.take (i + 1))) := by
        refine ⟨Same.off s4 nd off_upd, _, _, _, rfl, upd_same, ?_, ?_⟩
        · have := put_len kvs (Sum.inl es[i].k) (.bl es[i].d); omega
        · rw [List.take_add_one, he]
          exact hk.put
      have hv : (valV kvs (Sum.inl es[i].k)).getD (.bl false) = .bl (!es[i].d) := by rw [hk.at_, v2]
      have hz : kvs.length < sizeLine := small1000 (by omega)
      refine ⟨_, rfl, _, rfl, _, _, rfl, rfl, _, rfl, ite2 (fun e => ?_) (fun e => ?_)⟩
      · have e0 : (0 : Int) < (i : Nat) := of_decide_eq_true e
        obtain ⟨b', hb', hbt'⟩ := hT.at_ (i := i - 1) (by omega)
        have hle := v3 (i - 1) _ (by omega) (List.getElem?_eq_getElem (by omega))
        have g : (as.map V.ref)[i - 1]? = some (.ref b') := by rw [List.getElem?_map, hb']; rfl
        refine ⟨_, rfl, _, rfl, _, _, rfl, rfl, c, _, _, .ref b', rfl, rfl, SqL.of (s4 _ _ hc), at_of (j := i - 1) (by omega) g, _, rfl, ?_⟩
        exact ⟨b, d, es[i], .ref b', kvs, rfl, hb4, .inr ⟨b', _, rfl, s4 _ _ hbt', hle⟩, hd4, hz, hv, _, rfl, iteF fin⟩
      · exact ⟨_, rfl, b, d, es[i], .non, kvs, rfl, hb4, .inl rfl, hd4, hz, hv, _, rfl, iteF fin⟩
    · exact q _ p.1
end
end K74

set_option Elab.async false
set_option linter.all false
set_option maxRecDepth 100000
set_option maxHeartbeats 8000000
namespace K74
open PySem PySem.Spec PyProof.Rows L2 Gd Rm La Cb
open Pl (timeOf)
theorem signs_len : signs.cps.toList.length = 36 := by decide +kernel
theorem getS {d : Int} (h0 : 0 ≤ d) (h1 : d < 36) : ∃ c, atI signs.cps.toList d = some c ∧ c ∈ signs.cps.toList := by
  have hl := signs_len
  obtain ⟨k, rfl⟩ : ∃ k : Nat, d = (k : Int) := ⟨d.toNat, by omega⟩
  have hd : k < signs.cps.toList.length := by omega
  exact ⟨signs.cps.toList[k], atI_nat (List.getElem?_eq_getElem hd), List.getElem_mem hd⟩
def codes14 : List Str := ["a", "b", "x", "1", "esc", "none", "through", "press", "tap", "hold", "code", "layer", "q9", "zzzzzzzz"]
def codes8 : List Str := ["00000000", "0", "lock", "once", "dual", "release", "down", "up"]
theorem codes_ok : ∀ c ∈ codes14 ++ codes8, CodeOk c := by decide +kernel
theorem codes_len : (codes14 ++ codes8).length = 22 := rfl
theorem getC {d : Int} (h0 : 0 ≤ d) (h1 : d < 22) : ∃ c, atI (codes14.map V.str ++ codes8.map V.str) d = some (.str c) ∧ CodeOk c := by
  have hl := codes_len
  have hd : d.toNat < (codes14 ++ codes8).length := by omega
  refine ⟨(codes14 ++ codes8)[d.toNat], ?_, codes_ok _ (List.getElem_mem hd)⟩
  rw [← List.map_append]
  refine at_of (j := d.toNat) (by omega) ?_
  rw [List.getElem?_map, List.getElem?_eq_getElem hd]
  rfl
theorem getW {ws : List Str} {d : Int} (h0 : 0 ≤ d) (h1 : d < (ws.length : Int)) : ∃ c, atI (ws.map V.str) d = some (.str c) ∧ c ∈ ws := by
  have hd : d.toNat < ws.length := by omega
  refine ⟨ws[d.toNat], ?_, List.getElem_mem hd⟩
  refine at_of (j := d.toNat) (by omega) ?_
  rw [List.getElem?_map, List.getElem?_eq_getElem hd]
  rfl
theorem sum_one : ∀ cs : List Nat, ((cs.map fun c => (⟨#[c]⟩ : Str)).map fun x => x.length).sum = cs.length
  | [] => rfl
  | c :: r => by
    have ih := sum_one r
    rw [List.map_cons, List.map_cons, List.sum_cons, ih, List.length_cons]
    show 1 + r.length = _
    omega
section
variable {P : Program} {w : World} {K : PySem.W.Frag} {mg : Str → Option Value} {base : Heap}
def spLCode : Sp := fun vs H Q _ => ∃ (r : Addr) (n : Nat), vs = [.ref r] ∧ Reel H r n ∧ n + 100 < most ∧
  ∀ (H' : Hp) (c : Str), Off r H H' → Reel H' r (n + 20) → CodeOk c → Q (.str c) H'
theorem ok__law_code (bt : Bt mg) (a : At K mg "_law_code" s__law_code ["_law_reel_here"]) (c__law_spin : Cl P w K mg base 1 "_law_spin" spSpin) : Cl P w K mg base 2 "_law_code" spLCode := by
  refine clG a sc__law_code (fun vs H Q E h => ?_) (fun f cdv A outer s H vs Q hg hr h => ?_)
  · obtain ⟨r, n, rfl, _⟩ := h
    rfl
  · obtain ⟨r, n, rfl, hR, hn, q⟩ := h
    have hn : n + 100 < 1000000000 := hn
    refine ⟨_, (pss_cons (ps_set (i := 1) sc__law_code.nd rfl (Or.inl rfl) (pe_lst (pa_cons pe_str (pa_cons pe_str (pa_cons pe_str (pa_cons pe_str (pa_cons pe_str (pa_cons pe_str (pa_cons pe_str (pa_cons pe_str (pa_cons pe_str (pa_cons pe_str (pa_cons pe_str (pa_cons pe_str (pa_cons pe_str (pa_cons pe_str pa_nil))))))))))))))))
      (pss_cons (ps_set (i := 1) sc__law_code.nd rfl (Or.inl rfl) (pe_op op_cat (pv 1) (pe_lst (pa_cons pe_str (pa_cons pe_str (pa_cons pe_str (pa_cons pe_str (pa_cons pe_str (pa_cons pe_str (pa_cons pe_str (pa_cons pe_str pa_nil)))))))))))
      (pss_cons (ps_set (i := 2) sc__law_code.nd rfl (Or.inl rfl) (pe_cl c__law_spin hg hr (by decide) (by rfl) (pa_cons (pv 0) (pa_cons pe_int pa_nil))))
      (pss_cons (ps_if (pt_cmpR op_lt (pv 2) pe_int (nomark _)) (pss_one (ps_ret (pe_ix ix_list (pv 1) (pv 2) (fun _ _ => rfl)))) pss_nil)
      (pss_cons (ps_asg (pe_tup (pa_cons (pe_op op_add pe_int (pe_cl c__law_spin hg hr (by decide) (by rfl) (pa_cons (pv 0) (pa_cons pe_int pa_nil)))) (pa_cons pe_str pa_nil))) (pg_tup rfl (pgs_cons (pg_name (i := 3) sc__law_code.nd rfl (Or.inl rfl)) (pgs_cons (pg_name (i := 4) sc__law_code.nd rfl (Or.inr rfl)) pgs_nil))))
      (pss_one (ps_ret (pe_bm PySem.F.plainAttrs_str PySem.F.slot_str_join PySem.F.type_str_join mt_join pe_str (pa_cons (pe_lc (own := [("_law_turn", 5)]) (g := (gName 5)) (by rfl) sc__law_code.nd (pi_range1 (by rfl) bt.m_range (pa_cons (pv 3) pa_nil)) (blkOk_by (N := n__law_code) (sc := defScope s__law_code) (by decide +kernel)) (fun _ _ _ _ _ => (pg_name (i := 5) sc__law_code.nd rfl (Or.inl rfl))) (fun _ _ _ _ _ => pts_nil) (fun _ _ _ _ _ => (pe_ix ix_str (pv 4) (pe_cl c__law_spin hg hr (by decide) (by rfl) (pa_cons (pv 0) (pa_cons pe_int pa_nil))) (fun _ _ => rfl)))) pa_nil))))))))), ?_⟩
    refine ⟨(by show 14 ≤ sizeLine; decide), fun S nS => ⟨_, rfl, (by show 8 ≤ sizeLine; decide), fun T nT => ⟨S, T, _, _, rfl, rfl, (same_upd nT) _ _ upd_same, upd_same, (by show 14 + 8 ≤ sizeLine; decide), fun U nU => ?_⟩⟩⟩
    have s1 : Same H (upd (upd (upd H S (.lst (codes14.map V.str))) T (.lst (codes8.map V.str))) U (.lst (codes14.map V.str ++ codes8.map V.str))) := ((same_upd nS).trans (same_upd nT)).trans (same_upd nU)
    have hU : upd (upd (upd H S (.lst (codes14.map V.str))) T (.lst (codes8.map V.str))) U (.lst (codes14.map V.str ++ codes8.map V.str)) U = some (.lst (codes14.map V.str ++ codes8.map V.str)) := upd_same
    have hN : H U = none := ((same_upd nS).trans (same_upd nT)).free nU
    refine (fun (G : ∀ H1, Same H H1 → H1 U = some (.lst (codes14.map V.str ++ codes8.map V.str)) → _) => G _ s1 hU) (fun H1 s1 hU => ?_)
    have R1 := hR.same s1
    have Ur : U ≠ r := by
      obtain ⟨_, _, _, hr2, _⟩ := id hR
      exact (ne_of_none hr2 hN).symm
    refine ⟨_, rfl, r, 27, n, rfl, by decide, by decide, by show _ < 1000000000; omega, R1, fun d H2 d0 d1 R2 o2 => ?_⟩
    have hU2 := o2 _ _ hU Ur
    have oH2 : Off r H H2 := (Off.of s1).trans o2
    refine ⟨_, rfl, _, _, rfl, rfl, _, rfl, ite2 (fun e => ?_) (fun e => ?_)⟩
    · have e0 : d < 22 := of_decide_eq_true e
      obtain ⟨c, hc, ok⟩ := getC d0 e0
      exact ⟨_, rfl, _, rfl, U, _, d, .str c, rfl, rfl, SqL.of hU2, hc, q _ c oH2 (R2.mono (by omega)) ok⟩
    · refine ⟨_, rfl, r, 8, n + 1, rfl, by decide, by decide, by show _ < 1000000000; omega, R2, fun m H3 m0 m1 R3 o3 => ⟨_, _, rfl, rfl, (by show 2 ≤ sizeLine; decide), fun p np => ⟨p, _, rfl, SqT.of upd_same, rfl, _, _, rfl, _, _, rfl, rfl, ?_⟩⟩⟩
      have R4 : Reel (upd H3 p (.tup [.int (1 + m), .str signs])) r (n + 2) := R3.same (same_upd np)
      have o4 : Off r H (upd H3 p (.tup [.int (1 + m), .str signs])) := (oH2.trans o3).sameTrans (same_upd np)
      refine (fun (G : ∀ H4, Reel H4 r (n + 2) → Off r H H4 → _) => G _ R4 o4) (fun H4 R4 o4 => ?_)
      refine ⟨rfl, _, rfl, 1 + m, rfl, by omega, by omega, fun M nM => lc_it walk_range (fun i H' => Off r H4 H' ∧ Reel H' r (n + 2 + i) ∧ ∃ cs : List Nat, H' M = some (.lst ((cs.map fun c => (⟨#[c]⟩ : Str)).map V.str)) ∧ cs.length = i ∧ ∀ c ∈ cs, c ∈ signs.cps.toList) ?_ (fun _ _ _ _ => True.intro) (fun i x H5 H6 hi p y => ?_) (fun H5 p => ?_)⟩
      · exact ⟨Off.of (same_upd nM), R4.same (same_upd nM), [], upd_same, rfl, fun c h => by simp at h⟩
      · obtain ⟨rfl, rfl⟩ := y
        obtain ⟨o5, R5, cs, hM, hl, hcs⟩ := p
        have Mr : M ≠ r := by
          obtain ⟨_, _, _, hr2, _⟩ := id R4
          exact (ne_of_none hr2 nM).symm
        have hi8 : i < 8 := by omega
        refine ⟨rfl, ⟨_, rfl, _, rfl, r, 36, n + 2 + i, rfl, by decide, by decide, by show _ < 1000000000; omega, R5, fun d' H7 d0' d1' R7 o7 => ?_⟩⟩
        obtain ⟨c, hc, hm⟩ := getS d0' d1'
        refine ⟨signs, d', c, rfl, rfl, (by decide +kernel), hc, _, o7 _ _ hM Mr, ?_, ?_⟩
        · rw [List.length_map, List.length_map]; exact small1000 (by omega)
        · refine ⟨(o5.trans o7).new nM, ?_, cs ++ [c], ?_, by rw [List.length_append, hl]; rfl, fun x hx => ?_⟩
          · obtain ⟨x, y, z, g, g'⟩ := R7
            exact ⟨x, y, z, by rw [upd_ne Mr.symm]; exact g, g'⟩
          · rw [upd_same, List.map_append, List.map_append]; rfl
          · rcases List.mem_append.mp hx with z | z
            · exact hcs x z
            · rw [List.mem_singleton.mp z]; exact hm
      · obtain ⟨o5, R5, cs, hM, hl, hcs⟩ := p
        refine ⟨"", M, cs.map fun c => ⟨#[c]⟩, rfl, rfl, .inl (SqL.of hM), ?_, ?_⟩
        · rw [sum_one, List.length_map]
          show _ + _ * 0 ≤ 16777216
          omega
        · refine q _ _ (o4.trans o5) (R5.mono (by omega)) (code_join (by omega) (by omega) hcs)
end
def holdOk (H : Hp) (n : Int) (b : Addr) : Prop := (∃ d, H b = some (.tup [.str "code", .str d]) ∧ CodeOk d) ∨ (∃ j, H b = some (.tup [.str "layer", .int j]) ∧ 1 ≤ j ∧ j ≤ n - 1)
theorem holdOk.keep {H H' : Hp} {n : Int} {b : Addr} (h : holdOk H n b) (t : Tk H H') : holdOk H' n b := by
  rcases h with ⟨d, a, c⟩ | ⟨j, a, c⟩
  · exact .inl ⟨d, t _ _ a, c⟩
  · exact .inr ⟨j, t _ _ a, c⟩
theorem small40 {n : Int} (h : n ≤ 1000000000) : n < 10 ^ 40 := Int.lt_of_le_of_lt h (by decide)
section
variable {P : Program} {w : World} {K : PySem.W.Frag} {mg : Str → Option Value} {base : Heap}
def spLAct : Sp := fun vs H Q _ => ∃ (r : Addr) (k : Nat) (i n g : Int), vs = [.ref r, .int i, .int n, .int g] ∧ Reel H r k ∧ k + 1000 < most ∧ 0 ≤ i ∧ 1 ≤ n ∧ n ≤ 1000 ∧ 1 ≤ g ∧ g ≤ 1000000000 ∧
  ∀ (H' : Hp) (v : V) (x : Actn), Off r H H' → Reel H' r (k + 100) → ActV H' x v → ActOk n i x → timeOf x ≤ g → Q v H'
theorem ok__law_action (bt : Bt mg) (a : At K mg "_law_action" s__law_action ["_law_reel_here", "_law_layer", "_law_layers", "_law_longest"]) (c__law_spin : Cl P w K mg base 1 "_law_spin" spSpin) (c__law_code : Cl P w K mg base 2 "_law_code" spLCode) : Cl P w K mg base 3 "_law_action" spLAct := by
  refine clG a sc__law_action (fun vs H Q E h => ?_) (fun f cdv A outer s H vs Q hg hr h => ?_)
  · obtain ⟨r, k, i, n, g, rfl, _⟩ := h
    rfl
  · obtain ⟨r, k, i, n, g, rfl, hR, hk, hi, hn, hn2, hg1, hg2, q⟩ := h
    have hk : k + 1000 < 1000000000 := hk
    refine ⟨_, (pss_cons (ps_set (i := 4) sc__law_action.nd rfl (Or.inl rfl) (pe_cl c__law_spin hg hr (by decide) (by rfl) (pa_cons (pv 0) (pa_cons pe_int pa_nil))))
      (pss_cons (ps_if (pt_cmpR op_lt (pv 4) pe_int (nomark _)) (pss_one (ps_ret (pe_tup (pa_cons pe_str (pa_cons (pe_cl c__law_code hg hr (by decide) (by rfl) (pa_cons (pv 0) pa_nil)) pa_nil))))) pss_nil)
      (pss_cons (ps_if (pt_cmpR op_eq (pv 4) pe_int (nomark _)) (pss_one (ps_ret pe_str)) pss_nil)
      (C8.pss_cut (ps_if (PW.pt (pw_and (pt_cmpR op_lt (pv 4) pe_int (nomark _)) (pw_and1 (pt_cmpR op_gt (pv 1) pe_int (nomark _))))) (pss_one (ps_ret pe_str)) pss_nil)
      (C8.pss_cut (ps_if (PW.pt (pw_and (pt_cmpR op_lt (pv 4) pe_int (nomark _)) (pw_and1 (pt_cmpR op_gt (pv 2) pe_int (nomark _))))) (pss_one (ps_ret (pe_tup (pa_cons (pe_ix ix_list (pe_lst (pa_cons pe_str (pa_cons pe_str (pa_cons pe_str pa_nil)))) (pe_cl c__law_spin hg hr (by decide) (by rfl) (pa_cons (pv 0) (pa_cons pe_int pa_nil))) (fun _ _ => rfl)) (pa_cons (pe_op op_add pe_int (pe_cl c__law_spin hg hr (by decide) (by rfl) (pa_cons (pv 0) (pa_cons (pe_op op_sub (pv 2) pe_int) pa_nil)))) pa_nil))))) pss_nil)
      (pss_cons (ps_set (i := 5) sc__law_action.nd rfl (Or.inl rfl) (pe_tup (pa_cons pe_str (pa_cons (pe_cl c__law_code hg hr (by decide) (by rfl) (pa_cons (pv 0) pa_nil)) pa_nil))))
      (C8.pss_cut (ps_if (PW.pt (pw_and (pt_cmpR op_gt (pv 2) pe_int (nomark _)) (pw_and1 (pt_cmpR op_gt (pe_cl c__law_spin hg hr (by decide) (by rfl) (pa_cons (pv 0) (pa_cons pe_int pa_nil))) pe_int (nomark _))))) (pss_one (ps_set (i := 5) sc__law_action.nd rfl (Or.inl rfl) (pe_tup (pa_cons pe_str (pa_cons (pe_op op_add pe_int (pe_cl c__law_spin hg hr (by decide) (by rfl) (pa_cons (pv 0) (pa_cons (pe_op op_sub (pv 2) pe_int) pa_nil)))) pa_nil))))) pss_nil)
      (pss_cons (ps_set (i := 6) sc__law_action.nd rfl (Or.inl rfl) (pe_ix ix_list (pe_lst (pa_cons (pe_op op_add pe_int (pe_cl c__law_spin hg hr (by decide) (by rfl) (pa_cons (pv 0) (pa_cons (pe_callB (call_min2 rfl) (by rfl) bt.m_min (by decide +kernel) (pa_cons pe_int (pa_cons (pv 3) pa_nil))) pa_nil)))) (pa_cons (pe_op op_add pe_int (pe_cl c__law_spin hg hr (by decide) (by rfl) (pa_cons (pv 0) (pa_cons (pv 3) pa_nil)))) (pa_cons (pv 3) pa_nil)))) (pe_cl c__law_spin hg hr (by decide) (by rfl) (pa_cons (pv 0) (pa_cons pe_int pa_nil))) (fun _ _ => rfl)))
      (pss_one (ps_ret (pe_tup (pa_cons pe_str (pa_cons (pe_cl c__law_code hg hr (by decide) (by rfl) (pa_cons (pv 0) pa_nil)) (pa_cons (pv 5) (pa_cons (pv 6) (pa_cons (pe_ix ix_list (pe_lst (pa_cons pe_str (pa_cons pe_str (pa_cons pe_str pa_nil)))) (pe_cl c__law_spin hg hr (by decide) (by rfl) (pa_cons (pv 0) (pa_cons pe_int pa_nil))) (fun _ _ => rfl)) pa_nil)))))))))))))))), ?_⟩
    refine ⟨_, rfl, r, 12, k, rfl, by decide, by decide, by show _ < 1000000000; omega, hR, fun way H1 w0 w1 R1 o1 => ?_⟩
    refine ⟨_, rfl, _, _, rfl, rfl, _, rfl, ite2 (fun e => ?_) (fun e => ?_)⟩
    · refine ⟨_, rfl, r, k + 1, rfl, R1, by show _ < 1000000000; omega, fun H2 c o2 R2 ok => ⟨(by show 2 ≤ sizeLine; decide), fun p np => ?_⟩⟩
      exact q _ _ (.code c) ((o1.trans o2).sameTrans (same_upd np)) ((R2.same (same_upd np)).mono (by omega)) ⟨p, rfl, upd_same⟩ ok (by show (0 : Int) ≤ g; omega)
    clear e
    refine ⟨_, rfl, rfl, _, rfl, ite2 (fun e => q _ _ .none o1 (R1.mono (by omega)) rfl True.intro (by show (0 : Int) ≤ g; omega)) (fun e => ?_)⟩
    clear e
    refine ⟨fun σ' H' => σ' = [some (.ref r), some (.int i), some (.int n), some (.int g), some (.int way), none, none] ∧ H' = H1, ?_, ?_⟩
    · refine ⟨_, rfl, _, _, rfl, rfl, _, rfl, ite2 (fun e => ?_) (fun e => iteF ⟨rfl, rfl⟩)⟩
      refine ⟨_, rfl, _, _, rfl, rfl, _, rfl, ite2 (fun e => ?_) (fun e => ⟨rfl, rfl⟩)⟩
      have e0 : 0 < i := of_decide_eq_true e
      exact q _ _ .thr o1 (R1.mono (by omega)) rfl e0 (by show (0 : Int) ≤ g; omega)
    rintro σ' H1 ⟨rfl, rfl⟩
    refine ⟨fun σ' H' => σ' = [some (.ref r), some (.int i), some (.int n), some (.int g), some (.int way), none, none] ∧ H' = H1, ?_, ?_⟩
    · refine ⟨_, rfl, _, _, rfl, rfl, _, rfl, ite2 (fun e => ?_) (fun e => iteF ⟨rfl, rfl⟩)⟩
      refine ⟨_, rfl, _, _, rfl, rfl, _, rfl, ite2 (fun e => ?_) (fun e => ⟨rfl, rfl⟩)⟩
      have e0 : 1 < n := of_decide_eq_true e
      refine ⟨(by show 3 ≤ sizeLine; decide), fun M nM => ⟨_, rfl, r, 3, k + 1, rfl, by decide, by decide, by show _ < 1000000000; omega, R1.same (same_upd nM), fun d H2 d0 d1 R2 o2 => ?_⟩⟩
      have Mr : M ≠ r := by
        obtain ⟨_, _, _, hr2, _⟩ := id R1
        exact (ne_of_none hr2 nM).symm
      have hM := o2 _ _ (upd_same (H := H1) (a := M) (o := .lst (layWords.map V.str))) Mr
      obtain ⟨c, hc, hm⟩ := getW (ws := layWords) d0 d1
      refine ⟨M, _, d, .str c, rfl, rfl, SqL.of hM, hc, _, rfl, _, rfl, _, _, rfl, rfl, r, n - 1, k + 2, rfl, by omega, small40 (by omega), by show _ < 1000000000; omega, R2, fun j H3 j0 j1 R3 o3 => ⟨_, _, rfl, rfl, (by show 2 ≤ sizeLine; decide), fun p np => ?_⟩⟩
      exact q _ _ (.lay c (1 + j)) (((((o1.sameTrans (same_upd nM)).trans o2).trans o3)).sameTrans (same_upd np)) ((R3.same (same_upd np)).mono (by omega)) ⟨p, rfl, upd_same⟩ ⟨hm, by omega, by omega⟩ (by show (0 : Int) ≤ g; omega)
    rintro σ' H1 ⟨rfl, rfl⟩
    refine ⟨_, rfl, r, k + 1, rfl, R1, by show _ < 1000000000; omega, fun H2 c o2 R2 ok => ⟨(by show 2 ≤ sizeLine; decide), fun p np => ?_⟩⟩
    have h3 : holdOk (upd H2 p (.tup [.str "code", .str c])) n p := .inl ⟨c, upd_same, ok⟩
    have o3 : Off r H (upd H2 p (.tup [.str "code", .str c])) := (o1.trans o2).sameTrans (same_upd np)
    have R3 : Reel (upd H2 p (.tup [.str "code", .str c])) r (k + 1 + 20) := R2.same (same_upd np)
    refine (fun (G : ∀ H3, holdOk H3 n p → Off r H H3 → Reel H3 r (k + 1 + 20) → _) => G _ h3 o3 R3) (fun H3 h3 o3 R3 => ?_)
    refine ⟨fun σ' H' => ∃ b, σ' = [some (.ref r), some (.int i), some (.int n), some (.int g), some (.int way), some (.ref b), none] ∧ Off r H H' ∧ Reel H' r (k + 30) ∧ holdOk H' n b, ?_, ?_⟩
    · refine ⟨_, rfl, _, _, rfl, rfl, _, rfl, ite2 (fun e => ?_) (fun e => iteF ⟨p, rfl, o3, R3.mono (by omega), h3⟩)⟩
      have e0 : 1 < n := of_decide_eq_true e
      refine ⟨_, rfl, r, 3, k + 1 + 20, rfl, by decide, by decide, by show _ < 1000000000; omega, R3, fun d H4 d0 d1 R4 o4 => ⟨_, _, rfl, rfl, _, rfl, ite2 (fun e => ?_) (fun e => ⟨p, rfl, o3.trans o4, R4.mono (by omega), h3.keep (R3.tk o4)⟩)⟩⟩
      refine ⟨_, rfl, _, rfl, _, _, rfl, rfl, r, n - 1, k + 1 + 20 + 1, rfl, by omega, small40 (by omega), by show _ < 1000000000; omega, R4, fun j H5 j0 j1 R5 o5 => ⟨_, _, rfl, rfl, (by show 2 ≤ sizeLine; decide), fun p2 np2 => ?_⟩⟩
      exact ⟨p2, rfl, ((o3.trans o4).trans o5).sameTrans (same_upd np2), (R5.same (same_upd np2)).mono (by omega), .inr ⟨1 + j, upd_same, by omega, by omega⟩⟩
    rintro σ' H4 ⟨b, rfl, o4, R4, h4⟩
    have gm : ∀ x : Int, 0 < (if g < x then g else x) ∨ x ≤ 0 := fun x => by split <;> omega
    refine ⟨_, rfl, _, rfl, _, _, rfl, r, (if g < 4 then g else 4), k + 30, rfl, by split <;> omega, small40 (by split <;> omega), by show _ < 1000000000; omega, R4, fun t1 H5 a0 a1 R5 o5 => ⟨_, _, rfl, rfl, ?_⟩⟩
    refine ⟨_, rfl, _, rfl, r, g, k + 30 + 1, rfl, by omega, small40 hg2, by show _ < 1000000000; omega, R5, fun t2 H6 b0 b1 R6 o6 => ⟨_, _, rfl, rfl, _, rfl, (by show 3 ≤ sizeLine; decide), fun M nM => ?_⟩⟩
    refine ⟨_, rfl, r, 3, k + 30 + 1 + 1, rfl, by decide, by decide, by show _ < 1000000000; omega, R6.same (same_upd nM), fun d H7 d0 d1 R7 o7 => ?_⟩
    have Mr : M ≠ r := by
      obtain ⟨_, _, _, hr2, _⟩ := id R6
      exact (ne_of_none hr2 nM).symm
    have hM := o7 _ _ (upd_same (H := H6) (a := M) (o := .lst ([1 + t1, 1 + t2, g].map V.int))) Mr
    obtain ⟨t, ht, hm⟩ := getI (ns := [1 + t1, 1 + t2, g]) d0 d1
    have tb : 1 ≤ t ∧ t ≤ 1000000000 := by
      have hm' := List.mem_of_getElem? hm
      simp only [List.mem_cons, List.mem_nil_iff, or_false] at hm'
      have a1' : t1 < 4 := by
        revert a1
        split <;> omega
      have a2' : t1 < g := by
        revert a1
        split <;> omega
      omega
    have tg : t ≤ g := by
      have hm' := List.mem_of_getElem? hm
      simp only [List.mem_cons, List.mem_nil_iff, or_false] at hm'
      have a1' : t1 < 4 := by
        revert a1
        split <;> omega
      have a2' : t1 < g := by
        revert a1
        split <;> omega
      omega
    refine ⟨M, _, d, .int t, rfl, rfl, SqL.of hM, ht, ?_⟩
    have o07 : Off r H H7 := (((o4.trans o5).trans o6).sameTrans (same_upd nM)).trans o7
    have h7 : holdOk H7 n b := (((h4.keep (R4.tk o5)).keep (R5.tk o6)).keep (Tk.of (same_upd nM))).keep ((R6.same (same_upd nM)).tk o7)
    refine ⟨_, rfl, r, k + 40, rfl, R7.mono (by omega), by show _ < 1000000000; omega, fun H8 c2 o8 R8 ok2 => ⟨_, rfl, _, rfl, (by show 3 ≤ sizeLine; decide), fun W nW => ?_⟩⟩
    refine ⟨_, rfl, r, 3, k + 40 + 20, rfl, by decide, by decide, by show _ < 1000000000; omega, R8.same (same_upd nW), fun d' H9 d0' d1' R9 o9 => ?_⟩
    have Wr : W ≠ r := by
      obtain ⟨_, _, _, hr2, _⟩ := id R8
      exact (ne_of_none hr2 nW).symm
    have hW := o9 _ _ (upd_same (H := H8) (a := W) (o := .lst (rules.map V.str))) Wr
    obtain ⟨u, hu, hmu⟩ := getW (ws := rules) d0' d1'
    refine ⟨W, _, d', .str u, rfl, rfl, SqL.of hW, hu, (by show 5 ≤ sizeLine; decide), fun z nz => ?_⟩
    have h9 : holdOk (upd H9 z (.tup [.str "dual", .str c2, .ref b, .int t, .str u])) n b := (((h7.keep (R7.tk o8)).keep (Tk.of (same_upd nW))).keep ((R8.same (same_upd nW)).tk o9)).keep (Tk.of (same_upd nz))
    have o10 : Off r H (upd H9 z (.tup [.str "dual", .str c2, .ref b, .int t, .str u])) := ((((o07.trans o8).sameTrans (same_upd nW)).trans o9)).sameTrans (same_upd nz)
    have R10 : Reel (upd H9 z (.tup [.str "dual", .str c2, .ref b, .int t, .str u])) r (k + 100) := (R9.same (same_upd nz)).mono (by omega)
    rcases h9 with ⟨y, hy, oky⟩ | ⟨y, hy, y1, y2⟩
    · exact q _ _ (.dualC c2 y t u) o10 R10 ⟨z, b, rfl, upd_same, hy⟩ ⟨ok2, oky, tb, hmu⟩ tg
    · exact q _ _ (.dualL c2 y t u) o10 R10 ⟨z, b, rfl, upd_same, hy⟩ ⟨ok2, ⟨y1, y2⟩, tb, hmu⟩ tg
end
end K74

set_option Elab.async false
set_option linter.all false
set_option maxRecDepth 100000
set_option maxHeartbeats 8000000
namespace K74
open PySem PySem.Spec PyProof.Rows L2 Gd Rm La Cb
open Pl (timeOf)
theorem row_upd {H : Hp} {r p : Addr} {xs : List Actn} {ys zs : List V} (h : Row H r xs) (hp : H p = some (.lst ys)) (n : r ≠ p) : Row (upd H p (.lst zs)) r xs := by
  obtain ⟨vs, a, b⟩ := h
  exact ⟨vs, by rw [upd_ne n]; exact a, b.keep (tk_upd hp)⟩
theorem Rows.snoc {H : Hp} {rs : List Addr} {L : List (List Actn)} {r : Addr} {row : List Actn} (h : Rows H rs L) (hr : Row H r row) : Rows H (rs ++ [r]) (L ++ [row]) := by
  refine ⟨by rw [List.length_append, List.length_append, h.1]; rfl, fun i u y a b => ?_⟩
  have hl := h.1
  rcases Nat.lt_or_ge i rs.length with q | q
  · rw [List.getElem?_append_left q] at a
    rw [List.getElem?_append_left (by omega)] at b
    exact h.2 i u y a b
  · have hi : i = rs.length := by
      have := (List.getElem?_eq_some_iff.mp a).1
      rw [List.length_append] at this
      simp at this
      omega
    subst hi
    rw [List.getElem?_append_right (Nat.le_refl _), Nat.sub_self] at a
    rw [List.getElem?_append_right (by omega), show rs.length - L.length = 0 by omega] at b
    have e1 : r = u := Option.some.inj a
    have e2 : row = y := Option.some.inj b
    subst e1 e2
    exact hr
def FL (H0 : Hp) (D : Addr) (L : List (List Actn)) (H : Hp) : Prop := ∃ rs : List Addr, H D = some (.lst (rs.map V.ref)) ∧ Rows H rs L ∧ rs.Nodup ∧ ∀ r ∈ rs, H0 r = none ∧ r ≠ D
theorem FL.lay {H0 H : Hp} {D : Addr} {L : List (List Actn)} (h : FL H0 D L H) : Lay H D L := by
  obtain ⟨rs, a, b, _⟩ := h
  exact ⟨rs, a, b⟩
theorem row_off {H H' : Hp} {r p : Addr} {xs : List Actn} (h : Row H p xs) (n : p ≠ r) (o : Off r H H') (t : Tk H H') : Row H' p xs := by
  obtain ⟨vs, a, b⟩ := h
  exact ⟨vs, o _ _ a n, b.keep t⟩
theorem FL.more {H0 H1 H5 : Hp} {F M r : Addr} {L : List (List Actn)} {row : List Actn} {vs : List V} {oo : HO} (g : FL H0 F L H1) (nF : H0 F = none) (hr0 : H0 r = some oo) (fM : H0 M = none) (nM : H1 M = none) (o : Off r H1 H5) (t : Tk H1 H5)
    (hM : H5 M = some (.lst vs)) (ha : Acts H5 vs row) : ∃ acc : List V, H5 F = some (.lst acc) ∧ acc.length = L.length ∧ FL H0 F (L ++ [row]) (upd H5 F (.lst (acc ++ [.ref M]))) := by
  obtain ⟨rs, h, hR, nd, hn⟩ := g
  have Fr : F ≠ r := (ne_of_none hr0 nF).symm
  have FM : F ≠ M := ne_of_none h nM
  have h5 : H5 F = some (.lst (rs.map V.ref)) := o _ _ h Fr
  refine ⟨rs.map V.ref, h5, by rw [List.length_map]; exact hR.1, rs ++ [M], by rw [upd_same, List.map_append]; rfl, ?_, ?_, fun q hq => ?_⟩
  · refine Rows.snoc ⟨hR.1, fun i r' row' a b => row_upd (row_off (hR.2 i r' row' a b) ?_ o t) h5 (hn r' (List.mem_of_getElem? a)).2⟩ ⟨vs, by rw [upd_ne FM.symm]; exact hM, ha.keep (tk_upd h5)⟩
    exact (ne_of_none hr0 (hn r' (List.mem_of_getElem? a)).1).symm
  · refine List.nodup_append.mpr ⟨nd, List.nodup_cons.mpr ⟨by simp, List.nodup_nil⟩, fun a ha' b hb e => ?_⟩
    have hb : b = M := List.mem_singleton.mp hb
    subst hb
    subst e
    obtain ⟨i, hi⟩ := List.getElem?_of_mem ha'
    have hil := (List.getElem?_eq_some_iff.mp hi).1
    obtain ⟨vs', hv, _⟩ := hR.2 i a _ hi (List.getElem?_eq_getElem (by rw [← hR.1]; exact hil))
    rw [nM] at hv
    cases hv
  · rcases List.mem_append.mp hq with z | z
    · exact hn q z
    · rw [List.mem_singleton.mp z]; exact ⟨fM, FM.symm⟩
section
variable {P : Program} {w : World} {K : PySem.W.Frag} {mg : Str → Option Value} {base : Heap}
def spLLay : Sp := fun vs H Q _ => ∃ (r : Addr) (k n m : Nat) (g : Int), vs = [.ref r, .int (n : Int), .int (m : Int), .int g] ∧ Reel H r k ∧ k + 20000 < most ∧ 1 ≤ n ∧ n ≤ 6 ∧ 1 ≤ m ∧ m ≤ 16 ∧ 1 ≤ g ∧ g ≤ 1000000000 ∧
  ∀ (H' : Hp) (p : Addr) (L : List (List Actn)), Off r H H' → H p = none → Reel H' r (k + 10000) → FL H p L H' → LayOk L m → L.length = n → (∀ row ∈ L, ∀ x ∈ row, timeOf x ≤ g) → Q (.ref p) H'
theorem ok__law_layout (bt : Bt mg) (a : At K mg "_law_layout" s__law_layout ["_law_reel_here", "_law_layers", "_law_keys", "_law_longest"]) (c__law_action : Cl P w K mg base 3 "_law_action" spLAct) : Cl P w K mg base 4 "_law_layout" spLLay := by
  refine clG a sc__law_layout (fun vs H Q E h => ?_) (fun f cdv A outer s H vs Q hg hr h => ?_)
  · obtain ⟨r, k, n, m, g, rfl, _⟩ := h
    rfl
  · obtain ⟨r, k, n, m, g, rfl, hR, hk, n1, n6, m1, m16, g1, g2, q⟩ := h
    have hk : k + 20000 < 1000000000 := hk
    obtain ⟨_, _, _, hr0, _⟩ := id hR
    refine ⟨_, (pss_cons (ps_set (i := 4) sc__law_layout.nd rfl (Or.inl rfl) (pe_lst pa_nil))
      (pss_cons (ps_for PassesOwn.never rfl (pi_range1 (by rfl) bt.m_range (pa_cons (pv 1) pa_nil)) (pg_name (i := 5) sc__law_layout.nd rfl (Or.inr rfl)) (pss_one (ps_expr (pe_bm PySem.F.plainAttrs_list PySem.F.slot_list_append PySem.F.type_list_append mt_append (pv 4) (pa_cons (pe_lc (own := [("_law_key", 6)]) (g := (gName 6)) (by rfl) sc__law_layout.nd (pi_range1 (by rfl) bt.m_range (pa_cons (pv 2) pa_nil)) (blkOk_by (N := n__law_layout) (sc := defScope s__law_layout) (by decide +kernel)) (fun _ _ _ _ _ => (pg_name (i := 6) sc__law_layout.nd rfl (Or.inl rfl))) (fun _ _ _ _ _ => pts_nil) (fun _ _ _ _ _ => (pe_cl c__law_action hg hr (by decide) (by rfl) (pa_cons (pv 0) (pa_cons (pv 5) (pa_cons (pv 1) (pa_cons (pv 3) pa_nil))))))) pa_nil)))))
      (pss_one (ps_ret (pv 4))))), ?_⟩
    refine ⟨Nat.zero_le _, fun F nF => ?_⟩
    have fl0 : FL H F [] (upd H F (.lst [])) := ⟨[], upd_same, ⟨rfl, fun i r row h _ => by simp at h⟩, List.nodup_nil, fun r h => by simp at h⟩
    have Fr : F ≠ r := (ne_of_none hr0 nF).symm
    refine ⟨_, rfl, (n : Int), rfl, by omega, by omega, for_it walk_range (fun i σ H' => (∃ y5 y6, σ = [some (.ref r), some (.int (n : Int)), some (.int (m : Int)), some (.int g), some (.ref F), y5, y6]) ∧ Off r H H' ∧ Reel H' r (k + 1600 * i) ∧ ∃ L, FL H F L H' ∧ L.length = i ∧ (∀ row ∈ L, row.length = m) ∧ ∀ (i' : Nat) row, L[i']? = some row → ∀ x ∈ row, ActOk n i' x ∧ timeOf x ≤ g)
      ⟨⟨_, _, rfl⟩, Off.of (same_upd nF), hR.same (same_upd nF), [], fl0, rfl, fun row h => by simp at h, fun i' row h => by simp at h⟩ (fun _ _ _ _ _ => True.intro) (fun i x σ Hx H1 hi p y => ?_) (fun σ H1 p => ?_)⟩
    · obtain ⟨⟨y5, y6, rfl⟩, o1, R1, L, fl, hL, hlen, hok⟩ := p
      obtain ⟨rfl, hx⟩ := y
      have hx : x = .int (0 + (i : Int)) := hx
      have e0 : (0 : Int) + (i : Int) = (i : Int) := Int.zero_add _
      rw [e0] at hx
      subst hx
      have hi6 : i < 6 := by omega
      obtain ⟨rs, hF, _⟩ := id fl
      refine ⟨_, rfl, .inl ⟨rfl, _, SqL.of hF⟩, _, rfl, (m : Int), rfl, by omega, by omega, fun M nM => lc_it walk_range (fun j H' => Off r H1 H' ∧ Reel H' r (k + 1600 * i + 100 * j) ∧ ∃ vs xs, H' M = some (.lst vs) ∧ Acts H' vs xs ∧ xs.length = j ∧ ∀ x ∈ xs, ActOk n i x ∧ timeOf x ≤ g) ?_ (fun _ _ _ _ => True.intro) (fun j x Hx H2 hj p y => ?_) (fun H2 p => ?_)⟩
      · exact ⟨Off.of (same_upd nM), R1.same (same_upd nM), [], [], upd_same, Acts.nil, rfl, fun x h => by simp at h⟩
      · obtain ⟨o2, R2, vs, xs, hM, hA, hxl, hxo⟩ := p
        obtain ⟨rfl, rfl⟩ := y
        obtain ⟨_, _, _, hr1, _⟩ := id R1
        have Mr : M ≠ r := (ne_of_none hr1 nM).symm
        have hj16 : j < 16 := by omega
        refine ⟨rfl, ⟨_, rfl, _, rfl, _, rfl, _, rfl, r, k + 1600 * i + 100 * j, i, n, g, rfl, R2, by show _ < 1000000000; omega, by omega, by omega, by omega, g1, g2, fun H3 v x o3 R3 hv ok tg => ?_⟩⟩
        have hM3 := o3 _ _ hM Mr
        have hvl := hA.1
        refine ⟨vs, hM3, small1000 (by omega), (o2.trans o3).new nM, ?_, vs ++ [v], xs ++ [x], upd_same, ?_, by rw [List.length_append, hxl]; rfl, fun z hz => ?_⟩
        · obtain ⟨x, y, z, g, g'⟩ := R3
          exact ⟨x, y, z, by rw [upd_ne Mr.symm]; exact g, by have := g'; omega⟩
        · exact ((hA.keep (R2.tk o3)).snoc hv).keep (tk_upd hM3)
        · rcases List.mem_append.mp hz with q | q
          · exact hxo z q
          · rw [List.mem_singleton.mp q]; exact ⟨ok, tg⟩
      · obtain ⟨o2, R2, vs, xs, hM, hA, hxl, hxo⟩ := p
        obtain ⟨_, _, _, hr1, _⟩ := id R1
        obtain ⟨acc, hF2, hal, fl2⟩ := fl.more nF hr0 (o1.free hr1 nM) nM o2 (R1.tk o2) hM hA
        refine ⟨F, acc, .ref M, rfl, rfl, hF2, small1000 (by omega), ⟨_, _, rfl⟩, (o1.trans o2).new nF, ?_, L ++ [xs], fl2, by rw [List.length_append, hL]; rfl, fun row hrow => ?_, fun i' row hrow => ?_⟩
        · obtain ⟨x, y, z, g, g'⟩ := R2
          exact ⟨x, y, z, by rw [upd_ne Fr.symm]; exact g, by have := g'; omega⟩
        · rcases List.mem_append.mp hrow with z | z
          · exact hlen row z
          · rw [List.mem_singleton.mp z, hxl]; omega
        · rcases Nat.lt_or_ge i' L.length with z | z
          · rw [List.getElem?_append_left z] at hrow
            exact hok i' row hrow
          · have hi' : i' = L.length := by
              have := (List.getElem?_eq_some_iff.mp hrow).1
              rw [List.length_append] at this
              simp at this
              omega
            subst hi'
            rw [List.getElem?_append_right (Nat.le_refl _), Nat.sub_self] at hrow
            have e : xs = row := Option.some.inj hrow
            subst e
            rw [hL]
            exact hxo
    · obtain ⟨⟨y5, y6, rfl⟩, o1, R1, L, fl, hL, hlen, hok⟩ := p
      have hL : L.length = n := by omega
      refine ⟨_, rfl, q _ F L o1 nF (R1.mono (by omega)) fl ⟨by omega, by omega, m1, m16, hlen, ?_⟩ hL (fun row hr x hx => ?_)⟩
      · rw [hL]
        exact fun i' row h x hx => (hok i' row h x hx).1
      · obtain ⟨i', hi'⟩ := List.getElem?_of_mem hr
        exact (hok i' row hi' x hx).2
end
end K74

set_option Elab.async false
set_option linter.all false
set_option maxRecDepth 100000
set_option maxHeartbeats 8000000
namespace K74
open PySem PySem.Spec PyProof.Rows L2 Gd Rm La Cb Pl
theorem lk_ne {f g : Str} {v : V} {r : List (Str × V)} (h : f ≠ g) : ((g, v) :: r).lookup f = r.lookup f := by
  rw [List.lookup_cons, beq_false_of_ne h]
theorem lk_eq {f : Str} {v : V} {r : List (Str × V)} : ((f, v) :: r).lookup f = some v := by
  rw [List.lookup_cons, beq_self_eq_true]
theorem pf_ne {f g : Str} {x v : V} {r : List (Str × V)} (h : g ≠ f) : putF f v ((g, x) :: r) = (g, x) :: putF f v r := if_neg h
theorem pf_eq {f : Str} {x v : V} {r : List (Str × V)} : putF f v ((f, x) :: r) = (f, v) :: r := if_pos rfl
theorem flat_rep {v : V} (m : Nat) : (List.replicate m [v]).flatten = List.replicate m v := by
  induction m with
  | zero => rfl
  | succ m ih => rw [List.replicate_succ, List.flatten_cons, ih, List.replicate_succ]; rfl
def flds (c l : Addr) (o : Int) (d e : Addr) : List (Str × V) := [("layout", .ref c), ("locked", .ref l), ("once", .int o), ("bound", .ref d), ("pressed", .ref e)]
section
variable {c l d e : Addr} {o y : Int}
theorem f_lay : (flds c l o d e).lookup ("layout" : Str) = some (.ref c) := lk_eq
theorem f_lock : (flds c l o d e).lookup ("locked" : Str) = some (.ref l) := by
  unfold flds
  rw [lk_ne (by decide +kernel), lk_eq]
theorem f_once : (flds c l o d e).lookup ("once" : Str) = some (.int o) := by
  unfold flds
  rw [lk_ne (by decide +kernel), lk_ne (by decide +kernel), lk_eq]
theorem f_bound : (flds c l o d e).lookup ("bound" : Str) = some (.ref d) := by
  unfold flds
  rw [lk_ne (by decide +kernel), lk_ne (by decide +kernel), lk_ne (by decide +kernel), lk_eq]
theorem f_pressed : (flds c l o d e).lookup ("pressed" : Str) = some (.ref e) := by
  unfold flds
  rw [lk_ne (by decide +kernel), lk_ne (by decide +kernel), lk_ne (by decide +kernel), lk_ne (by decide +kernel), lk_eq]
def names5 : List Str := ["layout", "locked", "once", "bound", "pressed"]
theorem f_no {m : Str} (h : m ∉ names5) : (flds c l o d e).lookup m = none := by
  unfold names5 at h
  simp only [List.mem_cons, List.mem_nil_iff, or_false, not_or] at h
  unfold flds
  rw [lk_ne h.1, lk_ne h.2.1, lk_ne h.2.2.1, lk_ne h.2.2.2.1, lk_ne h.2.2.2.2]
  rfl
theorem f_put : putF "once" (.int y) (flds c l o d e) = flds c l y d e := by
  unfold flds
  rw [pf_ne (by decide +kernel), pf_ne (by decide +kernel), pf_eq]
theorem f_new : putF "pressed" (.ref e) (putF "bound" (.ref d) (putF "once" (.int o) (putF "locked" (.ref l) (putF "layout" (.ref c) [])))) = flds c l o d e := by
  show putF "pressed" (.ref e) (putF "bound" (.ref d) (putF "once" (.int o) (putF "locked" (.ref l) [("layout", .ref c)]))) = _
  rw [pf_ne (by decide +kernel)]
  show putF "pressed" (.ref e) (putF "bound" (.ref d) (putF "once" (.int o) [("layout", .ref c), ("locked", .ref l)])) = _
  rw [pf_ne (by decide +kernel), pf_ne (by decide +kernel)]
  show putF "pressed" (.ref e) (putF "bound" (.ref d) [("layout", .ref c), ("locked", .ref l), ("once", .int o)]) = _
  rw [pf_ne (by decide +kernel), pf_ne (by decide +kernel), pf_ne (by decide +kernel)]
  show putF "pressed" (.ref e) [("layout", .ref c), ("locked", .ref l), ("once", .int o), ("bound", .ref d)] = _
  rw [pf_ne (by decide +kernel), pf_ne (by decide +kernel), pf_ne (by decide +kernel), pf_ne (by decide +kernel)]
  rfl
end
/-- a player -/
structure PAt (C : Addr) (H : Hp) (p c l d e : Addr) (n : Nat) (s : Sm) : Prop where
  ob : ∃ dx, H p = some (.ins C dx (flds c l s.on d e))
  lk : H l = some (.lst (s.lk.map V.bl))
  bd : ∃ kvs, H d = some (.dK kvs) ∧ Bd H kvs s.bd
  pr : ∃ pvs : List (Key × V), H e = some (.dK pvs) ∧ pvs.length ≤ n ∧ (∀ q ∈ s.bd, ∀ x, q.2 = Actn.code x → ∃ z, valV pvs (Sum.inr x) = some (.int z)) ∧ (∀ k v, valV pvs k = some v → ∃ z, v = .int z)
  de : d ≠ e
theorem PAt.same {C : Addr} {H H' : Hp} {p c l d e : Addr} {n : Nat} {s : Sm} (h : PAt C H p c l d e n s) (t : Same H H') : PAt C H' p c l d e n s := by
  obtain ⟨⟨dx, a⟩, b, ⟨kvs, c1, c2⟩, ⟨pvs, d1, d2⟩, f⟩ := h
  exact ⟨⟨dx, t _ _ a⟩, t _ _ b, ⟨kvs, t _ _ c1, c2.keep (Tk.of t)⟩, ⟨pvs, t _ _ d1, d2⟩, f⟩
/-- what the walk asks of the class -/
structure Cp (K : PySem.W.Frag) (C : Addr) : Prop where
  cl : Cls K C
  n1 : NoAttr K C "layout"
  n2 : NoAttr K C "locked"
  n3 : NoAttr K C "once"
  n4 : NoAttr K C "bound"
  n5 : NoAttr K C "pressed"
theorem strOk_code {c : Str} (h : CodeOk c) : PyData.strOk c = true := by
  unfold PyData.strOk
  rw [← Array.all_toList, List.all_eq_true]
  have all : ∀ y ∈ signs.cps.toList, decide (y < 0x110000) = true := by decide +kernel
  exact fun y hy => all y (h.2.2 y hy)
theorem bd_lay {n : Int} {x : Actn} (h : BdOk n x) : PyData.canLay0 (actD x) = true ∧ PyData.depth (actD x) = 1 := by
  cases x with
  | code c => exact ⟨by simp [actD, PyData.canLay0, PyData.canLayAll0, strOk_code h, (by decide +kernel : PyData.strOk "code" = true)], rfl⟩
  | lay w j => 
    obtain ⟨rfl, _⟩ := h
    exact ⟨by simp [actD, PyData.canLay0, PyData.canLayAll0, (by decide +kernel : PyData.strOk "layer" = true)], rfl⟩
  | none => exact h.elim
  | thr => exact h.elim
  | dualC _ _ _ _ => exact h.elim
  | dualL _ _ _ _ => exact h.elim
theorem bds_lay {n : Int} : ∀ {bd : Bd0}, BdsOk n bd → PyData.canLayAll0 (bd.map fun q => actD q.2) = true ∧ PyData.depthAll (bd.map fun q => actD q.2) ≤ 1
  | [], _ => ⟨rfl, by decide⟩
  | q :: r, h => by
    obtain ⟨a, b⟩ := bds_lay (bd := r) fun p hp => h p (List.mem_cons_of_mem _ hp)
    obtain ⟨x, y⟩ := bd_lay (h q (List.mem_cons_self ..))
    refine ⟨?_, ?_⟩
    · show (PyData.canLay0 (actD q.2) && PyData.canLayAll0 (r.map fun q => actD q.2)) = true
      rw [x, a]; rfl
    · show max (PyData.depth (actD q.2)) (PyData.depthAll (r.map fun q => actD q.2)) ≤ 1
      omega
theorem shaped_bds {n : Int} {bd : Bd0} (h : BdsOk n bd) : SeqAt.shaped (.list (bd.map fun q => actD q.2)) = true := by
  obtain ⟨a, b⟩ := bds_lay h
  show (PyData.canLayAll0 _ && decide (PyData.depthAll _ + 1 ≤ 64)) = true
  rw [a, decide_eq_true (by omega)]; rfl
theorem shaped_layer (i : Int) : SeqAt.shaped (.tuple [.str "layer", .int i]) = true := by
  simp [SeqAt.shaped, PyData.canLay0, PyData.canLayAll0, PyData.depth, PyData.depthAll, (by decide +kernel : PyData.strOk "layer" = true)]
theorem eqv_layer (i : Int) {n : Int} {x : Actn} (h : BdOk n x) : PyData.eqv (actD x) (.tuple [.str "layer", .int i]) = isLay i x := by
  cases x with
  | code c =>
    have e : ((("code" : String) : Str) == (("layer" : String) : Str)) = false := by decide +kernel
    simp [actD, PyData.eqv, PyData.eqvAll, isLay, e]
  | lay w j =>
    obtain ⟨rfl, _⟩ := h
    simp [actD, PyData.eqv, PyData.eqvAll, isLay]
    by_cases z : j = i <;> simp [z]
  | none => exact h.elim
  | thr => exact h.elim
  | dualC _ _ _ _ => exact h.elim
  | dualL _ _ _ _ => exact h.elim
theorem any_layer (i : Int) {n : Int} : ∀ {bd : Bd0}, BdsOk n bd → ((bd.map fun q => actD q.2).any fun z => PyData.eqv z (.tuple [.str "layer", .int i])) = bd.any fun p => isLay i p.2
  | [], _ => rfl
  | q :: r, h => by
    rw [List.map_cons, List.any_cons, List.any_cons, any_layer i (bd := r) fun p hp => h p (List.mem_cons_of_mem _ hp), eqv_layer i (h q (List.mem_cons_self ..))]
section
variable {P : Program} {w : World} {K : PySem.W.Frag} {mg : Str → Option Value} {base : Heap}
def spPInit (C : Addr) : Sp := fun vs H Q _ => ∃ (p dx c : Addr) (xs : List V), vs = [.ref p, .ref c] ∧ H p = some (.ins C dx []) ∧ H c = some (.lst xs) ∧ xs.length ≤ 6 ∧
  ∀ (H' : Hp) (l d e : Addr), H l = none → H d = none → H e = none → PAt C H' p c l d e 0 (init xs.length) → (∀ b o, H b = some o → b ≠ p → H' b = some o) → Q .non H'
theorem ok_Player_init (bt : Bt mg) {C : Addr} (cp : Cp K C) {tk : Tok} (m_NO_LAYER : mg "NO_LAYER" = some (.int 0 tk)) (a : AtI K mg C "Player" "Player.__init__" s_Player_init ["self", "layout"]) : ClI P w K mg base 1 C "Player" (spPInit C) := by
  refine clIG a sc_Player_init (fun vs H Q E h => ?_) (fun f cdv A outer s H vs Q hg hr h => ?_)
  · obtain ⟨p, dx, c, xs, rfl, _⟩ := h
    rfl
  · obtain ⟨p, dx, c, xs, rfl, hp, hc, hl, q⟩ := h
    refine ⟨_, (pss_cons (ps_fld (pv 0) (pv 1) rfl)
      (pss_cons (ps_fld (pv 0) (pe_op op_rep (pe_lst (pa_cons pe_bl pa_nil)) (pe_callB call_len_seq (by rfl) bt.m_len (by decide +kernel) (pa_cons (pv 1) pa_nil))) rfl)
      (pss_cons (ps_fld (pv 0) (pe_glob (v := .int 0) (by rfl) m_NO_LAYER ⟨_, rfl⟩) rfl)
      (pss_cons (ps_fld (pv 0) pe_dnewK rfl)
      (pss_one (ps_fld (pv 0) pe_dnewK rfl)))))), ?_⟩
    refine ⟨_, rfl, _, rfl, p, C, dx, _, rfl, hp, cp.cl, cp.n1, (by show 0 < 1000; decide), ?_⟩
    have pc : c ≠ p := ne_of hc hp (by intro z; cases z)
    refine (fun (X : ∀ H1 : Hp, Off p H H1 → H1 p = some (.ins C dx (putF "layout" (.ref c) [])) → _) => X _ off_upd upd_same) (fun H1 o1 hp1 => ?_)
    have hc1 := o1 _ _ hc pc
    refine ⟨(by show 1 ≤ sizeLine; decide), fun A0 m0 => ⟨_, rfl, c, xs, rfl, .inl (SqL.of ((same_upd m0) _ _ hc1)), A0, _, _, rfl, rfl, upd_same, by omega, by omega, ?_, fun l m1 => ?_⟩⟩
    · show 1 * _ ≤ sizeLine
      rw [sizeLine_eq]
      omega
    have el : (List.replicate ((xs.length : Int)).toNat [V.bl false]).flatten = (List.replicate xs.length false).map V.bl := by
      rw [flat_rep, Int.toNat_natCast, List.map_replicate]
    rw [el]
    have k0 := same_upd (o := .lst [.bl false]) m0
    have k1 := same_upd (o := .lst ((List.replicate xs.length false).map V.bl)) m1
    have l1 : H1 l = none := k0.free m1
    refine (fun (X : ∀ H2 : Hp, Off p H H2 → H2 p = some (.ins C dx (putF "layout" (.ref c) [])) → H2 l = some (.lst ((List.replicate xs.length false).map V.bl)) → _) => X _ (o1.sameTrans (k0.trans k1)) ((k0.trans k1) _ _ hp1) upd_same) (fun H2 o2 hp2 hl2 => ?_)
    have l0 : H l = none := o1.free hp1 l1
    have lp : l ≠ p := fun z => by rw [z, hp] at l0; cases l0
    refine ⟨_, rfl, p, C, dx, _, rfl, hp2, cp.cl, cp.n2, (by show 1 < 1000; decide), ?_⟩
    refine ⟨_, rfl, p, C, dx, _, rfl, upd_same, cp.cl, cp.n3, ?_, ?_⟩
    · show (putF "locked" _ [(("layout" : Str), _)]).length < 1000
      rw [pf_ne (by decide +kernel)]
      show 2 < 1000
      decide
    refine (fun (X : ∀ H3 : Hp, Off p H H3 → H3 p = some (.ins C dx (putF "once" (.int 0) (putF "locked" (.ref l) (putF "layout" (.ref c) [])))) → H3 l = some (.lst ((List.replicate xs.length false).map V.bl)) → _) => X _ ((o2.trans off_upd).trans off_upd) upd_same (by rw [upd_ne lp, upd_ne lp]; exact hl2)) (fun H3 o3 hp3 hl3 d m2 => ?_)
    have k2 := same_upd (o := .dK []) m2
    have d0 : H d = none := o3.free hp3 m2
    refine ⟨_, rfl, p, C, dx, _, rfl, k2 _ _ hp3, cp.cl, cp.n4, ?_, ?_⟩
    · show (putF "once" _ (putF "locked" _ [(("layout" : Str), _)])).length < 1000
      rw [pf_ne (by decide +kernel)]
      show (putF "once" _ [(("layout" : Str), _), (("locked" : Str), _)]).length < 1000
      rw [pf_ne (by decide +kernel), pf_ne (by decide +kernel)]
      show 3 < 1000
      decide
    have dp : d ≠ p := fun z => by rw [z, hp] at d0; cases d0
    refine (fun (X : ∀ H4 : Hp, Off p H H4 → H4 p = some (.ins C dx (putF "bound" (.ref d) (putF "once" (.int 0) (putF "locked" (.ref l) (putF "layout" (.ref c) []))))) → H4 l = some (.lst ((List.replicate xs.length false).map V.bl)) → H4 d = some (.dK []) → _) => X _ ((o3.sameTrans k2).trans off_upd) upd_same (by rw [upd_ne lp]; exact k2 _ _ hl3) (by rw [upd_ne dp]; exact upd_same)) (fun H4 o4 hp4 hl4 hd4 e m3 => ?_)
    have k3 := same_upd (o := .dK []) m3
    have e0 : H e = none := o4.free hp4 m3
    have ep : e ≠ p := fun z => by rw [z, hp] at e0; cases e0
    have de : d ≠ e := ne_of_none hd4 m3
    refine ⟨_, rfl, p, C, dx, _, rfl, k3 _ _ hp4, cp.cl, cp.n5, ?_, ?_⟩
    · show (putF "bound" _ (putF "once" _ (putF "locked" _ [(("layout" : Str), _)]))).length < 1000
      rw [pf_ne (by decide +kernel)]
      show (putF "bound" _ (putF "once" _ [(("layout" : Str), _), (("locked" : Str), _)])).length < 1000
      rw [pf_ne (by decide +kernel), pf_ne (by decide +kernel)]
      show (putF "bound" _ [(("layout" : Str), _), (("locked" : Str), _), (("once" : Str), _)]).length < 1000
      rw [pf_ne (by decide +kernel), pf_ne (by decide +kernel), pf_ne (by decide +kernel)]
      show 4 < 1000
      decide
    refine q _ l d e l0 d0 e0 ⟨⟨dx, ?_⟩, by rw [upd_ne lp]; exact k3 _ _ hl4, ⟨[], by rw [upd_ne dp]; exact k3 _ _ hd4, .nil⟩, ⟨[], by rw [upd_ne ep]; exact upd_same, Nat.le_refl _, fun q hq => by simp [init] at hq, fun k v h => by cases h⟩, de⟩ ((o4.sameTrans k3).trans off_upd)
    rw [upd_same, f_new]
    rfl
end
end K74

set_option Elab.async false
set_option linter.all false
set_option maxRecDepth 100000
set_option maxHeartbeats 8000000
namespace K74
open PySem PySem.Spec PyProof.Rows L2 Gd Rm La Cb Pl
theorem eqI {a b : Int} {p : Bool} (h : decide (a = b) = p) : V.bl (decide (V.int a = V.int b)) = .bl p := by
  rw [← h]
  exact congrArg V.bl (by by_cases z : a = b <;> simp [z])
theorem eqS {a b : Str} {p : Bool} (h : decide (a = b) = p) : V.bl (decide (V.str a = V.str b)) = .bl p := by
  rw [← h]
  exact congrArg V.bl (by by_cases z : a = b <;> simp [z])
theorem shaped_act {n i : Int} {x : Actn} (h : ActOk n i x) : SeqAt.shaped (actD x) = true := by
  have w : ∀ c ∈ layWords ++ rules ++ (["none", "through", "code", "layer", "dual"].map Str.ofString), PyData.strOk c = true := by decide +kernel
  cases x with
  | none => decide +kernel
  | thr => decide +kernel
  | code c => simp [SeqAt.shaped, actD, PyData.canLay0, PyData.canLayAll0, PyData.depth, PyData.depthAll, w "code" (by decide +kernel), strOk_code h]
  | lay u j => simp [SeqAt.shaped, actD, PyData.canLay0, PyData.canLayAll0, PyData.depth, PyData.depthAll, w u (List.mem_append_left _ (List.mem_append_left _ h.1))]
  | dualC c d t r => simp [SeqAt.shaped, actD, PyData.canLay0, PyData.canLayAll0, PyData.depth, PyData.depthAll, w "code" (by decide +kernel), w "dual" (by decide +kernel), strOk_code h.1, strOk_code h.2.1, w r (List.mem_append_left _ (List.mem_append_right _ h.2.2.2))]
  | dualL c j t r => simp [SeqAt.shaped, actD, PyData.canLay0, PyData.canLayAll0, PyData.depth, PyData.depthAll, w "layer" (by decide +kernel), w "dual" (by decide +kernel), strOk_code h.1, w r (List.mem_append_left _ (List.mem_append_right _ h.2.2.2))]
theorem eqv_thr : ∀ x : Actn, PyData.eqv (actD x) (.str "through") = isThr x
  | .none => by decide +kernel
  | .thr => by decide +kernel
  | .code _ => rfl
  | .lay _ _ => rfl
  | .dualC _ _ _ _ => rfl
  | .dualL _ _ _ _ => rfl
theorem bl_at {bs : List Bool} {i : Nat} (h : i < bs.length) : (bs.map V.bl)[i]? = some (.bl (bs.getD i false)) := by
  rw [List.getElem?_map, List.getElem?_eq_getElem h, List.getD_eq_getElem?_getD, List.getElem?_eq_getElem h]; rfl
section
variable {P : Program} {w : World} {K : PySem.W.Frag} {mg : Str → Option Value} {base : Heap}
def spOn (C : Addr) : Sp := fun vs H Q _ => ∃ (p c l d e : Addr) (n : Nat) (s : Sm) (m : Int) (i : Nat), vs = [.ref p, .int (i : Int)] ∧ PAt C H p c l d e n s ∧ BdsOk m s.bd ∧ i < s.lk.length ∧ s.bd.length ≤ 1000 ∧ ∀ H', Same H H' → Q (.bl (onL s i)) H'
theorem ok_is_on (bt : Bt mg) {C : Addr} (cp : Cp K C) (a : AtM K C "is_on" "Player.is_on" s_is_on ["self", "layer"]) : ClM P w K mg base 1 C "is_on" (spOn C) := by
  refine clMG a sc_is_on (fun vs H Q E h => ?_) (fun f cdv A outer s H vs Q hg hr h => ?_)
  · obtain ⟨p, c, l, d, e, n, s, m, i, rfl, _⟩ := h
    rfl
  · obtain ⟨p, c, l, d, e, n, s, m, i, rfl, hP, hB, hi, hbl, q⟩ := h
    refine ⟨_, (pss_cons (ps_if (PW.pt (pw_or (pt_cmpR op_eq (pv 1) pe_int (nomark _)) (pw_or (pt_truth (pe_ix ix_list (pe_fld (pv 0) rfl) (pv 1) (fun _ _ => rfl)) (by intro _; rfl)) (pw_or1 (pt_cmpR op_eq (pe_fld (pv 0) rfl) (pv 1) (nomark _)))))) (pss_one (ps_ret pe_bl)) pss_nil)
      (pss_one (ps_ret (pe_cmpR (op_inD (room65 hr)) (pe_tup (pa_cons pe_str (pa_cons (pv 1) pa_nil))) (pe_listVals rfl (pe_fld (pv 0) rfl) (by rfl) bt.m_list (by decide +kernel)) (by rfl))))), ?_⟩
    obtain ⟨⟨dx, h1⟩, h2, ⟨kvs, h3, h3b⟩, _, _⟩ := id hP
    have e0 : decide ((i : Int) = 0) = decide (i = 0) := decide_eq_decide.mpr (by omega)
    refine ⟨_, rfl, rfl, _, eqI e0, ?_⟩
    cases hz : decide (i = 0) with
    | true =>
      refine iteT ?_
      have := q H (Same.refl _)
      unfold onL at this
      rw [hz] at this
      exact this
    | false =>
      refine iteF ⟨_, rfl, p, C, dx, _, _, rfl, h1, cp.cl, cp.n2, f_lock, _, rfl, l, _, (i : Int), _, rfl, rfl, SqL.of h2, atI_nat (bl_at hi), _, rfl, ?_⟩
      cases hk : s.lk.getD i false with
      | true =>
        refine iteT ?_
        have := q H (Same.refl _)
        unfold onL at this
        rw [hz, hk] at this
        exact this
      | false =>
        refine iteF ⟨_, rfl, p, C, dx, _, _, rfl, h1, cp.cl, cp.n3, f_once, _, rfl, rfl, _, eqI rfl, ?_⟩
        cases ho : decide (s.on = (i : Int)) with
        | true =>
          refine iteT ?_
          have := q H (Same.refl _)
          unfold onL at this
          rw [hz, hk, ho] at this
          exact this
        | false =>
          refine iteF ⟨_, rfl, (by show 2 ≤ sizeLine; decide), fun T nT => ?_⟩
          have k1 := same_upd (o := .tup [.str "layer", .int (i : Int)]) nT
          refine ⟨_, rfl, p, C, dx, _, _, rfl, k1 _ _ h1, cp.cl, cp.n4, f_bound, d, kvs, rfl, k1 _ _ h3, fun W nW => ?_⟩
          have k2 := same_upd (o := .lst (kvs.map (·.2))) nW
          refine ⟨.tuple [.str "layer", .int (i : Int)], _, .tup (SqT.of (k2 _ _ upd_same)) (.cons (.str _) (.cons (.int _) .nil)), .lst (SqL.of upd_same) (h3b.keep (Tk.of (k1.trans k2))).dp, shaped_layer _, shaped_bds hB, ?_⟩
          rw [any_layer (i : Int) hB]
          have := q _ (k1.trans k2)
          unfold onL at this
          rw [hz, hk, ho] at this
          exact this
def spTaken (C : Addr) : Sp := fun vs H Q _ => ∃ (p c l d e : Addr) (n : Nat) (s : Sm) (L : List (List Actn)) (m k : Nat), vs = [.ref p, .int (k : Int)] ∧ PAt C H p c l d e n s ∧ Lay H c L ∧ LayOk L m ∧ BdsOk L.length s.bd ∧ s.lk.length = L.length ∧ s.bd.length ≤ 1000 ∧ k < m ∧
  ∀ (H' : Hp) (T : Addr) (v : V), Same H H' → H' T = some (.tup [.int ((takenL L s k : Nat) : Int), v]) → ActV H' (actAt L (takenL L s k) k) v → Q (.ref T) H'
theorem actAt_eq {L : List (List Actn)} {i k : Nat} (hi : i < L.length) (hk : k < L[i].length) : actAt L i k = L[i][k] := by
  unfold actAt
  simp [List.getD_eq_getElem?_getD, hi, hk]
theorem filt_zero {L : List (List Actn)} {m : Nat} (hO : LayOk L m) (s : Sm) {k : Nat} (hk : k < m) : 0 ∈ filt L s k := by
  have n1 := hO.n1
  refine List.mem_filter.mpr ⟨List.mem_range.mpr (by omega), ?_⟩
  have ht : isThr (actAt L 0 k) = false := by
    have e : L[0]? = some L[0] := List.getElem?_eq_getElem (by omega)
    have hl : L[0].length = m := hO.len _ (List.getElem_mem _)
    have ok := hO.ok 0 _ e L[0][k] (List.getElem_mem _)
    rw [actAt_eq (by omega) (by omega)]
    cases hx : L[0][k] with
    | thr =>
      rw [hx] at ok
      exact absurd (show (0 : Int) < 0 from ok) (by decide)
    | _ => rfl
  rw [ht]
  simp [onL]
theorem filt_last {L : List (List Actn)} {s : Sm} {k : Nat} (h : filt L s k ≠ []) : takenL L s k ∈ filt L s k ∧ ∀ x ∈ filt L s k, x ≤ takenL L s k := by
  have pw : (filt L s k).Pairwise (· < ·) := List.Pairwise.filter _ List.pairwise_lt_range
  have e : (filt L s k).getLast? = some ((filt L s k).getLast h) := List.getLast?_eq_some_getLast h
  unfold takenL
  rw [e, Option.getD_some]
  refine ⟨List.getLast_mem h, fun x hx => ?_⟩
  have hs := List.dropLast_concat_getLast h
  rw [← hs] at hx pw
  rcases List.mem_append.mp hx with z | z
  · exact Nat.le_of_lt ((List.pairwise_append.mp pw).2.2 x z _ (List.mem_singleton.mpr rfl))
  · rw [List.mem_singleton.mp z]
    exact Nat.le_refl _
def pr (L : List (List Actn)) (s : Sm) (k : Nat) (i : Nat) : Bool := !isThr (actAt L i k) && onL s i
theorem ok_taken (bt : Bt mg) {C : Addr} (cp : Cp K C) (a : AtM K C "taken" "Player.taken" s_taken ["self", "key"]) (c_is_on : ClM P w K mg base 1 C "is_on" (spOn C)) : ClM P w K mg base 2 C "taken" (spTaken C) := by
  have cl_Player := cp.cl
  refine clMG a sc_taken (fun vs H Q E h => ?_) (fun f cdv A outer s H vs Q hg hr h => ?_)
  · obtain ⟨p, c, l, d, e, n, s, L, m, k, rfl, _⟩ := h
    rfl
  · obtain ⟨pp, c, l, d, e, n, s, L, m, k, rfl, hP, hL, hO, hB, hlk, hbl, hk, q⟩ := h
    refine ⟨_, (pss_cons (ps_set (i := 2) sc_taken.nd rfl (Or.inl rfl) (pe_callB (cr_max rfl) (by rfl) bt.m_max (by decide +kernel) (pa_cons (pe_lc (own := [("at", 3), ("actions", 4)]) (g := (gTup K 2 (gCons (gName 3) (gCons (gName 4) gNil)))) (by rfl) sc_taken.nd (pi_enum (by rfl) bt.m_enumerate (pa_cons (pe_fld (pv 0) rfl) pa_nil)) (blkOk_by (N := n_taken) (sc := defScope s_taken) (by decide +kernel)) (fun _ _ _ _ _ => (pg_tup rfl (pgs_cons (pg_name (i := 3) sc_taken.nd rfl (Or.inl rfl)) (pgs_cons (pg_name (i := 4) sc_taken.nd rfl (Or.inl rfl)) pgs_nil)))) (fun _ _ _ _ _ => (pts_one (PW.pt (pw_and (pt_cmpR (r := rNeD K) (op_neD hr.units) (pe_ix (r := rIxL K) ix_list (pv 4) (pv 1) (fun _ _ => rfl)) pe_str (nomark _)) (pw_and1 (pt_val (pe_clM c_is_on cl_Player hg hr (by decide) (pv 0) (pa_cons (pv 3) pa_nil)))))))) (fun _ _ _ _ _ => (pv 3))) pa_nil)))
      (pss_one (ps_ret (pe_tup (pa_cons (pv 2) (pa_cons (pe_ix ix_list (pe_ix ix_list (pe_fld (pv 0) rfl) (pv 2) (fun _ _ => rfl)) (pv 1) (fun _ _ => rfl)) pa_nil)))))), ?_⟩
    obtain ⟨⟨dx, h1⟩, h2, ⟨kvs, h3, h3b⟩, _, _⟩ := id hP
    obtain ⟨rs, hc, hR⟩ := id hL
    have n6 := hO.n6
    have hlen : (rs.map V.ref).length = L.length := by rw [List.length_map]; exact hR.1
    refine ⟨_, rfl, pp, C, dx, _, _, rfl, h1, cp.cl, cp.n1, f_lay, c, _, rfl, SqL.of hc, fun M nM => lc_it (walk_enum (xs := rs.map V.ref)) (fun i H' => Same H H' ∧ H' M = some (.lst ((((List.range i).filter (pr L s k)).map fun j : Nat => (j : Int)).map V.int))) ⟨same_upd nM, upd_same⟩
      (fun i H' _ p => SqL.of (p.1 _ _ hc)) (fun i x Hx H3 hi p y => ?_) (fun H3 p => ?_)⟩
    · obtain ⟨sx, hM⟩ := p
      obtain ⟨T, u, v, rfl, nT, rfl, e1, e2⟩ := y
      have hi' : i < L.length := by omega
      obtain ⟨r, hr1, vs, hvs, ha⟩ := hR.at_ hi'
      have e2' : v = .ref r := Option.some.inj (e2.symm.trans (get_map_ref hr1))
      subst e2'
      have e1' : u = .int (i : Nat) := (Option.some.inj e1).symm
      subst e1'
      have hml : L[i].length = m := hO.len _ (List.getElem_mem _)
      have hk' : k < L[i].length := by omega
      obtain ⟨vk, hvk, hak⟩ := ha.at_ hk'
      have s2 := sx.trans (same_upd (o := .tup [.int (i : Nat), .ref r]) nT)
      have act : ActOk L.length i L[i][k] := hO.ok i _ (List.getElem?_eq_getElem hi') _ (List.getElem_mem hk')
      have eA := actAt_eq hi' hk'
      have hM2 := (same_upd (o := .tup [.int (i : Nat), .ref r]) nT) _ _ hM
      have skip : ∀ H' : Hp, Same (upd Hx T (.tup [.int (i : Nat), .ref r])) H' → pr L s k i = false → Same H H' ∧ H' M = some (.lst ((((List.range (i + 1)).filter (pr L s k)).map fun j : Nat => (j : Int)).map V.int)) := fun H' s' e => ⟨s2.trans s', by
        rw [List.range_succ, List.filter_append, List.filter_cons_of_neg (by rw [e]; decide), List.filter_nil, List.append_nil]; exact s' _ _ hM2⟩
      refine ⟨T, _, rfl, SqT.of upd_same, rfl, _, _, rfl, _, _, rfl, rfl, ?_⟩
      refine ⟨rfl, _, rfl, _, rfl, r, vs, (k : Int), vk, rfl, rfl, SqL.of (s2 _ _ hvs), atI_nat hvk, _, _, (hak.keep (Tk.of s2)).dp, .str _, shaped_act act, by decide +kernel, !isThr L[i][k], by rw [eqv_thr], ?_⟩
      cases ht : isThr L[i][k] with
      | true => exact iteF (iteF (skip _ (Same.refl _) (by unfold pr; rw [eA, ht]; rfl)))
      | false =>
        refine iteT ⟨_, rfl, pp, dx, _, rfl, s2 _ _ h1, f_no (by decide +kernel), _, rfl, pp, c, l, d, e, n, s, (L.length : Int), i, rfl, hP.same s2, hB, by omega, hbl, fun H5 s5 => ⟨_, rfl, ?_⟩⟩
        cases ho : onL s i with
        | false => exact iteF (skip _ s5 (by unfold pr; rw [eA, ht, ho]; rfl))
        | true =>
          have pt : pr L s k i = true := by unfold pr; rw [eA, ht, ho]; rfl
          refine iteT ⟨_, rfl, _, s5 _ _ hM2, ?_, Same.off (s2.trans s5) nM off_upd, ?_⟩
          · rw [List.length_map, List.length_map]
            refine small1000 (Nat.le_trans (List.length_filter_le ..) ?_)
            rw [List.length_range]; omega
          · rw [upd_same, List.range_succ, List.filter_append, List.filter_cons_of_pos (by rw [pt]), List.filter_nil, List.map_append, List.map_append]
            rfl
    · obtain ⟨s3, hM⟩ := p
      rw [hlen] at hM
      have hM : H3 M = some (.lst (((filt L s k).map fun j : Nat => (j : Int)).map V.int)) := hM
      have z0 := filt_zero hO s hk
      have hne : filt L s k ≠ [] := fun z => by rw [z] at z0; cases z0
      obtain ⟨f1, f2⟩ := filt_last hne
      refine ⟨M, (filt L s k).map fun j : Nat => (j : Int), rfl, SqL.of hM, ?_, fun mx hm hmax => ?_⟩
      · rw [List.length_map]
        exact List.length_pos_iff.mpr hne
      have em : mx = ((takenL L s k : Nat) : Int) := by
        obtain ⟨j, hj, rfl⟩ := List.mem_map.mp hm
        have a1 := f2 j hj
        have a2 := hmax _ (List.mem_map.mpr ⟨_, f1, rfl⟩)
        omega
      subst em
      have ht : takenL L s k < L.length := List.mem_range.mp (List.mem_filter.mp f1).1
      obtain ⟨r, hr1, vs, hvs, ha⟩ := hR.at_ ht
      have hml : L[takenL L s k].length = m := hO.len _ (List.getElem_mem _)
      have hk' : k < L[takenL L s k].length := by omega
      obtain ⟨vk, hvk, hak⟩ := ha.at_ hk'
      refine ⟨_, rfl, _, rfl, pp, C, dx, _, _, rfl, s3 _ _ h1, cp.cl, cp.n1, f_lay, _, rfl, c, _, _, .ref r, rfl, rfl, SqL.of (s3 _ _ hc), atI_nat (get_map_ref hr1), _, rfl, r, vs, (k : Int), vk, rfl, rfl, SqL.of (s3 _ _ hvs), atI_nat hvk, (by show 2 ≤ sizeLine; decide), fun T nT => ?_⟩
      refine q _ T vk (s3.trans (same_upd nT)) upd_same ?_
      rw [actAt_eq ht hk']
      exact hak.keep (Tk.of (s3.trans (same_upd nT)))
end
end K74

set_option Elab.async false
set_option linter.all false
set_option maxRecDepth 100000
set_option maxHeartbeats 8000000
namespace K74
open PySem PySem.Spec PyProof.Rows L2 Gd Rm La Cb Pl
/-- only a player's own objects change -/
def Off4 (p l d e : Addr) (H H' : Hp) : Prop := ∀ b o, H b = some o → b ≠ p → b ≠ l → b ≠ d → b ≠ e → H' b = some o
theorem Off4.refl {p l d e : Addr} (H : Hp) : Off4 p l d e H H := fun _ _ h _ _ _ _ => h
theorem Off4.trans {p l d e : Addr} {H H1 H2 : Hp} (a : Off4 p l d e H H1) (b : Off4 p l d e H1 H2) : Off4 p l d e H H2 := fun x o h n1 n2 n3 n4 => b x o (a x o h n1 n2 n3 n4) n1 n2 n3 n4
theorem Off4.of {p l d e : Addr} {H H' : Hp} (s : Same H H') : Off4 p l d e H H' := fun b o h _ _ _ _ => s b o h
theorem Off4.upd {p l d e x : Addr} {H : Hp} {o : HO} (h : x = p ∨ x = l ∨ x = d ∨ x = e) : Off4 p l d e H (upd H x o) := fun b u hb n1 n2 n3 n4 => by
  rw [upd_ne (by rcases h with rfl | rfl | rfl | rfl <;> assumption)]
  exact hb
theorem PAt.tk {C : Addr} {H H' : Hp} {p c l d e : Addr} {n : Nat} {s : Sm} (h : PAt C H p c l d e n s) (o : Off4 p l d e H H') : Tk H H' := fun b xs hb => by
  obtain ⟨⟨dx, a⟩, b1, ⟨kvs, c1, _⟩, ⟨pvs, d1, _⟩, _⟩ := h
  exact o _ _ hb (ne_of hb a (by intro z; cases z)) (ne_of hb b1 (by intro z; cases z)) (ne_of hb c1 (by intro z; cases z)) (ne_of hb d1 (by intro z; cases z))
/-- what comes out of an event: nothing, a press, a release -/
inductive Outp where
  | no
  | pr (c : Str)
  | re (c : Str)
def outL : Outp → List V
  | .no => []
  | .pr c => [.str "press", .str c]
  | .re c => [.str "release", .str c]
def OutV (H : Hp) (o : Outp) (v : V) : Prop := ∃ T, v = .ref T ∧ H T = some (.tup (outL o))
def outP : Actn → Outp
  | .code c => .pr c
  | _ => .no
/-- what a down may do in the end -/
def DoOk (m : Nat) : Actn → Prop
  | .none => True
  | .code c => CodeOk c
  | .lay w j => w ∈ layWords ∧ 1 ≤ j ∧ j < m
  | _ => False
theorem DoOk.act {m : Nat} {x : Actn} (h : DoOk m x) : ActOk m 0 x := by
  cases x with
  | none => trivial
  | code c => exact h
  | lay w j => exact ⟨h.1, h.2.1, by have := h.2.2; omega⟩
  | thr => exact h.elim
  | dualC _ _ _ _ => exact h.elim
  | dualL _ _ _ _ => exact h.elim
def isNo : Actn → Bool
  | .none => true
  | _ => false
theorem eqv_no : ∀ x : Actn, PyData.eqv (actD x) (.str "none") = isNo x
  | .none => by decide +kernel
  | .thr => by decide +kernel
  | .code _ => rfl
  | .lay _ _ => rfl
  | .dualC _ _ _ _ => rfl
  | .dualL _ _ _ _ => rfl
theorem press_lay {s : Sm} {k : Int} {w : Str} {j : Int} : press s k (.lay w j) = if w = ("layer" : String) then { s with on := 0, bd := putB s.bd k (.lay w j) } else if w = ("lock" : String) then { s with on := 0, lk := s.lk.set j.toNat (!s.lk.getD j.toNat false) } else { s with on := j } := rfl
section
variable {P : Program} {w : World} {K : PySem.W.Frag} {mg : Str → Option Value} {base : Heap}
def spPress (C : Addr) : Sp := fun vs H Q _ => ∃ (p c l d e : Addr) (n : Nat) (s : Sm) (key : Int) (v : V) (x : Actn), vs = [.ref p, .int key, v] ∧ PAt C H p c l d e n s ∧ ActV H x v ∧ DoOk s.lk.length x ∧ s.lk.length ≤ 6 ∧ s.bd.length ≤ 500 ∧ n ≤ 500 ∧
  ∀ (H' : Hp) (o : V), PAt C H' p c l d e (n + 1) (press s key x) → Off4 p l d e H H' → OutV H' (outP x) o → Q o H'
theorem ok_press (bt : Bt mg) {C : Addr} (cp : Cp K C) {tk : Tok} (m_NO_LAYER : mg "NO_LAYER" = some (.int 0 tk)) (a : AtM K C "press" "Player.press" s_press ["self", "key", "what"]) : ClM P w K mg base 1 C "press" (spPress C) := by
  refine clMG a sc_press (fun vs H Q E h => ?_) (fun f cdv A outer s H vs Q hg hr h => ?_)
  · obtain ⟨p, c, l, d, e, n, s, key, v, x, rfl, _⟩ := h
    rfl
  · obtain ⟨p, c, l, d, e, n, s, key, v, x, rfl, hP, hv, hx, h6, hbl, hn, q⟩ := h
    refine ⟨_, (pss_cons (ps_fld (pv 0) (pe_glob (v := .int 0) (by rfl) m_NO_LAYER ⟨_, rfl⟩) rfl)
      (pss_cons (ps_if (pt_cmpR (op_eqD hr.units) (pv 2) pe_str (nomark _)) (pss_one (ps_ret (pe_tup pa_nil))) pss_nil)
      (pss_cons (ps_asg (pv 2) (pg_tup rfl (pgs_cons (pg_name (i := 3) sc_press.nd rfl (Or.inl rfl)) (pgs_cons (pg_name (i := 4) sc_press.nd rfl (Or.inl rfl)) pgs_nil))))
      (pss_cons (ps_if (pt_cmpR op_eq (pv 3) pe_str (nomark _)) (pss_cons (ps_dput (hu_of hr) (pe_fld (pv 0) rfl) (pv 1) (pv 2) rfl)
      (pss_cons (ps_dput (hu_of hr) (pe_fld (pv 0) rfl) (pv 4) (pe_op op_add (pe_dget2 (hu_of hr) (pe_fld (pv 0) rfl) (pv 4) pe_int ⟨rfl, rfl, rfl, rfl⟩) pe_int) rfl)
      (pss_one (ps_ret (pe_tup (pa_cons pe_str (pa_cons (pv 4) pa_nil))))))) pss_nil)
      (C8.pss_cut (ps_if (pt_cmpR op_eq (pv 3) pe_str (nomark _)) (pss_one (ps_dput (hu_of hr) (pe_fld (pv 0) rfl) (pv 1) (pv 2) rfl)) (pss_one (ps_if (pt_cmpR op_eq (pv 3) pe_str (nomark _)) (pss_one (ps_asg (pe_not (pe_ix ix_list (pe_fld (pv 0) rfl) (pv 4) (fun _ _ => rfl))) (pg_sub (pe_fld (pv 0) rfl) (pv 4) set_list))) (pss_one (ps_fld (pv 0) (pv 4) rfl)))))
      (pss_one (ps_ret (pe_tup pa_nil)))))))), ?_⟩
    obtain ⟨⟨dx, h1⟩, h2, ⟨kvs, h3, h3b⟩, ⟨pvs, h4, h4n, h4c, h4i⟩, hde⟩ := id hP
    have pl : p ≠ l := ne_of h1 h2 (by intro z; cases z)
    have pd : p ≠ d := ne_of h1 h3 (by intro z; cases z)
    have pe : p ≠ e := ne_of h1 h4 (by intro z; cases z)
    have ld : l ≠ d := ne_of h2 h3 (by intro z; cases z)
    have le : l ≠ e := ne_of h2 h4 (by intro z; cases z)
    refine ⟨_, rfl, p, C, dx, _, rfl, h1, cp.cl, cp.n3, (by show 5 < 1000; decide), ?_⟩
    rw [f_put]
    have oA : Off4 p l d e H (upd H p (.ins C dx (flds c l 0 d e))) := Off4.upd (.inl rfl)
    have PA0 : PAt C (upd H p (.ins C dx (flds c l 0 d e))) p c l d e n { s with on := 0 } := ⟨⟨dx, upd_same⟩, by rw [upd_ne pl.symm]; exact h2, ⟨kvs, by rw [upd_ne pd.symm]; exact h3, h3b.keep (hP.tk oA)⟩, ⟨pvs, by rw [upd_ne pe.symm]; exact h4, h4n, h4c, h4i⟩, hde⟩
    refine (fun (X : ∀ H1 : Hp, Off4 p l d e H H1 → PAt C H1 p c l d e n { s with on := 0 } → _) => X _ oA PA0) (fun H1 oA PA0 => ?_)
    have hv1 := hv.keep (hP.tk oA)
    clear h1 h2 h3 h3b h4 h4n h4c h4i
    have hbl' : ({ s with on := 0 } : Sm).bd.length ≤ 500 := hbl
    obtain ⟨⟨dx, h1⟩, h2, ⟨kvs, h3, h3b⟩, ⟨pvs, h4, h4n, h4c, h4i⟩, _⟩ := id PA0
    refine ⟨_, rfl, _, _, hv1.dp, .str _, shaped_act hx.act, by decide +kernel, isNo x, congrArg V.bl (eqv_no x), ?_⟩
    have nothing : ∀ (H2 : Hp) (s' : Sm), press s key x = s' → outP x = .no → PAt C H2 p c l d e n s' → Off4 p l d e H H2 → ∀ T : Addr, H2 T = none → Q (.ref T) (upd H2 T (.tup [])) := fun H2 s' e1 e2 P2 o2 T nT => by
      obtain ⟨b1, b2, b3, ⟨b4, b5, b6, b7⟩, b8⟩ := P2.same (same_upd (o := .tup []) nT)
      exact q _ _ (by rw [e1]; exact ⟨b1, b2, b3, ⟨b4, b5, by omega, b7⟩, b8⟩) (o2.trans (Off4.of (same_upd nT))) (by rw [e2]; exact ⟨T, rfl, upd_same⟩)
    cases x with
    | none => exact iteT ⟨Nat.zero_le _, fun T nT => nothing H1 _ rfl rfl PA0 oA T nT⟩
    | thr => exact hx.elim
    | dualC _ _ _ _ => exact hx.elim
    | dualL _ _ _ _ => exact hx.elim
    | code y =>
      refine iteF ?_
      obtain ⟨a, rfl, ha⟩ := hv1
      refine ⟨_, rfl, a, _, rfl, SqT.of ha, rfl, _, _, rfl, _, _, rfl, rfl, ?_⟩
      refine ⟨_, rfl, rfl, true, rfl, iteT ?_⟩
      refine ⟨_, rfl, _, rfl, p, C, dx, _, _, rfl, h1, cp.cl, cp.n4, f_bound, _, rfl, d, _, rfl, DPut.k (k := Sum.inl key) h3 (small1000 (by have := h3b.length; omega)), ?_⟩
      have hkl : (putK kvs (Sum.inl key) (.ref a)).length ≤ 600 := by
        have := put_len kvs (Sum.inl key) (.ref a)
        have := h3b.length
        omega
      have h1' : upd H1 d (.dK (putK kvs (Sum.inl key) (.ref a))) p = some (.ins C dx (flds c l 0 d e)) := by rw [upd_ne pd]; exact h1
      have h4' : upd H1 d (.dK (putK kvs (Sum.inl key) (.ref a))) e = some (.dK pvs) := by rw [upd_ne hde.symm]; exact h4
      obtain ⟨z, hz⟩ : ∃ z, (valV pvs (Sum.inr y)).getD (.int 0) = .int z := by
        cases hh : valV pvs (Sum.inr y) with
        | none => exact ⟨0, rfl⟩
        | some v =>
          obtain ⟨z, rfl⟩ := h4i _ _ hh
          exact ⟨z, rfl⟩
      refine ⟨_, rfl, p, C, dx, _, _, rfl, h1', cp.cl, cp.n5, f_pressed, e, rfl, .inl ⟨pvs, .inl h4'⟩, _, rfl, _, DGet.k (k := Sum.inr y) h4', ?_⟩
      rw [hz]
      refine ⟨_, _, rfl, rfl, _, rfl, p, C, dx, _, _, rfl, h1', cp.cl, cp.n5, f_pressed, _, rfl, e, _, rfl, DPut.k (k := Sum.inr y) h4' (small1000 (by omega)), ?_⟩
      refine ⟨_, rfl, (by show 2 ≤ sizeLine; decide), fun T nT => ?_⟩
      have oB : Off4 p l d e H (upd (upd H1 d (.dK (putK kvs (Sum.inl key) (.ref a)))) e (.dK (putK pvs (Sum.inr y) (.int (z + 1))))) := oA.trans ((Off4.upd (.inr (.inr (.inl rfl)))).trans (Off4.upd (.inr (.inr (.inr rfl)))))
      have tB : Tk H1 (upd (upd H1 d (.dK (putK kvs (Sum.inl key) (.ref a)))) e (.dK (putK pvs (Sum.inr y) (.int (z + 1))))) := PA0.tk ((Off4.upd (.inr (.inr (.inl rfl)))).trans (Off4.upd (.inr (.inr (.inr rfl)))))
      have PB : PAt C (upd (upd H1 d (.dK (putK kvs (Sum.inl key) (.ref a)))) e (.dK (putK pvs (Sum.inr y) (.int (z + 1))))) p c l d e (n + 1) (press s key (.code y)) := by
        refine ⟨⟨dx, by rw [upd_ne pe, upd_ne pd]; exact h1⟩, by rw [upd_ne le, upd_ne ld]; exact h2, ⟨_, by rw [upd_ne hde]; exact upd_same, ?_⟩, ⟨_, upd_same, ?_, ?_, ?_⟩, hde⟩
        · exact (h3b.keep tB).put ⟨a, rfl, tB _ _ ha⟩
        · have := put_len pvs (Sum.inr y) (.int (z + 1)); omega
        · intro q' hq' x' hx'
          rw [valV_put]
          by_cases e1 : x' = y
          · rw [if_pos (by rw [e1])]; exact ⟨_, rfl⟩
          · rw [if_neg (fun zz => e1 (Sum.inr.inj zz))]
            rcases putB_mem hq' with h | h
            · exact h4c q' h x' hx'
            · rw [h] at hx'
              exact absurd (Actn.code.inj hx').symm e1
        · intro k v hk
          rw [valV_put] at hk
          by_cases e1 : k = Sum.inr y
          · rw [if_pos e1] at hk
            exact ⟨_, (Option.some.inj hk).symm⟩
          · rw [if_neg e1] at hk
            exact h4i k v hk
      exact q _ _ (PB.same (same_upd nT)) (oB.trans (Off4.of (same_upd nT))) ⟨T, rfl, upd_same⟩
    | lay u j =>
      refine iteF ?_
      obtain ⟨a, rfl, ha⟩ := hv1
      obtain ⟨x1, x2, x3⟩ := hx
      have hu : decide (u = (("code" : String) : Str)) = false := by
        refine decide_eq_false ?_
        rintro rfl
        revert x1
        decide +kernel
      refine ⟨_, rfl, a, _, rfl, SqT.of ha, rfl, _, _, rfl, _, _, rfl, rfl, ?_⟩
      refine ⟨_, rfl, rfl, false, eqS hu, iteF ?_⟩
      refine ⟨fun σ' H' => PAt C H' p c l d e n (press s key (.lay u j)) ∧ Off4 p l d e H H', ?_, ?_⟩
      · by_cases w1 : u = (("layer" : String) : Str)
        · refine ⟨_, rfl, rfl, true, eqS (decide_eq_true w1), iteT ?_⟩
          refine ⟨_, rfl, _, rfl, p, C, dx, _, _, rfl, h1, cp.cl, cp.n4, f_bound, _, rfl, d, _, rfl, DPut.k (k := Sum.inl key) h3 (small1000 (by have := h3b.length; omega)), ?_⟩
          have oB : Off4 p l d e H1 (upd H1 d (.dK (putK kvs (Sum.inl key) (.ref a)))) := Off4.upd (.inr (.inr (.inl rfl)))
          have tB := PA0.tk oB
          refine ⟨?_, oA.trans oB⟩
          rw [press_lay, if_pos w1]
          refine ⟨⟨dx, by rw [upd_ne pd]; exact h1⟩, by rw [upd_ne ld]; exact h2, ⟨_, upd_same, (h3b.keep tB).put ⟨a, rfl, tB _ _ ha⟩⟩, ⟨pvs, by rw [upd_ne hde.symm]; exact h4, h4n, fun q' hq' x' hx' => ?_, h4i⟩, hde⟩
          rcases putB_mem hq' with h | h
          · exact h4c q' h x' hx'
          · rw [h] at hx'; cases hx'
        · refine ⟨_, rfl, rfl, false, eqS (decide_eq_false w1), iteF ?_⟩
          by_cases w2 : u = (("lock" : String) : Str)
          · refine ⟨_, rfl, rfl, true, eqS (decide_eq_true w2), iteT ?_⟩
            have hj : j = ((j.toNat : Nat) : Int) := by omega
            have hj' : j.toNat < s.lk.length := by omega
            have hix : ixN (s.lk.map V.bl).length j = some j.toNat := by
              rw [List.length_map]
              unfold ixN
              rw [if_pos (by omega), if_pos (by omega)]
            refine ⟨_, rfl, p, C, dx, _, _, rfl, h1, cp.cl, cp.n2, f_lock, _, rfl, l, _, j, _, rfl, rfl, SqL.of h2, (by rw [hj]; exact atI_nat (bl_at hj')), ?_⟩
            refine ⟨_, rfl, _, rfl, p, C, dx, _, _, rfl, h1, cp.cl, cp.n2, f_lock, _, rfl, l, _, j, j.toNat, rfl, rfl, h2, hix, ?_⟩
            have oB : Off4 p l d e H1 (upd H1 l (.lst ((s.lk.map V.bl).set j.toNat (.bl (!s.lk.getD j.toNat false))))) := Off4.upd (.inr (.inl rfl))
            have tB := PA0.tk oB
            refine ⟨?_, oA.trans oB⟩
            rw [press_lay, if_neg w1, if_pos w2]
            exact ⟨⟨dx, by rw [upd_ne pl]; exact h1⟩, by rw [upd_same, List.map_set], ⟨kvs, by rw [upd_ne ld.symm]; exact h3, h3b.keep tB⟩, ⟨pvs, by rw [upd_ne le.symm]; exact h4, h4n, h4c, h4i⟩, hde⟩
          · refine ⟨_, rfl, rfl, false, eqS (decide_eq_false w2), iteF ?_⟩
            refine ⟨_, rfl, _, rfl, p, C, dx, _, rfl, h1, cp.cl, cp.n3, (by show 5 < 1000; decide), ?_⟩
            rw [f_put]
            have oB : Off4 p l d e H1 (upd H1 p (.ins C dx (flds c l j d e))) := Off4.upd (.inl rfl)
            have tB := PA0.tk oB
            refine ⟨?_, oA.trans oB⟩
            rw [press_lay, if_neg w1, if_neg w2]
            exact ⟨⟨dx, upd_same⟩, by rw [upd_ne pl.symm]; exact h2, ⟨kvs, by rw [upd_ne pd.symm]; exact h3, h3b.keep tB⟩, ⟨pvs, by rw [upd_ne pe.symm]; exact h4, h4n, h4c, h4i⟩, hde⟩
      · rintro σ' H2 ⟨P2, o2⟩
        exact ⟨Nat.zero_le _, fun T nT => nothing H2 _ rfl rfl P2 o2 T nT⟩
def relO (s : Sm) (key : Int) : Outp := match getB s.bd key with | some (.code c) => .re c | _ => .no
def spRelease (C : Addr) : Sp := fun vs H Q _ => ∃ (p c l d e : Addr) (n : Nat) (s : Sm) (m : Int) (key : Int), vs = [.ref p, .int key] ∧ PAt C H p c l d e n s ∧ BdsOk m s.bd ∧ n ≤ 500 ∧
  ∀ (H' : Hp) (o : V), PAt C H' p c l d e (n + 1) (release s key) → Off4 p l d e H H' → OutV H' (relO s key) o → Q o H'
theorem ok_release (bt : Bt mg) {C : Addr} (cp : Cp K C) {tk : Tok} (m_NO_LAYER : mg "NO_LAYER" = some (.int 0 tk)) (a : AtM K C "release" "Player.release" s_release ["self", "key"]) : ClM P w K mg base 1 C "release" (spRelease C) := by
  refine clMG a sc_release (fun vs H Q E h => ?_) (fun f cdv A outer s H vs Q hg hr h => ?_)
  · obtain ⟨p, c, l, d, e, n, s, m, key, rfl, _⟩ := h
    rfl
  · obtain ⟨p, c, l, d, e, n, s, m, key, rfl, hP, hB, hn, q⟩ := h
    refine ⟨_, (pss_cons (ps_asg (pe_dpop2 (pe_fld (pv 0) rfl) (pv 1) (pe_tup (pa_cons pe_str (pa_cons (pe_glob (v := .int 0) (by rfl) m_NO_LAYER ⟨_, rfl⟩) pa_nil))) ⟨rfl, rfl, rfl, rfl⟩) (pg_tup rfl (pgs_cons (pg_name (i := 2) sc_release.nd rfl (Or.inl rfl)) (pgs_cons (pg_name (i := 3) sc_release.nd rfl (Or.inl rfl)) pgs_nil))))
      (pss_cons (ps_if (pt_cmpR op_ne (pv 2) pe_str (nomark _)) (pss_one (ps_ret (pe_tup pa_nil))) pss_nil)
      (pss_cons (ps_dput (hu_of hr) (pe_fld (pv 0) rfl) (pv 3) (pe_op op_sub (pe_dget (hu_of hr) (pe_fld (pv 0) rfl) (pv 3) (fun _ _ => rfl)) pe_int) rfl)
      (pss_one (ps_ret (pe_tup (pa_cons pe_str (pa_cons (pv 3) pa_nil)))))))), ?_⟩
    obtain ⟨⟨dx, h1⟩, h2, ⟨kvs, h3, h3b⟩, ⟨pvs, h4, h4n, h4c, h4i⟩, hde⟩ := id hP
    have pl : p ≠ l := ne_of h1 h2 (by intro z; cases z)
    have pd : p ≠ d := ne_of h1 h3 (by intro z; cases z)
    have pe : p ≠ e := ne_of h1 h4 (by intro z; cases z)
    have ld : l ≠ d := ne_of h2 h3 (by intro z; cases z)
    have le : l ≠ e := ne_of h2 h4 (by intro z; cases z)
    refine ⟨_, rfl, p, C, dx, _, _, rfl, h1, cp.cl, cp.n4, f_bound, d, rfl, .inl ⟨kvs, .inl h3⟩, _, rfl, (by show 2 ≤ sizeLine; decide), fun T nT => ?_⟩
    have sT := same_upd (o := .tup [.str "none", .int 0]) nT
    have oT := Off4.of (p := p) (l := l) (d := d) (e := e) sT
    have PT := hP.same sT
    have hT := upd_same (H := H) (a := T) (o := .tup [.str "none", .int 0])
    refine (fun (X : ∀ H1 : Hp, PAt C H1 p c l d e n s → Off4 p l d e H H1 → H1 T = some (.tup [.str "none", .int 0]) → H1 d = some (.dK kvs) → _) => X _ PT oT hT (sT _ _ h3)) (fun H1 P1 o1 hT h3 => ?_)
    clear h1 h2 h3b h4 h4n h4c h4i PT oT sT nT
    obtain ⟨⟨dx, h1⟩, h2, ⟨kvs', h3', h3b⟩, ⟨pvs, h4, h4n, h4c, h4i⟩, _⟩ := id P1
    cases HO.dK.inj (Option.some.inj (h3.symm.trans h3'))
    have dropped : release s key = { s with bd := dropB s.bd key } := rfl
    have PD : ∀ H2 : Hp, H2 = upd H1 d (.dK (dropK kvs (Sum.inl key))) → PAt C H2 p c l d e n (release s key) := fun H2 e2 => by
      subst e2
      have oB : Off4 p l d e H1 (upd H1 d (.dK (dropK kvs (Sum.inl key)))) := Off4.upd (.inr (.inr (.inl rfl)))
      exact ⟨⟨dx, by rw [upd_ne pd]; exact h1⟩, by rw [upd_ne ld]; exact h2, ⟨_, upd_same, (h3b.keep (P1.tk oB)).drop key⟩, ⟨pvs, by rw [upd_ne hde.symm]; exact h4, h4n, fun q' hq' => h4c q' (dropB_mem hq'), h4i⟩, hde⟩
    have nothing : ∀ (H2 : Hp), relO s key = .no → PAt C H2 p c l d e n (release s key) → Off4 p l d e H H2 → ∀ T : Addr, H2 T = none → Q (.ref T) (upd H2 T (.tup [])) := fun H2 e2 P2 o2 T nT => by
      obtain ⟨b1, b2, b3, ⟨b4, b5, b6, b7⟩, b8⟩ := P2.same (same_upd (o := .tup []) nT)
      exact q _ _ ⟨b1, b2, b3, ⟨b4, b5, by omega, b7⟩, b8⟩ (o2.trans (Off4.of (same_upd nT))) (by rw [e2]; exact ⟨T, rfl, upd_same⟩)
    refine ⟨kvs, Sum.inl key, h3, rfl, fun v hv => ?_, fun hv => ?_⟩
    · rcases h3b.get key with ⟨g1, _⟩ | ⟨v', x, g1, g2, g3⟩
      · rw [g1] at hv; cases hv
      rw [g1] at hv
      cases hv
      obtain ⟨q0, hq0, e1, e2⟩ := getB_mem g2
      have hbx := hB q0 hq0
      rw [e2] at hbx
      have oB : Off4 p l d e H1 (upd H1 d (.dK (dropK kvs (Sum.inl key)))) := Off4.upd (.inr (.inr (.inl rfl)))
      have tB := P1.tk oB
      cases x with
      | none => exact hbx.elim
      | thr => exact hbx.elim
      | dualC _ _ _ _ => exact hbx.elim
      | dualL _ _ _ _ => exact hbx.elim
      | lay u j =>
        obtain ⟨a, rfl, ha⟩ := g3
        obtain ⟨rfl, _⟩ := hbx
        refine ⟨a, _, rfl, SqT.of (tB _ _ ha), rfl, _, _, rfl, _, _, rfl, rfl, ?_⟩
        refine ⟨_, rfl, rfl, true, by decide +kernel, iteT ⟨Nat.zero_le _, fun T2 n2 => nothing _ (by unfold relO; rw [g2]) (PD _ rfl) (o1.trans oB) T2 n2⟩⟩
      | code y =>
        obtain ⟨a, rfl, ha⟩ := g3
        refine ⟨a, _, rfl, SqT.of (tB _ _ ha), rfl, _, _, rfl, _, _, rfl, rfl, ?_⟩
        refine ⟨_, rfl, rfl, false, by decide +kernel, iteF ?_⟩
        obtain ⟨z, hz⟩ := h4c q0 hq0 y e2
        have h1' : upd H1 d (.dK (dropK kvs (Sum.inl key))) p = some (.ins C dx (flds c l s.on d e)) := by rw [upd_ne pd]; exact h1
        have h4' : upd H1 d (.dK (dropK kvs (Sum.inl key))) e = some (.dK pvs) := by rw [upd_ne hde.symm]; exact h4
        refine ⟨_, rfl, p, C, dx, _, _, rfl, h1', cp.cl, cp.n5, f_pressed, _, rfl, e, _, rfl, (by have := DGet.k (k := (Sum.inr y : Key)) h4'; rw [hz] at this; exact this), ?_⟩
        refine ⟨_, _, rfl, rfl, _, rfl, p, C, dx, _, _, rfl, h1', cp.cl, cp.n5, f_pressed, _, rfl, e, _, rfl, DPut.k (k := Sum.inr y) h4' (small1000 (by omega)), ?_⟩
        refine ⟨_, rfl, (by show 2 ≤ sizeLine; decide), fun T2 n2 => ?_⟩
        have oC : Off4 p l d e (upd H1 d (.dK (dropK kvs (Sum.inl key)))) (upd (upd H1 d (.dK (dropK kvs (Sum.inl key)))) e (.dK (putK pvs (Sum.inr y) (.int (z - 1))))) := Off4.upd (.inr (.inr (.inr rfl)))
        have PE : PAt C (upd (upd H1 d (.dK (dropK kvs (Sum.inl key)))) e (.dK (putK pvs (Sum.inr y) (.int (z - 1))))) p c l d e (n + 1) (release s key) := by
          obtain ⟨b1, b2, ⟨k2, b3, b3'⟩, ⟨b4, b5, b6, b7⟩, b8⟩ := PD _ rfl
          refine ⟨⟨dx, by rw [upd_ne pe]; exact h1'⟩, by rw [upd_ne le, upd_ne ld]; exact h2, ⟨k2, by rw [upd_ne hde]; exact b3, b3'.keep ((PD _ rfl).tk oC)⟩, ⟨_, upd_same, ?_, ?_, ?_⟩, hde⟩
          · have := put_len pvs (Sum.inr y) (.int (z - 1)); omega
          · intro q' hq' x' hx'
            rw [valV_put]
            by_cases e1 : x' = y
            · rw [if_pos (by rw [e1])]; exact ⟨_, rfl⟩
            · rw [if_neg (fun zz => e1 (Sum.inr.inj zz))]
              exact h4c q' (dropB_mem hq') x' hx'
          · intro k v hk
            rw [valV_put] at hk
            by_cases e1 : k = Sum.inr y
            · rw [if_pos e1] at hk
              exact ⟨_, (Option.some.inj hk).symm⟩
            · rw [if_neg e1] at hk
              exact h4i k v hk
        exact q _ _ (PE.same (same_upd n2)) (((o1.trans oB).trans oC).trans (Off4.of (same_upd n2))) (by unfold relO; rw [g2]; exact ⟨T2, rfl, upd_same⟩)
    · rcases h3b.get key with ⟨_, g2⟩ | ⟨v', x, g1, _⟩
      · have eb : release s key = s := by
          unfold Pl.release
          have : dropB s.bd key = s.bd := by
            unfold dropB
            rw [List.filter_eq_self]
            intro p' hp'
            unfold getB at g2
            rw [Option.map_eq_none_iff, List.find?_eq_none] at g2
            have := g2 p' hp'
            simpa using this
          rw [this]
        refine ⟨T, _, rfl, SqT.of hT, rfl, _, _, rfl, _, _, rfl, rfl, ?_⟩
        refine ⟨_, rfl, rfl, true, by decide +kernel, iteT ⟨Nat.zero_le _, fun T2 n2 => nothing H1 (by unfold relO; rw [g2]) (by rw [eb]; exact P1) o1 T2 n2⟩⟩
      · rw [g1] at hv; cases hv
end
end K74

set_option Elab.async false
set_option linter.all false
set_option maxRecDepth 100000
set_option maxHeartbeats 8000000
namespace K74
open PySem PySem.Spec PyProof.Rows L2 Gd Rm La Cb Pl
def optN : Option Nat → V
  | none => .non
  | some n => .int (n : Int)
theorem two {T G : Prop} (f : G → T) (g : G) : T := f g
theorem what_plain {x : Actn} : whatM x "plain" = x := if_pos rfl
theorem what_tap {x : Actn} : whatM x "tap" = tapOf x := by
  unfold whatM
  rw [if_neg (by decide +kernel), if_pos rfl]
theorem what_hold {x : Actn} : whatM x "hold" = holdOf x := by
  unfold whatM
  rw [if_neg (by decide +kernel), if_neg (by decide +kernel)]
section
variable {P : Program} {w : World} {K : PySem.W.Frag} {mg : Str → Option Value} {base : Heap}
def spWhat : Sp := fun vs H Q _ => ∃ (v : V) (x : Actn) (kind : Str), vs = [v, .str kind] ∧ ActV H x v ∧ (kind = ("plain" : String) ∨ (isDl x = true ∧ (kind = ("tap" : String) ∨ kind = ("hold" : String)))) ∧ ∀ H' v', Same H H' → ActV H' (whatM x kind) v' → Q v' H'
theorem ok_what_is_done (a : At K mg "what_is_done" s_what_is_done ["action", "kind"]) : Cl P w K mg base 1 "what_is_done" spWhat := by
  refine clG a sc_what_is_done (fun vs H Q E h => ?_) (fun f cdv A outer s H vs Q hg hr h => ?_)
  · obtain ⟨v, x, kind, rfl, _⟩ := h
    rfl
  · obtain ⟨v, x, kind, rfl, hv, hk, q⟩ := h
    refine ⟨_, (pss_cons (ps_if (pt_cmpR op_eq (pv 1) pe_str (nomark _)) (pss_one (ps_ret (pv 0))) pss_nil)
      (pss_cons (ps_if (pt_cmpR op_eq (pv 1) pe_str (nomark _)) (pss_one (ps_ret (pe_tup (pa_cons pe_str (pa_cons (pe_ix ix_tup (pv 0) pe_int (fun _ _ => rfl)) pa_nil))))) pss_nil)
      (pss_one (ps_ret (pe_ix ix_tup (pv 0) pe_int (fun _ _ => rfl)))))), ?_⟩
    rcases hk with rfl | ⟨hd, hk⟩
    · refine ⟨_, rfl, rfl, true, by decide +kernel, iteT ⟨_, rfl, q _ _ (Same.refl _) (by rw [what_plain]; exact hv)⟩⟩
    · have two : ∃ (a b : Addr) (c r : Str) (t : Int), v = .ref a ∧ H a = some (.tup [.str "dual", .str c, .ref b, .int t, .str r]) ∧ tapOf x = .code c ∧ ActV H (holdOf x) (.ref b) := by
        cases x with
        | dualC c d t r =>
          obtain ⟨a, b, e1, e2, e3⟩ := hv
          exact ⟨a, b, c, r, t, e1, e2, rfl, ⟨b, rfl, e3⟩⟩
        | dualL c j t r =>
          obtain ⟨a, b, e1, e2, e3⟩ := hv
          exact ⟨a, b, c, r, t, e1, e2, rfl, ⟨b, rfl, e3⟩⟩
        | _ => cases hd
      obtain ⟨a, b, c, r, t, rfl, ha, ht, hb⟩ := two
      rcases hk with rfl | rfl
      · refine ⟨_, rfl, rfl, false, by decide +kernel, iteF ⟨_, rfl, rfl, true, by decide +kernel, iteT ?_⟩⟩
        refine ⟨_, rfl, a, _, 1, .str c, rfl, rfl, SqT.of ha, atI_nat (j := 1) rfl, (by show 2 ≤ sizeLine; decide), fun T nT => ?_⟩
        exact q _ _ (same_upd nT) (by rw [what_tap, ht]; exact ⟨T, rfl, upd_same⟩)
      · refine ⟨_, rfl, rfl, false, by decide +kernel, iteF ⟨_, rfl, rfl, false, by decide +kernel, iteF ?_⟩⟩
        exact ⟨_, rfl, a, _, 2, .ref b, rfl, rfl, SqT.of ha, atI_nat (j := 2) rfl, q _ _ (Same.refl _) (by rw [what_hold]; exact hb)⟩
def spDec : Sp := fun vs H Q _ => ∃ (c : Addr) (es : List Ev) (i : Nat) (r : Str), vs = [.ref c, .int (i : Int), .str r] ∧ Lst evV H c es ∧ i < es.length ∧ es.length ≤ 400 ∧ ∀ H', Same H H' → Q (optN (decM es i r)) H'
theorem ok_deciding_event (bt : Bt mg) (a : At K mg "deciding_event" s_deciding_event ["record", "at", "rule"]) : Cl P w K mg base 1 "deciding_event" spDec := by
  refine clG a sc_deciding_event (fun vs H Q E h => ?_) (fun f cdv A outer s H vs Q hg hr h => ?_)
  · obtain ⟨c, es, i, r, rfl, _⟩ := h
    rfl
  · obtain ⟨c, es, i, r, rfl, hL, hi, h4, q⟩ := h
    refine ⟨_, (pss_cons (ps_set (i := 3) sc_deciding_event.nd rfl (Or.inl rfl) (pe_ix ix_tup (pe_ix ix_list (pv 0) (pv 1) (fun _ _ => rfl)) pe_int (fun _ _ => rfl)))
      (pss_cons (ps_set (i := 4) sc_deciding_event.nd rfl (Or.inl rfl) (pe_lst pa_nil))
      (pss_cons (ps_for PassesOwn.never rfl (pi_range2 (by rfl) bt.m_range (pa_cons (pe_op op_add (pv 1) pe_int) (pa_cons (pe_callB call_len_seq (by rfl) bt.m_len (by decide +kernel) (pa_cons (pv 0) pa_nil)) pa_nil))) (pg_name (i := 5) sc_deciding_event.nd rfl (Or.inl rfl)) (pss_cons (ps_asg (pe_ix ix_list (pv 0) (pv 5) (fun _ _ => rfl)) (pg_tup rfl (pgs_cons (pg_name (i := 6) sc_deciding_event.nd rfl (Or.inl rfl)) (pgs_cons (pg_name (i := 7) sc_deciding_event.nd rfl (Or.inl rfl)) (pgs_cons (pg_name (i := 8) sc_deciding_event.nd rfl (Or.inl rfl)) pgs_nil)))))
      (pss_cons (ps_if (PW.pt (pw_or (pt_cmpR op_eq (pv 7) (pv 3) (nomark _)) (pw_or1 (PW.pt (pw_and (pt_cmpR op_eq (pv 2) pe_str (nomark _)) (pw_and1 (pt_cmpR op_eq (pv 8) pe_str (nomark _)))))))) (pss_one (ps_ret (pv 5))) pss_nil)
      (pss_one (ps_if (pt_cmpR op_eq (pv 8) pe_str (nomark _)) (pss_one (ps_expr (pe_bm PySem.F.plainAttrs_list PySem.F.slot_list_append PySem.F.type_list_append mt_append (pv 4) (pa_cons (pv 7) pa_nil)))) (pss_one (ps_if (PW.pt (pw_and (pt_cmpR op_eq (pv 2) pe_str (nomark _)) (pw_and1 (pt_cmpR op_in_seq (pv 7) (pv 4) (by rfl))))) (pss_one (ps_ret (pv 5))) pss_nil)))))))
      (pss_one (ps_ret pe_non))))), ?_⟩
    obtain ⟨as, hc, hT⟩ := id hL
    have hlen : (as.map V.ref).length = es.length := by rw [List.length_map]; exact hT.1
    obtain ⟨b, hb, hbt⟩ := hT.at_ hi
    refine ⟨_, rfl, _, rfl, c, _, (i : Int), .ref b, rfl, rfl, SqL.of hc, atI_nat (get_map_ref hb), b, _, 1, _, rfl, rfl, SqT.of hbt, atI_nat (j := 1) rfl, Nat.zero_le _, fun I nI => ?_⟩
    have sI := same_upd (o := .lst []) nI
    refine ⟨_, rfl, _, _, rfl, rfl, _, rfl, c, _, rfl, .inl (SqL.of (sI _ _ hc)), ?_⟩
    have hcI := sI _ _ hc
    have inv0 : decM es i r = ((decEv es[i].k r [] (es.drop (i + 1 + 0))).map (· + 0)).map (· + (i + 1)) := by
      unfold decM
      rw [List.getD_eq_getElem?_getD, List.getElem?_eq_getElem hi, Option.getD_some, Nat.add_zero]
      cases decEv es[i].k r [] (es.drop (i + 1)) <;> rfl
    refine ⟨_, _, rfl, ⟨by omega, by omega, by omega, by omega⟩, for_it walk_range (fun j σ H' => ∃ (inner : List Int) (y5 y6 y7 y8 : Option V), σ = [some (.ref c), some (.int (i : Int)), some (.str r), some (.int es[i].k), some (.ref I), y5, y6, y7, y8] ∧ Same H H' ∧ H' I = some (.lst (inner.map V.int)) ∧ inner.length ≤ j ∧ decM es i r = ((decEv es[i].k r inner (es.drop (i + 1 + j))).map (· + j)).map (· + (i + 1)))
      ⟨[], _, _, _, _, rfl, sI, upd_same, Nat.le_refl _, inv0⟩ (fun _ _ _ _ _ => True.intro) (fun j x σ Hx H1 hj p y => ?_) (fun σ H1 p => ?_)⟩
    · obtain ⟨inner, y5, y6, y7, y8, rfl, s1, hI, hin, hd⟩ := p
      obtain ⟨rfl, rfl⟩ := y
      have hj' : i + 1 + j < es.length := by rw [hlen] at hj; omega
      have en : (i : Int) + 1 + (j : Int) = ((i + 1 + j : Nat) : Int) := by omega
      obtain ⟨b2, hb2, hbt2⟩ := hT.at_ hj'
      have hdr : es.drop (i + 1 + j) = es[i + 1 + j] :: es.drop (i + 1 + (j + 1)) := List.drop_eq_getElem_cons hj'
      rw [hdr] at hd
      refine ⟨_, rfl, _, rfl, c, _, _, .ref b2, rfl, rfl, SqL.of (s1 _ _ hc), (by rw [en]; exact atI_nat (get_map_ref hb2)), b2, _, rfl, SqT.of (s1 _ _ hbt2), rfl, _, _, rfl, _, _, rfl, _, _, rfl, rfl, ?_⟩
      have found : decEv es[i].k r inner (es[i + 1 + j] :: es.drop (i + 1 + (j + 1))) = some 0 → Q (.int ((i : Int) + 1 + (j : Int))) H1 := fun e => by
        have := q H1 s1
        rw [hd, e] at this
        rw [show (i : Int) + 1 + (j : Int) = ((0 + j + (i + 1) : Nat) : Int) by omega]
        exact this
      generalize he : es[i + 1 + j] = ev at *
      unfold decEv at hd found
      by_cases hc : ev.k = es[i].k ∨ r = (("other" : String) : Str) ∧ ev.d = true
      · replace found := found (if_pos hc)
        by_cases h1 : ev.k = es[i].k
        · exact ⟨_, rfl, _, rfl, rfl, true, eqI (decide_eq_true h1), iteT ⟨_, rfl, found⟩⟩
        · obtain ⟨h2, hdd⟩ := hc.resolve_left h1
          exact ⟨_, rfl, _, rfl, rfl, false, eqI (decide_eq_false h1), iteF ⟨_, rfl, rfl, true, eqS (decide_eq_true h2), iteT ⟨_, rfl, rfl, true, congrArg V.bl ((wayS_down ev.d).trans hdd), iteT ⟨_, rfl, found⟩⟩⟩⟩
      · have h1 : ¬ ev.k = es[i].k := fun z => hc (.inl z)
        rw [if_neg hc] at hd found
        refine ⟨_, rfl, _, rfl, rfl, false, eqI (decide_eq_false h1), iteF ?_⟩
        apply two
        · intro G
          by_cases h2 : r = (("other" : String) : Str)
          · have hdd : ev.d = false := by
              cases e : ev.d with
              | false => rfl
              | true => exact (hc (.inr ⟨h2, e⟩)).elim
            exact ⟨_, rfl, rfl, true, eqS (decide_eq_true h2), iteT ⟨_, rfl, rfl, false, congrArg V.bl ((wayS_down ev.d).trans hdd), iteF G⟩⟩
          · exact ⟨_, rfl, rfl, false, eqS (decide_eq_false h2), iteF (iteF G)⟩
        · refine ⟨_, rfl, rfl, ev.d, congrArg V.bl (wayS_down ev.d), ?_⟩
          cases hdd : ev.d with
          | true =>
            rw [hdd, if_pos rfl] at hd
            refine iteT ⟨_, rfl, .inl ⟨rfl, _, SqL.of hI⟩, _, rfl, I, _, .int ev.k, rfl, rfl, hI, small1000 (by rw [List.length_map]; omega), inner ++ [ev.k], _, _, _, _, rfl, Same.off s1 nI off_upd, by rw [upd_same, List.map_append]; rfl, by rw [List.length_append]; show _ + 1 ≤ _; omega, ?_⟩
            rw [hd]
            cases decEv es[i].k r (inner ++ [ev.k]) (es.drop (i + 1 + (j + 1))) with
            | none => rfl
            | some n => exact congrArg some (by show n + 1 + j + (i + 1) = n + (j + 1) + (i + 1); omega)
          | false =>
            rw [hdd, if_neg (by decide)] at hd found
            by_cases hc2 : r = (("within" : String) : Str) ∧ ev.k ∈ inner
            · exact iteF ⟨_, rfl, rfl, true, eqS (decide_eq_true hc2.1), iteT ⟨_, rfl, _, rfl, I, _, rfl, .inl (SqL.of hI), rfl, flat_ints inner, true, congrArg V.bl ((inv_int _ _).trans (decide_eq_true hc2.2)), iteT ⟨_, rfl, found (if_pos hc2)⟩⟩⟩
            · rw [if_neg hc2] at hd
              apply two
              · intro G
                by_cases h3 : r = (("within" : String) : Str)
                · have h4' : ¬ ev.k ∈ inner := fun z => hc2 ⟨h3, z⟩
                  exact iteF ⟨_, rfl, rfl, true, eqS (decide_eq_true h3), iteT ⟨_, rfl, _, rfl, I, _, rfl, .inl (SqL.of hI), rfl, flat_ints inner, false, congrArg V.bl ((inv_int _ _).trans (decide_eq_false h4')), iteF G⟩⟩
                · exact iteF ⟨_, rfl, rfl, false, eqS (decide_eq_false h3), iteF (iteF G)⟩
              · refine ⟨inner, _, _, _, _, rfl, s1, hI, by omega, ?_⟩
                rw [hd]
                cases decEv es[i].k r inner (es.drop (i + 1 + (j + 1))) with
                | none => rfl
                | some n => exact congrArg some (by show n + 1 + j + (i + 1) = n + (j + 1) + (i + 1); omega)
    · obtain ⟨inner, y5, y6, y7, y8, rfl, s1, hI, hin, hd⟩ := p
      rw [List.drop_of_length_le (by rw [hlen]; omega)] at hd
      unfold decEv at hd
      have := q H1 s1
      rw [hd] at this
      exact this
end
end K74

set_option Elab.async false
set_option linter.all false
set_option maxRecDepth 100000
set_option maxHeartbeats 8000000
namespace K74
open PySem PySem.Spec PyProof.Rows L2 Gd Rm La Cb Pl
theorem decEv_lt {own : Int} {r : Str} : ∀ {es : List Ev} {inner : List Int} {n : Nat}, decEv own r inner es = some n → n < es.length
  | [], _, _, h => by cases h
  | e :: es, inner, n, h => by
    rw [List.length_cons]
    unfold decEv at h
    have go : ∀ {l : List Int}, (decEv own r l es).map (· + 1) = some n → n < es.length + 1 := fun {l} h => by
      cases e : decEv own r l es with
      | none => rw [e] at h; cases h
      | some m =>
        rw [e] at h
        have := decEv_lt e
        have : m + 1 = n := Option.some.inj h
        omega
    split at h
    · cases h; omega
    · split at h
      · exact go h
      · split at h
        · cases h; omega
        · exact go h
theorem decM_lt {es : List Ev} {i n : Nat} {r : Str} (h : decM es i r = some n) : i < n ∧ n < es.length := by
  unfold decM at h
  cases e : decEv ((es.getD i ⟨0, 0, false⟩).k) r [] (es.drop (i + 1)) with
  | none => rw [e] at h; cases h
  | some m =>
    rw [e] at h
    have h1 := decEv_lt e
    rw [List.length_drop] at h1
    have : m + (i + 1) = n := Option.some.inj h
    omega
theorem sureM_lt {es : List Ev} {i n : Nat} {x : Actn} (h : sureM es i x = some n) : i < n ∧ n < es.length := by
  unfold sureM at h
  cases e : decM es i (ruleOf x) with
  | none => rw [e] at h; cases h
  | some m =>
    rw [e] at h
    dsimp only at h
    split at h
    · cases h
    · cases h; exact decM_lt e
theorem evAt_eq {es : List Ev} {i : Nat} (h : i < es.length) : evAt es i = es[i] := by
  unfold evAt
  rw [List.getD_eq_getElem?_getD, List.getElem?_eq_getElem h, Option.getD_some]
theorem dl_at {H : Hp} {x : Actn} {v : V} (h : ActV H x v) (d : isDl x = true) : ∃ (a b : Addr) (c : Str), v = .ref a ∧ H a = some (.tup [.str "dual", .str c, .ref b, .int (timeOf x), .str (ruleOf x)]) := by
  cases x with
  | dualC c d t r => obtain ⟨a, b, e, h1, _⟩ := h; exact ⟨a, b, c, e, h1⟩
  | dualL c d t r => obtain ⟨a, b, e, h1, _⟩ := h; exact ⟨a, b, c, e, h1⟩
  | _ => cases d
section
variable {P : Program} {w : World} {K : PySem.W.Frag} {mg : Str → Option Value} {base : Heap}
def spDual : Sp := fun vs H Q _ => ∃ (v : V) (x : Actn) (n i : Int), vs = [v] ∧ ActV H x v ∧ ActOk n i x ∧ Q (.bl (isDl x)) H
theorem ok_is_dual (bt : Bt mg) (a : At K mg "is_dual" s_is_dual ["action"]) : Cl P w K mg base 1 "is_dual" spDual := by
  refine clG a sc_is_dual (fun vs H Q E h => ?_) (fun f cdv A outer s H vs Q hg hr h => ?_)
  · obtain ⟨v, x, n, i, rfl, _⟩ := h
    rfl
  · obtain ⟨v, x, n, i, rfl, hv, hx, q⟩ := h
    refine ⟨_, (pss_one (ps_ret (pe_and (pe_callB call_isi (by rfl) bt.m_isinstance (by decide +kernel) (pa_cons (pv 0) (pa_cons (pe_bltn (v := .ty "tuple") (by rfl) bt.m_tuple (by decide +kernel) rfl) pa_nil))) (pe_one (pe_cmpR op_eq (pe_ix ix_tup (pv 0) pe_int (fun _ _ => rfl)) pe_str (nomark _)))))), ?_⟩
    have wd : ∀ (c : Str) (b : Bool), decide (c = (("dual" : String) : Str)) = b → Q (.bl b) H → Q (.bl (decide (V.str c = V.str "dual"))) H := fun c b e q => by
      have : decide (V.str c = V.str "dual") = b := by rw [← e]; by_cases z : c = (("dual" : String) : Str) <;> simp [z]
      rw [this]
      exact q
    cases x with
    | none =>
      cases hv
      exact ⟨_, rfl, _, _, _, _, false, rfl, .ty "tuple", .base (.str _), kit_ty (by decide +kernel), _, rfl, iteF q⟩
    | thr =>
      cases hv
      exact ⟨_, rfl, _, _, _, _, false, rfl, .ty "tuple", .base (.str _), kit_ty (by decide +kernel), _, rfl, iteF q⟩
    | code c =>
      obtain ⟨a, rfl, ha⟩ := hv
      exact ⟨_, rfl, _, _, _, _, true, rfl, .ty "tuple", .base (.tup ha), kit_ty (by decide +kernel), _, rfl, iteT ⟨_, rfl, a, _, 0, .str "code", rfl, rfl, SqT.of ha, atI_nat (j := 0) rfl, rfl, wd _ false (by decide +kernel) q⟩⟩
    | lay u j =>
      obtain ⟨a, rfl, ha⟩ := hv
      have hu : decide (u = (("dual" : String) : Str)) = false := by
        refine decide_eq_false ?_
        rintro rfl
        have := hx.1
        revert this
        decide +kernel
      exact ⟨_, rfl, _, _, _, _, true, rfl, .ty "tuple", .base (.tup ha), kit_ty (by decide +kernel), _, rfl, iteT ⟨_, rfl, a, _, 0, .str u, rfl, rfl, SqT.of ha, atI_nat (j := 0) rfl, rfl, wd _ false hu q⟩⟩
    | dualC c d t r =>
      obtain ⟨a, b, rfl, ha, hb⟩ := hv
      exact ⟨_, rfl, _, _, _, _, true, rfl, .ty "tuple", .base (.tup ha), kit_ty (by decide +kernel), _, rfl, iteT ⟨_, rfl, a, _, 0, .str "dual", rfl, rfl, SqT.of ha, atI_nat (j := 0) rfl, rfl, wd _ true (by decide +kernel) q⟩⟩
    | dualL c d t r =>
      obtain ⟨a, b, rfl, ha, hb⟩ := hv
      exact ⟨_, rfl, _, _, _, _, true, rfl, .ty "tuple", .base (.tup ha), kit_ty (by decide +kernel), _, rfl, iteT ⟨_, rfl, a, _, 0, .str "dual", rfl, rfl, SqT.of ha, atI_nat (j := 0) rfl, rfl, wd _ true (by decide +kernel) q⟩⟩
def spSure : Sp := fun vs H Q _ => ∃ (c : Addr) (es : List Ev) (i : Nat) (v : V) (x : Actn), vs = [.ref c, .int (i : Int), v] ∧ Lst evV H c es ∧ i < es.length ∧ es.length ≤ 400 ∧ ActV H x v ∧ isDl x = true ∧ ∀ H', Same H H' → Q (optN (sureM es i x)) H'
theorem ok_sure_event (bt : Bt mg) (a : At K mg "sure_event" s_sure_event ["record", "at", "dual"]) (c_deciding_event : Cl P w K mg base 1 "deciding_event" spDec) : Cl P w K mg base 2 "sure_event" spSure := by
  refine clG a sc_sure_event (fun vs H Q E h => ?_) (fun f cdv A outer s H vs Q hg hr h => ?_)
  · obtain ⟨c, es, i, v, x, rfl, _⟩ := h
    rfl
  · obtain ⟨c, es, i, v, x, rfl, hL, hi, h4, hv, hd, q⟩ := h
    refine ⟨_, (pss_cons (ps_set (i := 3) sc_sure_event.nd rfl (Or.inl rfl) (pe_cl c_deciding_event hg hr (by decide) (by rfl) (pa_cons (pv 0) (pa_cons (pv 1) (pa_cons (pe_ix ix_tup (pv 2) pe_int (fun _ _ => rfl)) pa_nil)))))
      (pss_cons (ps_if (PW.pt (pw_or (pt_cmpR op_isN (pv 3) pe_non (nomark _)) (pw_or1 (pt_cmpR op_ge (pe_ix ix_tup (pe_ix ix_list (pv 0) (pv 3) (fun _ _ => rfl)) pe_int (fun _ _ => rfl)) (pe_op op_add (pe_ix ix_tup (pe_ix ix_list (pv 0) (pv 1) (fun _ _ => rfl)) pe_int (fun _ _ => rfl)) (pe_ix ix_tup (pv 2) pe_int (fun _ _ => rfl))) (nomark _))))) (pss_one (ps_ret pe_non)) pss_nil)
      (pss_one (ps_ret (pv 3))))), ?_⟩
    obtain ⟨a, b, cc, rfl, ha⟩ := dl_at hv hd
    refine ⟨_, rfl, _, rfl, _, rfl, a, _, 4, _, rfl, rfl, SqT.of ha, atI_nat (j := 4) rfl, c, es, i, ruleOf x, rfl, hL, hi, h4, fun H1 s1 => ?_⟩
    have q1 := q H1 s1
    unfold sureM at q1
    cases e : decM es i (ruleOf x) with
    | none =>
      rw [e] at q1
      exact ⟨_, rfl, rfl, true, rfl, iteT q1⟩
    | some n =>
      rw [e] at q1
      dsimp only at q1
      obtain ⟨n1, n2⟩ := decM_lt e
      obtain ⟨as, hc, hT⟩ := id (hL.same s1)
      obtain ⟨bn, hbn, hbt⟩ := hT.at_ n2
      obtain ⟨bi, hbi, hbti⟩ := hT.at_ hi
      refine ⟨_, rfl, rfl, false, rfl, iteF ?_⟩
      refine ⟨_, rfl, _, rfl, c, _, _, .ref bn, rfl, rfl, SqL.of hc, atI_nat (get_map_ref hbn), bn, _, 0, _, rfl, rfl, SqT.of hbt, atI_nat (j := 0) rfl, ?_⟩
      refine ⟨_, rfl, _, rfl, c, _, _, .ref bi, rfl, rfl, SqL.of hc, atI_nat (get_map_ref hbi), bi, _, 0, _, rfl, rfl, SqT.of hbti, atI_nat (j := 0) rfl, ?_⟩
      refine ⟨_, rfl, a, _, 3, _, rfl, rfl, SqT.of (s1 _ _ ha), atI_nat (j := 3) rfl, ?_⟩
      rw [evAt_eq n2, evAt_eq hi] at q1
      refine ⟨_, _, rfl, rfl, _, _, rfl, rfl, _, rfl, ite2 (fun z => ?_) (fun z => ?_)⟩
      · rw [if_pos (of_decide_eq_true z)] at q1
        exact q1
      · rw [if_neg (fun y => z (decide_eq_true y))] at q1
        exact ⟨_, rfl, q1⟩
def spKind : Sp := fun vs H Q _ => ∃ (c : Addr) (es : List Ev) (i : Nat) (o : Option Nat), vs = [.ref c, .int (i : Int), optN o] ∧ Lst evV H c es ∧ i < es.length ∧ (∀ n, o = some n → n < es.length) ∧ ∀ H', Same H H' → Q (.str (if tapM es i o then "tap" else "hold")) H'
theorem ok_dual_kind (bt : Bt mg) (a : At K mg "dual_kind" s_dual_kind ["record", "at", "sure"]) : Cl P w K mg base 1 "dual_kind" spKind := by
  refine clG a sc_dual_kind (fun vs H Q E h => ?_) (fun f cdv A outer s H vs Q hg hr h => ?_)
  · obtain ⟨c, es, i, o, rfl, _⟩ := h
    rfl
  · obtain ⟨c, es, i, o, rfl, hL, hi, ho, q⟩ := h
    refine ⟨_, (pss_cons (ps_if (PW.pt (pw_and (pt_cmpR op_notN (pv 2) pe_non (nomark _)) (pw_and1 (pt_cmpR op_eq (pe_ix ix_tup (pe_ix ix_list (pv 0) (pv 2) (fun _ _ => rfl)) pe_int (fun _ _ => rfl)) (pe_ix ix_tup (pe_ix ix_list (pv 0) (pv 1) (fun _ _ => rfl)) pe_int (fun _ _ => rfl)) (nomark _))))) (pss_one (ps_ret pe_str)) pss_nil)
      (pss_one (ps_ret pe_str))), ?_⟩
    have q1 := q H (Same.refl _)
    cases o with
    | none => exact ⟨_, rfl, rfl, false, rfl, iteF (iteF q1)⟩
    | some n =>
      have n2 := ho n rfl
      obtain ⟨as, hc, hT⟩ := id hL
      obtain ⟨bn, hbn, hbt⟩ := hT.at_ n2
      obtain ⟨bi, hbi, hbti⟩ := hT.at_ hi
      refine ⟨_, rfl, rfl, true, rfl, iteT ?_⟩
      refine ⟨_, rfl, _, rfl, c, _, _, .ref bn, rfl, rfl, SqL.of hc, atI_nat (get_map_ref hbn), bn, _, 1, _, rfl, rfl, SqT.of hbt, atI_nat (j := 1) rfl, ?_⟩
      refine ⟨_, rfl, _, rfl, c, _, _, .ref bi, rfl, rfl, SqL.of hc, atI_nat (get_map_ref hbi), bi, _, 1, _, rfl, rfl, SqT.of hbti, atI_nat (j := 1) rfl, ?_⟩
      have et : tapM es i (some n) = decide (es[n].k = es[i].k) := by
        unfold tapM
        dsimp only
        rw [evAt_eq n2, evAt_eq hi]
      rw [et] at q1
      refine ⟨rfl, decide (es[n].k = es[i].k), eqI rfl, ?_⟩
      cases e : decide (es[n].k = es[i].k) with
      | true => rw [e] at q1; exact iteT q1
      | false => rw [e] at q1; exact iteF q1
end
end K74

set_option Elab.async false
set_option linter.all false
set_option maxRecDepth 100000
set_option maxHeartbeats 8000000
namespace K74
open PySem PySem.Spec PyProof.Rows L2 Gd Rm La Cb Pl
theorem none_back {H H' : Hp} (s : Same H H') {a : Addr} (h : H' a = none) : H a = none := by
  cases e : H a with
  | none => rfl
  | some o => rw [s _ _ e] at h; cases h
/-- what the state keeps between the events -/
structure St1 (L : List (List Actn)) (s : Sm) (i : Nat) : Prop where
  lk : s.lk.length = L.length
  bds : BdsOk L.length s.bd
  len : s.bd.length ≤ i
theorem St1.init {L : List (List Actn)} : St1 L (init L.length) 0 := ⟨List.length_replicate, fun p h => absurd h List.not_mem_nil, Nat.le_refl _⟩
theorem taken_ok {L : List (List Actn)} {m : Nat} (hO : LayOk L m) (s : Sm) {k : Nat} (hk : k < m) : takenL L s k < L.length ∧ ActOk L.length ((takenL L s k : Nat) : Int) (actAt L (takenL L s k) k) ∧ isThr (actAt L (takenL L s k) k) = false := by
  have hne : filt L s k ≠ [] := fun z => by
    have := filt_zero hO s hk
    rw [z] at this
    cases this
  have h1 := (filt_last hne).1
  obtain ⟨h2, h3⟩ := List.mem_filter.mp h1
  have hl : takenL L s k < L.length := List.mem_range.mp h2
  have hm : L[takenL L s k].length = m := hO.len _ (List.getElem_mem _)
  have e := actAt_eq hl (by omega : k < L[takenL L s k].length)
  refine ⟨hl, ?_, ?_⟩
  · rw [e]
    exact hO.ok _ _ (List.getElem?_eq_getElem hl) _ (List.getElem_mem _)
  · cases q : isThr (actAt L (takenL L s k) k) with
    | false => rfl
    | true => rw [q] at h3; cases h3
theorem what_do {n : Nat} {i : Int} {x : Actn} {es : List Ev} {j : Nat} (h : ActOk n i x) (ht : isThr x = false) : DoOk n (whatM x (kindM es j x)) := by
  cases x with
  | none => exact (show DoOk n (whatM .none "plain") from by rw [what_plain]; trivial)
  | thr => cases ht
  | code c => exact (show DoOk n (whatM (.code c) "plain") from by rw [what_plain]; exact h)
  | lay w j => exact (show DoOk n (whatM (.lay w j) "plain") from by rw [what_plain]; exact ⟨h.1, h.2.1, by have := h.2.2; omega⟩)
  | dualC c d t r =>
    show DoOk n (whatM _ (if tapM es j (sureM es j (.dualC c d t r)) then ("tap" : Str) else ("hold" : Str)))
    split
    · rw [what_tap]; exact h.1
    · rw [what_hold]; exact h.2.1
  | dualL c l t r =>
    show DoOk n (whatM _ (if tapM es j (sureM es j (.dualL c l t r)) then ("tap" : Str) else ("hold" : Str)))
    split
    · rw [what_tap]; exact h.1
    · rw [what_hold]; exact ⟨by decide +kernel, h.2.1.1, by have := h.2.1.2; omega⟩
theorem kind_or {es : List Ev} {j : Nat} {x : Actn} : kindM es j x = ("plain" : String) ∨ (isDl x = true ∧ (kindM es j x = ("tap" : String) ∨ kindM es j x = ("hold" : String))) := by
  unfold kindM
  by_cases h : isDl x = true
  · rw [if_pos h]
    refine .inr ⟨h, ?_⟩
    split
    · exact .inl rfl
    · exact .inr rfl
  · rw [if_neg h]; exact .inl rfl
theorem St1.press {L : List (List Actn)} {s : Sm} {i : Nat} (h : St1 L s i) (k : Int) {x : Actn} (hx : DoOk L.length x) : St1 L (press s k x) (i + 1) := by
  obtain ⟨h1, h2, h3⟩ := h
  cases x with
  | none => exact ⟨h1, h2, by show s.bd.length ≤ _; omega⟩
  | thr => exact hx.elim
  | dualC _ _ _ _ => exact hx.elim
  | dualL _ _ _ _ => exact hx.elim
  | code c =>
    refine ⟨h1, fun p hp => ?_, Nat.le_trans (putB_len ..) (by omega)⟩
    rcases putB_mem hp with q | q
    · exact h2 p q
    · rw [q]; exact hx
  | lay w j =>
    rw [press_lay]
    obtain ⟨x1, x2, x3⟩ := hx
    by_cases w1 : w = (("layer" : String) : Str)
    · rw [if_pos w1]
      refine ⟨h1, fun p hp => ?_, Nat.le_trans (putB_len ..) (by omega)⟩
      rcases putB_mem hp with q | q
      · exact h2 p q
      · rw [q]; exact ⟨w1, x2, by omega⟩
    · rw [if_neg w1]
      by_cases w2 : w = (("lock" : String) : Str)
      · rw [if_pos w2]; exact ⟨by rw [List.length_set]; exact h1, h2, by show s.bd.length ≤ _; omega⟩
      · rw [if_neg w2]; exact ⟨h1, h2, by show s.bd.length ≤ _; omega⟩
theorem St1.release {L : List (List Actn)} {s : Sm} {i : Nat} (h : St1 L s i) (k : Int) : St1 L (release s k) (i + 1) :=
  ⟨h.lk, fun p hp => h.bds p (dropB_mem hp), Nat.le_trans (dropB_len ..) (Nat.le_succ_of_le h.len)⟩
def xAt (L : List (List Actn)) (es : List Ev) (i : Nat) : Actn := actAt L (takenL L (runS L es i) (evAt es i).k.toNat) (evAt es i).k.toNat
def outM (L : List (List Actn)) (es : List Ev) (i : Nat) : Outp := if (evAt es i).d then outP (whatM (xAt L es i) (kindM es i (xAt L es i))) else relO (runS L es i) (evAt es i).k
theorem runS_dn {L : List (List Actn)} {es : List Ev} {i : Nat} (h : (evAt es i).d = true) : runS L es (i + 1) = press (runS L es i) (evAt es i).k (whatM (xAt L es i) (kindM es i (xAt L es i))) := by
  show stepS L es i (runS L es i) = _
  unfold stepS xAt
  rw [if_pos h]
theorem runS_up {L : List (List Actn)} {es : List Ev} {i : Nat} (h : (evAt es i).d = false) : runS L es (i + 1) = release (runS L es i) (evAt es i).k := by
  show stepS L es i (runS L es i) = _
  unfold stepS
  rw [if_neg (by rw [h]; decide)]
theorem runT_dn {L : List (List Actn)} {es : List Ev} {i : Nat} (h : (evAt es i).d = true) : runT L es i = .dn (takenL L (runS L es i) (evAt es i).k.toNat) (kindM es i (xAt L es i)) (whatM (xAt L es i) (kindM es i (xAt L es i))) (if isDl (xAt L es i) then sureM es i (xAt L es i) else none) := by
  unfold runT stepT xAt
  rw [if_pos h]
theorem runT_up {L : List (List Actn)} {es : List Ev} {i : Nat} (h : (evAt es i).d = false) : runT L es i = .up := by
  unfold runT stepT
  rw [if_neg (by rw [h]; decide)]
theorem runS_ok {L : List (List Actn)} {es : List Ev} {m : Nat} (hO : LayOk L m) (hV : Valid es) (hk : ∀ e ∈ es, e.k < (m : Int)) : ∀ i, i ≤ es.length → St1 L (runS L es i) i
  | 0, _ => St1.init
  | i + 1, hi => by
    have ih := runS_ok hO hV hk i (by omega)
    have hi' : i < es.length := by omega
    have e := evAt_eq hi'
    cases hd : (evAt es i).d with
    | true =>
      rw [runS_dn hd]
      have k0 := (hV i _ (List.getElem?_eq_getElem hi')).1
      have k1 := hk _ (List.getElem_mem hi')
      obtain ⟨_, t2, t3⟩ := taken_ok hO (runS L es i) (k := (evAt es i).k.toNat) (by rw [e]; omega)
      exact ih.press _ (what_do t2 t3)
    | false => rw [runS_up hd]; exact ih.release _
/-- what was told of an event -/
def TdV (H : Hp) (t : Td) (mv sv : V) : Prop := match t with
  | .up => mv = .non ∧ sv = .non
  | .dn l kind what sure => sv = optN sure ∧ ∃ M v, mv = .ref M ∧ H M = some (.tup [.int (l : Int), .str kind, v]) ∧ ActV H what v
def ToldV (H : Hp) (L : List (List Actn)) (es : List Ev) (i : Nat) (T : Addr) : Prop := ∃ mv sv ov, H T = some (.tup [mv, sv, ov]) ∧ TdV H (runT L es i) mv sv ∧ OutV H (outM L es i) ov
theorem TdV.keep {H H' : Hp} {t : Td} {mv sv : V} (h : TdV H t mv sv) (k : Tk H H') : TdV H' t mv sv := by
  cases t with
  | up => exact h
  | dn l kind what sure =>
    obtain ⟨h1, M, v, h2, h3, h4⟩ := h
    exact ⟨h1, M, v, h2, k _ _ h3, h4.keep k⟩
theorem OutV.keep {H H' : Hp} {o : Outp} {v : V} (h : OutV H o v) (k : Tk H H') : OutV H' o v := by
  obtain ⟨T, e, h1⟩ := h
  exact ⟨T, e, k _ _ h1⟩
theorem ToldV.keep {H H' : Hp} {L : List (List Actn)} {es : List Ev} {i : Nat} {T : Addr} (h : ToldV H L es i T) (k : Tk H H') : ToldV H' L es i T := by
  obtain ⟨mv, sv, ov, h1, h2, h3⟩ := h
  exact ⟨mv, sv, ov, k _ _ h1, h2.keep k, h3.keep k⟩
def Tolds (H : Hp) (L : List (List Actn)) (es : List Ev) (W : Addr) (n : Nat) : Prop := ∃ Ts : List Addr, H W = some (.lst (Ts.map V.ref)) ∧ Ts.length = n ∧ ∀ j T, Ts[j]? = some T → ToldV H L es j T
theorem Tolds.off {H H' : Hp} {L : List (List Actn)} {es : List Ev} {W p l d e : Addr} {n : Nat} (h : Tolds H L es W n) (o : Off4 p l d e H H') (k : Tk H H') (w1 : W ≠ p) (w2 : W ≠ l) (w3 : W ≠ d) (w4 : W ≠ e) : Tolds H' L es W n := by
  obtain ⟨Ts, h1, h2, h3⟩ := h
  exact ⟨Ts, o _ _ h1 w1 w2 w3 w4, h2, fun j T x => (h3 j T x).keep k⟩
theorem Tolds.add {H : Hp} {L : List (List Actn)} {es : List Ev} {W T : Addr} {n : Nat} {Ts : List Addr} (h1 : H W = some (.lst (Ts.map V.ref))) (h2 : Ts.length = n) (h3 : ∀ j T, Ts[j]? = some T → ToldV H L es j T) (hT : ToldV H L es n T) : Tolds (upd H W (.lst (Ts.map V.ref ++ [.ref T]))) L es W (n + 1) := by
  refine ⟨Ts ++ [T], by rw [upd_same, List.map_append]; rfl, by rw [List.length_append, h2]; rfl, fun j U x => ?_⟩
  have tk : Tk H (upd H W (.lst (Ts.map V.ref ++ [.ref T]))) := tk_upd h1
  rcases Nat.lt_or_ge j Ts.length with q | q
  · rw [List.getElem?_append_left q] at x
    exact (h3 j U x).keep tk
  · rw [List.getElem?_append_right q] at x
    have : j - Ts.length = 0 := by
      have := (List.getElem?_eq_some_iff.mp x).1
      simpa using this
    rw [this] at x
    have e : T = U := Option.some.inj x
    have e2 : j = n := by omega
    rw [← e, e2]
    exact hT.keep tk
theorem wayS_up (d : Bool) : decide (V.str (wayS d) = V.str "up") = !d := by cases d <;> decide +kernel
end K74

set_option Elab.async false
set_option linter.all false
set_option maxRecDepth 100000
set_option maxHeartbeats 8000000
namespace K74
open PySem PySem.Spec PyProof.Rows L2 Gd Rm La Cb Pl
theorem PAt.updW {C : Addr} {H : Hp} {p c l d e W : Addr} {n : Nat} {s : Sm} {xs ys : List V} (h : PAt C H p c l d e n s) (hW : H W = some (.lst xs)) (w1 : W ≠ p) (w2 : W ≠ l) (w3 : W ≠ d) (w4 : W ≠ e) : PAt C (upd H W (.lst ys)) p c l d e n s := by
  obtain ⟨⟨dx, h1⟩, h2, ⟨kvs, h3, h3b⟩, ⟨pvs, h4, h4b⟩, h5⟩ := h
  exact ⟨⟨dx, by rw [upd_ne (Ne.symm w1)]; exact h1⟩, by rw [upd_ne (Ne.symm w2)]; exact h2, ⟨kvs, by rw [upd_ne (Ne.symm w3)]; exact h3, h3b.keep (tk_upd hW)⟩, ⟨pvs, by rw [upd_ne (Ne.symm w4)]; exact h4, h4b⟩, h5⟩
section
variable {P : Program} {w : World} {K : PySem.W.Frag} {mg : Str → Option Value} {base : Heap}
def spPlay (C : Addr) : Sp := fun vs H Q _ => ∃ (c g : Addr) (L : List (List Actn)) (m : Nat) (es : List Ev), vs = [.ref c, .ref g] ∧ Lay H c L ∧ LayOk L m ∧ Lst evV H g es ∧ Valid es ∧ es.length ≤ 400 ∧ (∀ e ∈ es, e.k < (m : Int)) ∧
  ∀ (H' : Hp) (T p l d e W : Addr), Same H H' → H' T = some (.tup [.ref p, .ref W]) → PAt C H' p c l d e es.length (runS L es es.length) → Tolds H' L es W es.length → Q (.ref T) H'
theorem ok_play (bt : Bt mg) {C : Addr} (cp : Cp K C) (a : At K mg "play" s_play ["layout", "record"]) (c_Player : ClI P w K mg base 1 C "Player" (spPInit C)) (c_release : ClM P w K mg base 1 C "release" (spRelease C)) (c_taken : ClM P w K mg base 2 C "taken" (spTaken C)) (c_press : ClM P w K mg base 1 C "press" (spPress C))
    (c_is_dual : Cl P w K mg base 1 "is_dual" spDual) (c_sure_event : Cl P w K mg base 2 "sure_event" spSure) (c_dual_kind : Cl P w K mg base 1 "dual_kind" spKind) (c_what_is_done : Cl P w K mg base 1 "what_is_done" spWhat) : Cl P w K mg base 3 "play" (spPlay C) := by
  have cl_Player := cp.cl
  refine clG a sc_play (fun vs H Q E h => ?_) (fun f cdv A outer s H vs Q hg hr h => ?_)
  · obtain ⟨c, g, L, m, es, rfl, _⟩ := h
    rfl
  · obtain ⟨c, g, L, m, es, rfl, hL, hO, hG, hV, h4, hkm, q⟩ := h
    refine ⟨_, (pss_cons (ps_set (i := 2) sc_play.nd rfl (Or.inl rfl) (pe_clI c_Player hg hr (by decide) (by rfl) (pa_cons (pv 0) pa_nil)))
      (pss_cons (ps_set (i := 3) sc_play.nd rfl (Or.inl rfl) (pe_lst pa_nil))
      (pss_cons (ps_for PassesOwn.never rfl (pi_enum (by rfl) bt.m_enumerate (pa_cons (pv 1) pa_nil)) (pg_tup rfl (pgs_cons (pg_name (i := 4) sc_play.nd rfl (Or.inl rfl)) (pgs_cons (pg_tup rfl (pgs_cons (pg_name (i := 5) sc_play.nd rfl (Or.inl rfl)) (pgs_cons (pg_name (i := 6) sc_play.nd rfl (Or.inl rfl)) (pgs_cons (pg_name (i := 7) sc_play.nd rfl (Or.inl rfl)) pgs_nil)))) pgs_nil))) (C8.pss_cut (ps_if (pt_cmpR op_eq (pv 7) pe_str (nomark _)) (pss_cons (ps_expr (pe_bm PySem.F.plainAttrs_list PySem.F.slot_list_append PySem.F.type_list_append mt_append (pv 3) (pa_cons (pe_tup (pa_cons pe_non (pa_cons pe_non (pa_cons (pe_clM c_release cl_Player hg hr (by decide) (pv 2) (pa_cons (pv 6) pa_nil)) pa_nil)))) pa_nil)))
      (pss_one ps_continue)) pss_nil)
      (pss_cons (ps_asg (pe_clM c_taken cl_Player hg hr (by decide) (pv 2) (pa_cons (pv 6) pa_nil)) (pg_tup rfl (pgs_cons (pg_name (i := 8) sc_play.nd rfl (Or.inl rfl)) (pgs_cons (pg_name (i := 9) sc_play.nd rfl (Or.inl rfl)) pgs_nil))))
      (pss_cons (ps_asg (pe_tup (pa_cons pe_non (pa_cons pe_str pa_nil))) (pg_tup rfl (pgs_cons (pg_name (i := 10) sc_play.nd rfl (Or.inl rfl)) (pgs_cons (pg_name (i := 11) sc_play.nd rfl (Or.inl rfl)) pgs_nil))))
      (C8.pss_cut (ps_if (pt_val (pe_cl c_is_dual hg hr (by decide) (by rfl) (pa_cons (pv 9) pa_nil))) (pss_cons (ps_set (i := 10) sc_play.nd rfl (Or.inl rfl) (pe_cl c_sure_event hg hr (by decide) (by rfl) (pa_cons (pv 1) (pa_cons (pv 4) (pa_cons (pv 9) pa_nil)))))
      (pss_one (ps_set (i := 11) sc_play.nd rfl (Or.inl rfl) (pe_cl c_dual_kind hg hr (by decide) (by rfl) (pa_cons (pv 1) (pa_cons (pv 4) (pa_cons (pv 10) pa_nil))))))) pss_nil)
      (pss_cons (ps_set (i := 12) sc_play.nd rfl (Or.inl rfl) (pe_cl c_what_is_done hg hr (by decide) (by rfl) (pa_cons (pv 9) (pa_cons (pv 11) pa_nil))))
      (pss_one (ps_expr (pe_bm PySem.F.plainAttrs_list PySem.F.slot_list_append PySem.F.type_list_append mt_append (pv 3) (pa_cons (pe_tup (pa_cons (pe_tup (pa_cons (pv 8) (pa_cons (pv 11) (pa_cons (pv 12) pa_nil)))) (pa_cons (pv 10) (pa_cons (pe_clM c_press cl_Player hg hr (by decide) (pv 2) (pa_cons (pv 6) (pa_cons (pv 12) pa_nil))) pa_nil)))) pa_nil))))))))))
      (pss_one (ps_ret (pe_tup (pa_cons (pv 2) (pa_cons (pv 3) pa_nil)))))))), ?_⟩
    obtain ⟨rs, hc, hR⟩ := id hL
    have n6 := hO.n6
    have hrl : (rs.map V.ref).length = L.length := by rw [List.length_map]; exact hR.1
    refine ⟨_, rfl, fun p dx np ndx hdp => ?_⟩
    have cp0 : c ≠ p := ne_of_none hc np
    have cdx : c ≠ dx := ne_of_none hc ndx
    refine ⟨p, dx, c, _, rfl, upd_same, by rw [upd_ne cp0, upd_ne cdx]; exact hc, by omega, fun H1 l d e nl nd ne hP hoff => ⟨rfl, ?_⟩⟩
    rw [hrl] at hP
    have s0 : Same H (upd (upd H dx (.own p)) p (.ins C dx [])) := (same_upd ndx).trans (same_upd (by rw [upd_ne (Ne.symm hdp)]; exact np))
    have s1 : Same H H1 := fun b o hb => hoff _ _ (s0 _ _ hb) (ne_of_none hb np)
    have nl' := none_back s0 nl
    have nd' := none_back s0 nd
    have ne' := none_back s0 ne
    clear hoff nl nd ne
    refine ⟨Nat.zero_le _, fun W nW => ?_⟩
    have W1 : W ≠ p := fun z => by rw [z, hP.ob.choose_spec] at nW; cases nW
    have W2 : W ≠ l := fun z => by rw [z, hP.lk] at nW; cases nW
    have W3 : W ≠ d := fun z => by rw [z, hP.bd.choose_spec.1] at nW; cases nW
    have W4 : W ≠ e := fun z => by rw [z, hP.pr.choose_spec.1] at nW; cases nW
    have nWH := none_back s1 nW
    have kW := same_upd (o := .lst []) nW
    obtain ⟨as, hg0, hT⟩ := id hG
    have hlen : (as.map V.ref).length = es.length := by rw [List.length_map]; exact hT.1
    have s2 := s1.trans kW
    refine ⟨_, rfl, g, _, rfl, SqL.of (s2 _ _ hg0), for_it (walk_enum (xs := as.map V.ref))
      (fun i σ H' => ∃ y4 y5 y6 y7 y8 y9 y10 y11 y12 : Option V, σ = [some (.ref c), some (.ref g), some (.ref p), some (.ref W), y4, y5, y6, y7, y8, y9, y10, y11, y12] ∧ Same H H' ∧ PAt C H' p c l d e i (runS L es i) ∧ Tolds H' L es W i)
      ⟨_, _, _, _, _, _, _, _, _, rfl, s2, hP.same kW, [], upd_same, rfl, fun j T x => by simp at x⟩ (fun i σ H' _ z => by obtain ⟨_, _, _, _, _, _, _, _, _, _, s3, _⟩ := z; exact SqL.of (s3 _ _ hg0)) (fun i x σ H2 H3 hi z y => ?_) (fun σ H2 z => ?_)⟩
    · obtain ⟨y4, y5, y6, y7, y8, y9, y10, y11, y12, rfl, s3, P3, T3⟩ := z
      obtain ⟨T, u, v, rfl, nT, rfl, e1, e2⟩ := y
      have hi' : i < es.length := by omega
      obtain ⟨b, hb, hbt⟩ := hT.at_ hi'
      have e2' : v = .ref b := Option.some.inj (e2.symm.trans (get_map_ref hb))
      subst e2'
      have e1' : u = .int (i : Nat) := (Option.some.inj e1).symm
      subst e1'
      have kT := same_upd (o := .tup [.int (i : Nat), .ref b]) nT
      have s4 := s3.trans kT
      have P4 := P3.same kT
      have tkT : Tk H2 _ := Tk.of kT
      have hb4 := s4 _ _ hbt
      obtain ⟨v1, v2, v3⟩ := hV i _ (List.getElem?_eq_getElem hi')
      have hkk := hkm _ (List.getElem_mem hi')
      have hev := evAt_eq hi'
      have hS := runS_ok hO hV hkm i (by omega)
      have T4 : Tolds (upd H2 T (.tup [.int (i : Nat), .ref b])) L es W i := by
        obtain ⟨Ts, t1, t2, t3⟩ := T3
        exact ⟨Ts, kT _ _ t1, t2, fun j U x => (t3 j U x).keep tkT⟩
      have hT1 := upd_same (H := H2) (a := T) (o := .tup [.int (i : Nat), .ref b])
      clear kT tkT
      generalize upd H2 T (.tup [.int (i : Nat), .ref b]) = H3 at s4 P4 T4 hT1 hb4 ⊢
      refine ⟨T, _, rfl, SqT.of hT1, rfl, _, _, rfl, _, _, rfl, b, _, rfl, SqT.of hb4, rfl, _, _, rfl, _, _, rfl, _, _, rfl, rfl, rfl, ?_⟩
      obtain ⟨dxp, hp⟩ := P4.ob
      refine ⟨fun σ' H' => σ' = [some (.ref c), some (.ref g), some (.ref p), some (.ref W), some (.int (i : Nat)), some (.int es[i].t), some (.int es[i].k), some (.str (wayS es[i].d)), y8, y9, y10, y11, y12] ∧ H' = H3 ∧ es[i].d = true, ⟨_, rfl, rfl, !es[i].d, congrArg V.bl (wayS_up es[i].d), ?_⟩, ?_⟩
      · cases hd : es[i].d with
        | true => exact iteF ⟨rfl, rfl, rfl⟩
        | false =>
          refine iteT ?_
          obtain ⟨Ts, t1, t2, t3⟩ := id T4
          refine ⟨_, rfl, .inl ⟨rfl, _, SqL.of t1⟩, _, rfl, p, dxp, _, rfl, hp, f_no (by decide +kernel), _, rfl, p, c, l, d, e, i, runS L es i, L.length, es[i].k, rfl, P4, hS.bds, by omega, fun H4 o P5 o5 ho => ⟨(by show 3 ≤ sizeLine; decide), fun T5 nT5 => ?_⟩⟩
          have k5 := same_upd (o := .tup [.non, .non, o]) nT5
          have s6 : Same H (upd H4 T5 (.tup [.non, .non, o])) := fun b o hb => k5 _ _ (o5 _ _ (s4 _ _ hb) (ne_of_none hb np) (ne_of_none hb nl') (ne_of_none hb nd') (ne_of_none hb ne'))
          have tk5 := P4.tk o5
          have T6 := T4.off o5 tk5 W1 W2 W3 W4
          have P6 := P5.same k5
          obtain ⟨Ts', u1, u2, u3⟩ := T6
          have u1' := k5 _ _ u1
          have hd' : (evAt es i).d = false := by rw [hev]; exact hd
          refine ⟨W, _, .ref T5, rfl, rfl, u1', small1000 (by rw [List.length_map]; omega), _, _, _, _, y8, y9, y10, y11, y12, rfl, Same.off s6 nWH off_upd, ?_, ?_⟩
          · rw [runS_up hd', hev]
            exact P6.updW u1' W1 W2 W3 W4
          · refine Tolds.add u1' u2 (fun j U x => (u3 j U x).keep (Tk.of k5)) ⟨_, _, _, upd_same, ?_, ?_⟩
            · rw [runT_up hd']; exact ⟨rfl, rfl⟩
            · unfold outM
              rw [if_neg (by rw [hd']; decide), hev]
              exact ho.keep (Tk.of k5)
      · rintro σ' H' ⟨rfl, rfl, hd⟩
        have hd' : (evAt es i).d = true := by rw [hev]; exact hd
        have hk0 : es[i].k = ((es[i].k.toNat : Nat) : Int) := by omega
        obtain ⟨t1, t2, t3⟩ := taken_ok hO (runS L es i) (k := es[i].k.toNat) (by omega)
        refine ⟨_, rfl, p, dxp, _, rfl, hp, f_no (by decide +kernel), _, rfl, p, c, l, d, e, i, runS L es i, L, m, es[i].k.toNat, congrArg (fun z => [V.ref p, V.int z]) hk0, P4, hL.same s4, hO, hS.bds, hS.lk, by have := hS.len; omega, by omega, fun H4 T4' v s5 hT4 hv => ?_⟩
        refine ⟨T4', _, rfl, SqT.of hT4, rfl, _, _, rfl, _, _, rfl, rfl, ?_⟩
        have hx : xAt L es i = actAt L (takenL L (runS L es i) es[i].k.toNat) es[i].k.toNat := by unfold xAt; rw [hev]
        rw [← hx] at t2 t3 hv
        refine ⟨(by show 2 ≤ sizeLine; decide), fun T7 nT7 => ?_⟩
        have k7 := same_upd (o := .tup [.non, .str "plain"]) nT7
        refine ⟨T7, _, rfl, SqT.of upd_same, rfl, _, _, rfl, _, _, rfl, rfl, ?_⟩
        have s6 := s5.trans k7
        have P6 := P4.same s6
        have T6 := T4.off (Off4.of s6) (Tk.of s6) W1 W2 W3 W4
        have hv6 := hv.keep (Tk.of k7)
        have s7 := s4.trans s6
        clear hT4
        generalize upd H4 T7 (.tup [.non, .str "plain"]) = H6 at s6 P6 T6 hv6 s7 ⊢
        refine ⟨fun σ' H' => σ' = [some (.ref c), some (.ref g), some (.ref p), some (.ref W), some (.int (i : Nat)), some (.int es[i].t), some (.int es[i].k), some (.str (wayS es[i].d)), some (.int ((takenL L (runS L es i) es[i].k.toNat : Nat) : Int)), some v, some (optN (if isDl (xAt L es i) then sureM es i (xAt L es i) else none)), some (.str (kindM es i (xAt L es i))), y12] ∧ Same H6 H', ?_, ?_⟩
        · refine ⟨_, rfl, v, xAt L es i, L.length, _, rfl, hv6, t2, _, rfl, ?_⟩
          cases hd2 : isDl (xAt L es i) with
          | false =>
            refine iteF ⟨?_, Same.refl _⟩
            rw [if_neg (by decide)]
            unfold kindM
            rw [if_neg (by rw [hd2]; decide)]
            rfl
          | true =>
            refine iteT ⟨_, rfl, _, rfl, _, rfl, g, es, i, v, xAt L es i, rfl, hG.same s7, hi', h4, hv6, hd2, fun H7 s8 => ?_⟩
            refine ⟨_, rfl, _, rfl, _, rfl, g, es, i, sureM es i (xAt L es i), rfl, hG.same (s7.trans s8), hi', fun n hn => (sureM_lt hn).2, fun H8 s9 => ⟨?_, s8.trans s9⟩⟩
            rw [if_pos rfl]
            unfold kindM
            rw [if_pos hd2]
            rfl
        · rintro σ' H7 ⟨rfl, s8⟩
          refine ⟨_, rfl, _, rfl, v, xAt L es i, kindM es i (xAt L es i), rfl, hv6.keep (Tk.of s8), kind_or, fun H8 wv s9 hw => ?_⟩
          have s10 := s8.trans s9
          have P8 := P6.same s10
          have T8 := T6.off (Off4.of s10) (Tk.of s10) W1 W2 W3 W4
          have s11 := s7.trans s10
          obtain ⟨Ts, u1, u2, u3⟩ := id T8
          obtain ⟨dx8, hp8⟩ := P8.ob
          refine ⟨_, rfl, .inl ⟨rfl, _, SqL.of u1⟩, _, rfl, _, rfl, _, rfl, (by show 3 ≤ sizeLine; decide), fun M nM => ?_⟩
          have kM := same_upd (o := .tup [.int ((takenL L (runS L es i) es[i].k.toNat : Nat) : Int), .str (kindM es i (xAt L es i)), wv]) nM
          have hM := upd_same (H := H8) (a := M) (o := .tup [.int ((takenL L (runS L es i) es[i].k.toNat : Nat) : Int), .str (kindM es i (xAt L es i)), wv])
          have P9 := P8.same kM
          have T9 := T8.off (Off4.of kM) (Tk.of kM) W1 W2 W3 W4
          have hw9 := hw.keep (Tk.of kM)
          have s12 := s11.trans kM
          have hp9 := kM _ _ hp8
          refine ⟨_, rfl, _, rfl, p, dx8, _, rfl, hp9, f_no (by decide +kernel), _, rfl, _, rfl, p, c, l, d, e, i, runS L es i, es[i].k, wv, whatM (xAt L es i) (kindM es i (xAt L es i)), rfl, P9, hw9, by rw [hS.lk]; exact what_do t2 t3, by rw [hS.lk]; exact n6, by have := hS.len; omega, by omega, fun H10 o P10 o10 ho => ⟨(by show 3 ≤ sizeLine; decide), fun T11 nT11 => ?_⟩⟩
          have k11 := same_upd (o := .tup [.ref M, optN (if isDl (xAt L es i) then sureM es i (xAt L es i) else none), o]) nT11
          have s13 : Same H (upd H10 T11 (.tup [.ref M, optN (if isDl (xAt L es i) then sureM es i (xAt L es i) else none), o])) := fun b o hb => k11 _ _ (o10 _ _ (s12 _ _ hb) (ne_of_none hb np) (ne_of_none hb nl') (ne_of_none hb nd') (ne_of_none hb ne'))
          have tk10 := P9.tk o10
          obtain ⟨Ts', x1, x2, x3⟩ := T9.off o10 tk10 W1 W2 W3 W4
          have x1' := k11 _ _ x1
          have P11 := P10.same k11
          refine ⟨W, _, .ref T11, rfl, rfl, x1', small1000 (by rw [List.length_map]; omega), _, _, _, _, _, _, _, _, _, rfl, Same.off s13 nWH off_upd, ?_, ?_⟩
          · rw [runS_dn hd', hev]
            exact P11.updW x1' W1 W2 W3 W4
          · refine Tolds.add x1' x2 (fun j U x => (x3 j U x).keep (Tk.of k11)) ⟨_, _, _, upd_same, ?_, ?_⟩
            · rw [runT_dn hd', hev]
              exact ⟨rfl, M, wv, rfl, k11 _ _ (tk10 _ _ hM), (hw9.keep tk10).keep (Tk.of k11)⟩
            · unfold outM
              rw [if_pos hd']
              exact ho.keep (Tk.of k11)
    · obtain ⟨y4, y5, y6, y7, y8, y9, y10, y11, y12, rfl, s3, P3, T3⟩ := z
      rw [hlen] at P3 T3
      refine ⟨_, rfl, _, rfl, (by show 2 ≤ sizeLine; decide), fun R nR => ?_⟩
      have kR := same_upd (o := .tup [.ref p, .ref W]) nR
      exact q _ R p l d e W (s3.trans kR) upd_same (P3.same kR) (T3.off (Off4.of kR) (Tk.of kR) W1 W2 W3 W4)
end
end K74

set_option Elab.async false
set_option linter.all false
set_option maxRecDepth 100000
set_option maxHeartbeats 8000000
namespace K74
open PySem PySem.Spec PyProof.Rows L2 Gd Rm La Cb Pl
section
variable {P : Program} {w : World} {K : PySem.W.Frag} {mg : Str → Option Value} {base : Heap}
def spPlayable : Sp := fun vs H Q _ => ∃ (c g : Addr) (L : List (List Actn)) (m : Nat) (es : List Ev), vs = [.ref c, .ref g] ∧ Lay H c L ∧ LayOk L m ∧ Lst evV H g es ∧ Valid es ∧ es.length ≤ 400 ∧ (∀ e ∈ es, e.k < (m : Int)) ∧ ∀ H', Same H H' → Q .non H'
theorem ok_check_playable (bt : Bt mg) (a : At K mg "check_playable" s_check_playable ["layout", "record"]) (c_check_layout : Cl P w K mg base 7 "check_layout" spCheckL) (c_check_record : Cl P w K mg base 4 "check_record" spCheck) : Cl P w K mg base 8 "check_playable" spPlayable := by
  refine clG a sc_check_playable (fun vs H Q E h => ?_) (fun f cdv A outer s H vs Q hg hr h => ?_)
  · obtain ⟨c, g, L, m, es, rfl, _⟩ := h
    rfl
  · obtain ⟨c, g, L, m, es, rfl, hL, hO, hG, hV, h4, hkm, q⟩ := h
    refine ⟨_, (pss_cons (ps_expr (pe_cl c_check_layout hg hr (by decide) (by rfl) (pa_cons (pv 0) pa_nil)))
      (pss_one (ps_expr (pe_cl c_check_record hg hr (by decide) (by rfl) (pa_cons (pv 1) (pa_cons (pe_callB call_len_seq (by rfl) bt.m_len (by decide +kernel) (pa_cons (pe_ix ix_list (pv 0) pe_int (fun _ _ => rfl)) pa_nil)) pa_nil)))))), ?_⟩
    obtain ⟨rs, hc, hR⟩ := id hL
    refine ⟨_, rfl, c, L, m, rfl, hL, hO, fun H1 s1 => ?_⟩
    obtain ⟨rs, hc, hR⟩ := hL.same s1
    have n1 := hO.n1
    obtain ⟨r, hr1, vs, hvs, ha⟩ := hR.at_ (i := 0) (by omega)
    refine ⟨_, rfl, _, rfl, c, _, _, .ref r, rfl, rfl, SqL.of hc, atI_nat (j := 0) (get_map_ref hr1), r, vs, rfl, .inl (SqL.of hvs), ?_⟩
    have hl : vs.length = m := by rw [ha.1]; exact hO.len _ (List.getElem_mem _)
    rw [hl]
    exact ⟨g, m, es, rfl, hG.same s1, hV, h4, hkm, fun H2 s2 => q _ (s1.trans s2)⟩
end
section
variable {P : Program} {w : World} {K : PySem.W.Frag} {mg : Str → Option Value} {base : Heap}
structure RecOk (keys : Int) (size : Nat) (es : List Ev) : Prop where
  valid : Valid es
  len : es.length = size
  key : ∀ e ∈ es, 0 ≤ e.k ∧ e.k < keys
  tick : ∀ e ∈ es, -(10 ^ 20) < e.t ∧ e.t < 10 ^ 20
structure RecIn (H0 : Hp) (r g F Dn : Addr) (gs : List Int) (m : Nat) (keys : Int) (i : Nat) (tick : Int) (es : List Ev) (ns : List Int) (H : Hp) : Prop where
  Fr : F ≠ r
  Dr : Dn ≠ r
  FD : F ≠ Dn
  gr : g ≠ r
  nF : H0 F = none
  nD : H0 Dn = none
  gap0 : H0 g = some (.lst (gs.map V.int))
  off : Off r H0 H
  reel : Reel H r m
  gap : H g = some (.lst (gs.map V.int))
  found : Lst evV H F es
  down : H Dn = some (.lst (ns.map V.int))
  ok : RecOk keys i es
  dn : DownOk ns es
  key : ∀ k ∈ ns, 0 ≤ k ∧ k < keys
  nl : ns.length ≤ i
  last : ∀ e ∈ es, e.t ≤ tick
  tk : -(10 ^ 16) ≤ tick ∧ tick ≤ 10 ^ 16 + i * 10 ^ 10
section
variable {H0 H H' : Hp} {r g F Dn : Addr} {gs : List Int} {m m' : Nat} {keys : Int} {i : Nat} {tick : Int} {es : List Ev} {ns : List Int}
theorem RecIn.go (h : RecIn H0 r g F Dn gs m keys i tick es ns H) (o : Off r H H') (R : Reel H' r m') : RecIn H0 r g F Dn gs m' keys i tick es ns H' := by
  obtain ⟨x, y, z, hr, _⟩ := id h.reel
  exact { h with off := h.off.trans o, reel := R, gap := o _ _ h.gap h.gr, found := h.found.off hr h.Fr o, down := o _ _ h.down h.Dr }
theorem RecIn.same (h : RecIn H0 r g F Dn gs m keys i tick es ns H) (o : Same H H') : RecIn H0 r g F Dn gs m keys i tick es ns H' := h.go (Off.of o) (h.reel.same o)
theorem RecIn.push {p : Addr} {ns' : List Int} {e : Ev} (h : RecIn H0 r g F Dn gs m keys i tick es ns H) (np : upd H Dn (.lst (ns'.map V.int)) p = none)
    (dn : DownOk ns' (es ++ [e])) (hv : Valid (es ++ [e])) (hk : 0 ≤ e.k ∧ e.k < keys) (hns : ∀ k ∈ ns', 0 ≤ k ∧ k < keys) (nl : ns'.length ≤ i + 1) (ht : tick ≤ e.t) (tk : e.t ≤ 10 ^ 16 + ((i + 1 : Nat) : Int) * 10 ^ 10) (hi : i < 1000) :
    ∃ as : List Addr, upd (upd H Dn (.lst (ns'.map V.int))) p (.tup (evV e)) F = some (.lst (as.map V.ref)) ∧ as.length = i ∧
      RecIn H0 r g F Dn gs m keys (i + 1) e.t (es ++ [e]) ns' (upd (upd (upd H Dn (.lst (ns'.map V.int))) p (.tup (evV e))) F (.lst (as.map V.ref ++ [.ref p]))) := by
  obtain ⟨x, y, z, hr, hb⟩ := id h.reel
  obtain ⟨as, hF, hT⟩ := h.found
  have gD : g ≠ Dn := ne_of_none h.gap0 h.nD
  have gF : g ≠ F := ne_of_none h.gap0 h.nF
  have hr1 : upd H Dn (.lst (ns'.map V.int)) r = some (.lst [.int x, .int y, .int z]) := by rw [upd_ne h.Dr.symm]; exact hr
  have hF1 : upd H Dn (.lst (ns'.map V.int)) F = some (.lst (as.map V.ref)) := by rw [upd_ne h.FD]; exact hF
  have hg1 : upd H Dn (.lst (ns'.map V.int)) g = some (.lst (gs.map V.int)) := by rw [upd_ne gD]; exact h.gap
  have hT1 : Tups (upd H Dn (.lst (ns'.map V.int))) evV as es := hT.off h.down off_upd
  have hD1 : upd H Dn (.lst (ns'.map V.int)) Dn = some (.lst (ns'.map V.int)) := upd_same
  have o1 : Off r H0 (upd H Dn (.lst (ns'.map V.int))) := h.off.new h.nD
  generalize upd H Dn (.lst (ns'.map V.int)) = H1 at *
  have hF2 := (same_upd (o := .tup (evV e)) np) _ _ hF1
  have hr2 := (same_upd (o := .tup (evV e)) np) _ _ hr1
  have hg2 := (same_upd (o := .tup (evV e)) np) _ _ hg1
  have hD2 := (same_upd (o := .tup (evV e)) np) _ _ hD1
  have hp : upd H1 p (.tup (evV e)) p = some (.tup (evV e)) := upd_same
  have pF : p ≠ F := (ne_of_none hF1 np).symm
  have hl := h.ok.len
  have hal := hT.1
  refine ⟨as, hF2, by omega, ?_⟩
  refine { h with off := (o1.sameTrans (same_upd np)).new h.nF, reel := ⟨x, y, z, by rw [upd_ne h.Fr.symm]; exact hr2, hb⟩, gap := by rw [upd_ne gF]; exact hg2,
                  found := ⟨as ++ [p], by rw [upd_same, List.map_append]; rfl, Tups.snoc ((hT1.same (same_upd np)).off hF2 off_upd) (by rw [upd_ne pF]; exact hp)⟩,
                  down := by rw [upd_ne h.FD.symm]; exact hD2, ok := ⟨hv, by rw [List.length_append, hl]; rfl, fun x hx => ?_, fun x hx => ?_⟩, dn := dn, key := hns, nl := nl, last := fun x hx => ?_, tk := ⟨by have := h.tk.1; omega, tk⟩ }
  · rcases List.mem_append.mp hx with hx | hx
    · exact h.ok.key x hx
    · rw [List.mem_singleton.mp hx]; exact hk
  · rcases List.mem_append.mp hx with hx | hx
    · exact h.ok.tick x hx
    · rw [List.mem_singleton.mp hx]
      have := h.tk.1
      exact ⟨by omega, by omega⟩
  · rcases List.mem_append.mp hx with hx | hx
    · have := h.last x hx; omega
    · rw [List.mem_singleton.mp hx]; exact Int.le_refl _
theorem RecIn.mono (h : RecIn H0 r g F Dn gs m keys i tick es ns H) (l : m ≤ m') : RecIn H0 r g F Dn gs m' keys i tick es ns H := { h with reel := h.reel.mono l }
end
end
end K74

set_option Elab.async false
set_option linter.all false
set_option maxRecDepth 100000
set_option maxHeartbeats 8000000
namespace K74
open PySem PySem.Spec PyProof.Rows L2 Gd Rm La Cb Pl
/-- x[i] of a tuple or of a text -/
def rIxE (K : PySem.W.Frag) : R2 := fun x y H Q => rIxT K x y H Q ∨ rIxS x y H Q
theorem ix_either {X : Cx} : IxR X (rIxE X.K) := by
  intro value slice pins s σ H x y v u Q I rx ry h hs
  rcases h with h | h
  · exact ix_tup value slice pins s σ H x y v u Q I rx ry h hs
  · exact ix_str value slice pins s σ H x y v u Q I rx ry h hs
/-- the first sign of an action's text, or its word -/
def headW : Actn → Str
  | .none => ⟨#['n'.toNat]⟩
  | .thr => ⟨#['t'.toNat]⟩
  | .code _ => "code"
  | .lay w _ => w
  | .dualC _ _ _ _ => "dual"
  | .dualL _ _ _ _ => "dual"
theorem act_head {K : PySem.W.Frag} {x : Actn} {v : V} {H : Hp} {Q : VK} (h : ActV H x v) (q : Q (.str (headW x)) H) : rIxE K v (.int 0) H Q := by
  cases x with
  | none => cases h; exact .inr ⟨_, 0, _, rfl, rfl, by decide +kernel, rfl, q⟩
  | thr => cases h; exact .inr ⟨_, 0, _, rfl, rfl, by decide +kernel, rfl, q⟩
  | code c => obtain ⟨a, rfl, ha⟩ := h; exact .inl ⟨a, _, 0, _, rfl, rfl, SqT.of ha, atI_nat (j := 0) rfl, q⟩
  | lay w j => obtain ⟨a, rfl, ha⟩ := h; exact .inl ⟨a, _, 0, _, rfl, rfl, SqT.of ha, atI_nat (j := 0) rfl, q⟩
  | dualC c d t r => obtain ⟨a, b, rfl, ha, hb⟩ := h; exact .inl ⟨a, _, 0, _, rfl, rfl, SqT.of ha, atI_nat (j := 0) rfl, q⟩
  | dualL c d t r => obtain ⟨a, b, rfl, ha, hb⟩ := h; exact .inl ⟨a, _, 0, _, rfl, rfl, SqT.of ha, atI_nat (j := 0) rfl, q⟩
theorem head_dual {n i : Int} {x : Actn} (h : ActOk n i x) : decide (headW x = (("dual" : String) : Str)) = isDl x := by
  cases x with
  | lay w j =>
    refine decide_eq_false ?_
    intro e
    have e : w = (("dual" : String) : Str) := e
    subst e
    have := h.1
    revert this
    decide +kernel
  | none => decide +kernel
  | thr => decide +kernel
  | code _ => exact (show decide (((("code" : String) : Str)) = ((("dual" : String) : Str))) = false by decide +kernel)
  | dualC _ _ _ _ => exact (decide_eq_true rfl)
  | dualL _ _ _ _ => exact (decide_eq_true rfl)
theorem neI {a b : Int} {p : Bool} (h : (!decide (a = b)) = p) : V.bl (!decide (V.int a = V.int b)) = .bl p := by
  rw [← h]
  by_cases z : a = b <;> simp [z]
def argL : Actn → Int
  | .lay _ j => j
  | _ => 0
theorem do_lay {n : Nat} {x : Actn} {u : Str} (h : DoOk n x) (e : headW x = u) (hu : u ∈ layWords) : ∃ j, x = .lay u j ∧ 1 ≤ j ∧ j < n := by
  cases x with
  | lay w j => exact ⟨j, by rw [← e]; rfl, h.2.1, h.2.2⟩
  | none => subst e; exact absurd hu (show ¬ headW .none ∈ layWords by decide +kernel)
  | code c => subst e; exact absurd hu (show ¬ (("code" : String) : Str) ∈ layWords by decide +kernel)
  | thr => exact h.elim
  | dualC _ _ _ _ => exact h.elim
  | dualL _ _ _ _ => exact h.elim
theorem do_code {n : Nat} {x : Actn} (h : DoOk n x) (e : headW x = (("code" : String) : Str)) : ∃ c, x = .code c := by
  cases x with
  | code c => exact ⟨c, rfl⟩
  | lay w j =>
    have e : w = (("code" : String) : Str) := e
    subst e
    exact absurd h.1 (show ¬ (("code" : String) : Str) ∈ layWords by decide +kernel)
  | none => exact absurd e (show ¬ headW .none = ((("code" : String) : Str)) by decide +kernel)
  | thr => exact h.elim
  | dualC _ _ _ _ => exact h.elim
  | dualL _ _ _ _ => exact h.elim
theorem dl_two {H : Hp} {x : Actn} {v : V} (hv : ActV H x v) (hd : isDl x = true) : ∃ (a b : Addr) (c r : Str) (t : Int), v = .ref a ∧ H a = some (.tup [.str "dual", .str c, .ref b, .int t, .str r]) ∧ tapOf x = .code c ∧ ActV H (holdOf x) (.ref b) := by
  cases x with
  | dualC c d t r =>
    obtain ⟨a, b, e1, e2, e3⟩ := hv
    exact ⟨a, b, c, r, t, e1, e2, rfl, ⟨b, rfl, e3⟩⟩
  | dualL c j t r =>
    obtain ⟨a, b, e1, e2, e3⟩ := hv
    exact ⟨a, b, c, r, t, e1, e2, rfl, ⟨b, rfl, e3⟩⟩
  | _ => cases hd
def outR : Actn → Outp
  | .code c => .re c
  | _ => .no
theorem relO_eq {s : Sm} {k : Int} : relO s k = outR ((getB s.bd k).getD .none) := by
  unfold relO
  cases getB s.bd k with
  | none => rfl
  | some x => cases x <;> rfl
theorem BdOk.doo {n : Nat} {x : Actn} (h : BdOk n x) : DoOk n x := by
  cases x with
  | code c => exact h
  | lay w j => exact ⟨by rw [h.1]; decide +kernel, h.2.1, by have := h.2.2; omega⟩
  | none => trivial
  | thr => exact h.elim
  | dualC _ _ _ _ => exact h.elim
  | dualL _ _ _ _ => exact h.elim
theorem rel_none {s : Sm} {k : Int} (h : getB s.bd k = none) : release s k = s := by
  unfold Pl.release
  have : dropB s.bd k = s.bd := by
    unfold dropB
    rw [List.filter_eq_self]
    intro p' hp'
    unfold getB at h
    rw [Option.map_eq_none_iff, List.find?_eq_none] at h
    have := h p' hp'
    simpa using this
  rw [this]
def onV (s : Sm) : V := if s.on = 0 then .non else .int s.on
/-- the law's state -/
structure LSt (H : Hp) (S A D : Addr) (n : Nat) (s : Sm) (ls : List Int) : Prop where
  st : H S = some (.lst [.ref A, onV s, .ref D])
  lk : H A = some (.lst (ls.map V.int))
  bd : ∃ kvs, H D = some (.dK kvs) ∧ Bd H kvs s.bd
  mem : ∀ i : Nat, 1 ≤ i → i < n → ((i : Int) ∈ ls ↔ s.lk.getD i false = true)
  nd : ls.Nodup
  on0 : 0 ≤ s.on
  SA : S ≠ A
theorem LSt.same {H H' : Hp} {S A D : Addr} {n : Nat} {s : Sm} {ls : List Int} (h : LSt H S A D n s ls) (t : Same H H') : LSt H' S A D n s ls := by
  obtain ⟨kvs, b1, b2⟩ := h.bd
  exact { h with st := t _ _ h.st, lk := t _ _ h.lk, bd := ⟨kvs, t _ _ b1, b2.keep (Tk.of t)⟩ }
section
variable {P : Program} {w : World} {K : PySem.W.Frag} {mg : Str → Option Value} {base : Heap}
def spLOn : Sp := fun vs H Q _ => ∃ (S A D : Addr) (n i : Nat) (s : Sm) (ls : List Int) (m : Int), vs = [.ref S, .int (i : Int)] ∧ LSt H S A D n s ls ∧ BdsOk m s.bd ∧ i < n ∧ ∀ H', Same H H' → Q (.bl (onL s i)) H'
theorem ok__law_is_on (bt : Bt mg) (a : At K mg "_law_is_on" s__law_is_on ["_law_state", "_law_layer"]) : Cl P w K mg base 1 "_law_is_on" spLOn := by
  refine clG a sc__law_is_on (fun vs H Q E h => ?_) (fun f cdv A outer s H vs Q hg hr h => ?_)
  · obtain ⟨S, A, D, n, i, s, ls, m, rfl, _⟩ := h
    rfl
  · obtain ⟨S, A, D, n, i, s, ls, m, rfl, hS, hB, hi, q⟩ := h
    refine ⟨_, (pss_cons (ps_if (PW.pt (pw_or (pt_cmpR op_eq (pv 1) pe_int (nomark _)) (pw_or (pt_cmpR op_in_seq (pv 1) (pe_ix ix_list (pv 0) pe_int (fun _ _ => rfl)) (by rfl)) (pw_or1 (pt_cmpR op_eq (pv 1) (pe_ix ix_list (pv 0) pe_int (fun _ _ => rfl)) (nomark _)))))) (pss_one (ps_ret pe_bl)) pss_nil)
      (pss_one (ps_ret (pe_cmpR (op_inD (room65 hr)) (pe_tup (pa_cons pe_str (pa_cons (pv 1) pa_nil))) (pe_listVals rfl (pe_ix ix_list (pv 0) pe_int (fun _ _ => rfl)) (by rfl) bt.m_list (by decide +kernel)) (by rfl))))), ?_⟩
    obtain ⟨kvs, b1, b2⟩ := hS.bd
    have e0 : decide ((i : Int) = 0) = decide (i = 0) := decide_eq_decide.mpr (by omega)
    have q0 := q H (Same.refl _)
    unfold onL at q0
    refine ⟨_, rfl, rfl, _, eqI e0, ?_⟩
    cases hz : decide (i = 0) with
    | true => rw [hz] at q0; exact iteT (iteT q0)
    | false =>
      have i1 : 1 ≤ i := by have := of_decide_eq_false hz; omega
      refine iteF ⟨_, rfl, _, rfl, S, _, 0, .ref A, rfl, rfl, SqL.of hS.st, atI_nat (j := 0) rfl, A, _, rfl, .inl (SqL.of hS.lk), rfl, flat_ints ls, s.lk.getD i false, congrArg V.bl ((inv_int _ _).trans ?_), ?_⟩
      · cases e : s.lk.getD i false with
        | true => exact decide_eq_true ((hS.mem i i1 hi).mpr e)
        | false => exact decide_eq_false (fun z => by rw [(hS.mem i i1 hi).mp z] at e; cases e)
      cases hk : s.lk.getD i false with
      | true => rw [hz, hk] at q0; exact iteT (iteT q0)
      | false =>
        refine iteF ⟨_, rfl, _, rfl, S, _, 1, onV s, rfl, rfl, SqL.of hS.st, atI_nat (j := 1) rfl, ?_, decide (s.on = (i : Int)), ?_, ?_⟩
        · unfold onV; split <;> rfl
        · unfold onV
          by_cases e : s.on = 0
          · rw [if_pos e, decide_eq_false (show ¬ s.on = (i : Int) by omega)]; rfl
          · rw [if_neg e]
            exact eqI (decide_eq_decide.mpr ⟨fun z => z.symm, fun z => z.symm⟩)
        cases ho : decide (s.on = (i : Int)) with
        | true => rw [hz, hk, ho] at q0; exact iteT q0
        | false =>
          refine iteF ?_
          refine ⟨_, rfl, (by show 2 ≤ sizeLine; decide), fun T nT => ?_⟩
          have k1 := same_upd (o := .tup [.str "layer", .int (i : Int)]) nT
          refine ⟨_, rfl, S, _, 2, .ref D, rfl, rfl, SqL.of (k1 _ _ hS.st), atI_nat (j := 2) rfl, D, kvs, rfl, k1 _ _ b1, fun W nW => ?_⟩
          have k2 := same_upd (o := .lst (kvs.map (·.2))) nW
          refine ⟨.tuple [.str "layer", .int (i : Int)], _, .tup (SqT.of (k2 _ _ upd_same)) (.cons (.str _) (.cons (.int _) .nil)), .lst (SqL.of upd_same) (b2.keep (Tk.of (k1.trans k2))).dp, shaped_layer _, shaped_bds hB, ?_⟩
          rw [any_layer (i : Int) hB]
          have := q _ (k1.trans k2)
          unfold onL at this
          rw [hz, hk, ho] at this
          exact this
/-- the last of those that are on, and not through -/
def lastP (L : List (List Actn)) (s : Sm) (k i : Nat) : Option Nat := ((List.range i).filter (pr L s k)).getLast?
theorem lastP_succ {L : List (List Actn)} {s : Sm} {k i : Nat} : lastP L s k (i + 1) = if pr L s k i = true then some i else lastP L s k i := by
  unfold lastP
  rw [List.range_succ, List.filter_append]
  by_cases h : pr L s k i = true
  · rw [if_pos h, List.filter_cons_of_pos h, List.filter_nil, List.getLast?_append]; rfl
  · rw [if_neg h, List.filter_cons_of_neg h, List.filter_nil, List.append_nil]
/-- what has been found up to now -/
def FoundL (H : Hp) (L : List (List Actn)) (k : Nat) : Option Nat → V → Prop
  | none, v => v = .non
  | some l, v => ∃ T u, v = .ref T ∧ H T = some (.tup [.int (l : Int), u]) ∧ ActV H (actAt L l k) u
theorem FoundL.same {H H' : Hp} {L : List (List Actn)} {k : Nat} {o : Option Nat} {v : V} (h : FoundL H L k o v) (t : Same H H') : FoundL H' L k o v := by
  cases o with
  | none => exact h
  | some l =>
    obtain ⟨T, u, e, h1, h2⟩ := h
    exact ⟨T, u, e, t _ _ h1, h2.keep (Tk.of t)⟩
def spLook : Sp := fun vs H Q _ => ∃ (c S A D : Addr) (s : Sm) (ls : List Int) (L : List (List Actn)) (m k : Nat), vs = [.ref c, .ref S, .int (k : Int)] ∧ Lay H c L ∧ LayOk L m ∧ LSt H S A D L.length s ls ∧ BdsOk L.length s.bd ∧ k < m ∧
  ∀ (H' : Hp) (T : Addr) (v : V), Same H H' → H' T = some (.tup [.int ((takenL L s k : Nat) : Int), v]) → ActV H' (actAt L (takenL L s k) k) v → Q (.ref T) H'
theorem ok__law_look (bt : Bt mg) (a : At K mg "_law_look" s__law_look ["_law_layout_here", "_law_state", "_law_key"]) (c__law_is_on : Cl P w K mg base 1 "_law_is_on" spLOn) : Cl P w K mg base 2 "_law_look" spLook := by
  refine clG a sc__law_look (fun vs H Q E h => ?_) (fun f cdv A outer s H vs Q hg hr h => ?_)
  · obtain ⟨c, S, A, D, s, ls, L, m, k, rfl, _⟩ := h
    rfl
  · obtain ⟨c, S, A, D, s, ls, L, m, k, rfl, hL, hO, hS, hB, hk, q⟩ := h
    refine ⟨_, (pss_cons (ps_set (i := 3) sc__law_look.nd rfl (Or.inl rfl) pe_non)
      (pss_cons (ps_for PassesOwn.never rfl (pi_enum (by rfl) bt.m_enumerate (pa_cons (pv 0) pa_nil)) (pg_tup rfl (pgs_cons (pg_name (i := 4) sc__law_look.nd rfl (Or.inl rfl)) (pgs_cons (pg_name (i := 5) sc__law_look.nd rfl (Or.inl rfl)) pgs_nil))) (pss_one (ps_if (PW.pt (pw_and (pt_val (pe_cl c__law_is_on hg hr (by decide) (by rfl) (pa_cons (pv 1) (pa_cons (pv 4) pa_nil)))) (pw_and1 (pt_cmpR (op_neD hr.units) (pe_ix ix_list (pv 5) (pv 2) (fun _ _ => rfl)) pe_str (nomark _))))) (pss_one (ps_set (i := 3) sc__law_look.nd rfl (Or.inl rfl) (pe_tup (pa_cons (pv 4) (pa_cons (pe_ix ix_list (pv 5) (pv 2) (fun _ _ => rfl)) pa_nil))))) pss_nil)))
      (pss_one (ps_ret (pv 3))))), ?_⟩
    obtain ⟨rs, hc, hR⟩ := id hL
    have n6 := hO.n6
    have hrl : rs.length = L.length := hR.1
    refine ⟨_, rfl, c, _, rfl, SqL.of hc, for_it (walk_enum (xs := rs.map V.ref)) (fun i σ H' => ∃ (f : V) (y4 y5 : Option V), σ = [some (.ref c), some (.ref S), some (.int (k : Int)), some f, y4, y5] ∧ Same H H' ∧ FoundL H' L k (lastP L s k i) f)
      ⟨_, _, _, rfl, Same.refl _, rfl⟩ (fun i σ H' _ z => by obtain ⟨_, _, _, _, s1, _⟩ := z; exact SqL.of (s1 _ _ hc)) (fun i x σ H1 H2 hi z y => ?_) (fun σ H1 z => ?_)⟩
    · obtain ⟨f, y4, y5, rfl, s1, hF⟩ := z
      obtain ⟨T, u, v, rfl, nT, rfl, e1, e2⟩ := y
      have hi' : i < L.length := by rw [List.length_map] at hi; omega
      obtain ⟨r, hr1, vs, hvs, ha⟩ := hR.at_ hi'
      have e2' : v = .ref r := Option.some.inj (e2.symm.trans (get_map_ref hr1))
      subst e2'
      have e1' : u = .int (i : Nat) := (Option.some.inj e1).symm
      subst e1'
      have hml : L[i].length = m := hO.len _ (List.getElem_mem _)
      have hk' : k < L[i].length := by omega
      obtain ⟨vk, hvk, hak⟩ := ha.at_ hk'
      have act : ActOk L.length i L[i][k] := hO.ok i _ (List.getElem?_eq_getElem hi') _ (List.getElem_mem hk')
      have eA := actAt_eq hi' hk'
      have kT := same_upd (o := .tup [.int (i : Nat), .ref r]) nT
      have s2 := s1.trans kT
      have hF2 := hF.same kT
      have hT := upd_same (H := H1) (a := T) (o := .tup [.int (i : Nat), .ref r])
      generalize upd H1 T (.tup [.int (i : Nat), .ref r]) = H2 at s2 hF2 hT ⊢
      refine ⟨T, _, rfl, SqT.of hT, rfl, _, _, rfl, _, _, rfl, rfl, ?_⟩
      refine ⟨_, rfl, _, rfl, S, A, D, L.length, i, s, ls, _, rfl, hS.same s2, hB, hi', fun H5 s5 => ⟨_, rfl, ?_⟩⟩
      have s6 := s2.trans s5
      have hF5 := hF2.same s5
      have skip : pr L s k i = false → ∃ (f : V) (y4 y5 : Option V), [some (.ref c), some (.ref S), some (.int (k : Int)), some f, some (.int (i : Nat)), some (.ref r)] = [some (.ref c), some (.ref S), some (.int (k : Int)), some f, y4, y5] ∧ Same H H5 ∧ FoundL H5 L k (lastP L s k (i + 1)) f := fun e => ⟨f, _, _, rfl, s6, by
        rw [lastP_succ, if_neg (by rw [e]; decide)]; exact hF5⟩
      cases ho : onL s i with
      | false =>
        have := hF5
        refine iteF (iteF ⟨f, _, _, rfl, s6, ?_⟩)
        rw [lastP_succ, if_neg (by unfold pr; rw [ho]; simp)]; exact hF5
      | true =>
        refine iteT ⟨_, rfl, _, rfl, r, vs, (k : Int), vk, rfl, rfl, SqL.of (s6 _ _ hvs), atI_nat hvk, _, _, (hak.keep (Tk.of s6)).dp, .str _, shaped_act act, by decide +kernel, !isThr L[i][k], by rw [eqv_thr], ?_⟩
        cases ht : isThr L[i][k] with
        | true =>
          refine iteF ⟨f, _, _, rfl, s6, ?_⟩
          rw [lastP_succ, if_neg (by unfold pr; rw [eA, ht]; simp)]; exact hF5
        | false =>
          refine iteT ⟨_, rfl, _, rfl, _, rfl, r, vs, (k : Int), vk, rfl, rfl, SqL.of (s6 _ _ hvs), atI_nat hvk, (by show 2 ≤ sizeLine; decide), fun T2 nT2 => ⟨_, _, _, rfl, s6.trans (same_upd nT2), ?_⟩⟩
          rw [lastP_succ, if_pos (by unfold pr; rw [eA, ht, ho]; rfl)]
          exact ⟨T2, vk, rfl, upd_same, by rw [eA]; exact (hak.keep (Tk.of s6)).keep (Tk.of (same_upd nT2))⟩
    · obtain ⟨f, y4, y5, rfl, s1, hF⟩ := z
      have hlen : (rs.map V.ref).length = L.length := by rw [List.length_map]; exact hrl
      rw [hlen] at hF
      have z0 := filt_zero hO s hk
      have hne : filt L s k ≠ [] := fun z => by rw [z] at z0; cases z0
      have el : lastP L s k L.length = some (takenL L s k) := by
        show (filt L s k).getLast? = _
        unfold takenL
        rw [List.getLast?_eq_some_getLast hne]
        rfl
      rw [el] at hF
      obtain ⟨T, u, rfl, hT, hu⟩ := hF
      exact ⟨_, rfl, q H1 T u s1 hT hu⟩
end
end K74

set_option Elab.async false
set_option linter.all false
set_option maxRecDepth 100000
set_option maxHeartbeats 8000000
namespace K74
open PySem PySem.Spec PyProof.Rows L2 Gd Rm La Cb Pl
def nsI (ss : List Nat) : List Int := ss.map fun n : Nat => (n : Int)
structure DecI (es : List Ev) (i : Nat) (r : Str) (own : Int) (j : Nat) (inner : List Int) (ss : List Nat) : Prop where
  hno : ss = [] → decM es i r = ((decEv own r inner (es.drop (i + 1 + j))).map (· + j)).map (· + (i + 1))
  hso : ∀ s0 t, ss = s0 :: t → decM es i r = some s0 ∧ ∀ x ∈ t, s0 ≤ x
  lt : ∀ x ∈ ss, x < i + 1 + j
  len : ss.length ≤ j
theorem DecI.hit {es : List Ev} {i j : Nat} {r : Str} {own : Int} {inner : List Int} {ss : List Nat} (h : DecI es i r own j inner ss) (inner' : List Int) (hh : decEv own r inner (es.drop (i + 1 + j)) = some 0) : DecI es i r own (j + 1) inner' (ss ++ [i + 1 + j]) := by
  refine ⟨fun z => by simp at z, fun s0 t z => ?_, fun x hx => ?_, by rw [List.length_append]; have := h.len; simp; omega⟩
  · cases ss with
    | nil =>
      have z : [i + 1 + j] = s0 :: t := z
      injection z with z1 z2
      subst z1 z2
      refine ⟨?_, fun x hx => by simp at hx⟩
      rw [h.hno rfl, hh]
      exact congrArg some (by show 0 + j + (i + 1) = i + 1 + j; omega)
    | cons a b =>
      have z : a :: (b ++ [i + 1 + j]) = s0 :: t := z
      injection z with z1 z2
      subst z1 z2
      obtain ⟨h1, h2⟩ := h.hso a b rfl
      refine ⟨h1, fun x hx => ?_⟩
      rcases List.mem_append.mp hx with q | q
      · exact h2 x q
      · rw [List.mem_singleton.mp q]
        have := h.lt a (List.mem_cons_self ..)
        omega
  · rcases List.mem_append.mp hx with q | q
    · have := h.lt x q; omega
    · rw [List.mem_singleton.mp q]; omega
theorem DecI.miss {es : List Ev} {i j : Nat} {r : Str} {own : Int} {inner inner' : List Int} {ss : List Nat} (h : DecI es i r own j inner ss) (hh : decEv own r inner (es.drop (i + 1 + j)) = (decEv own r inner' (es.drop (i + 1 + (j + 1)))).map (· + 1)) : DecI es i r own (j + 1) inner' ss := by
  refine ⟨fun z => ?_, h.hso, fun x hx => by have := h.lt x hx; omega, by have := h.len; omega⟩
  rw [h.hno z, hh]
  cases decEv own r inner' (es.drop (i + 1 + (j + 1))) with
  | none => rfl
  | some n => exact congrArg some (by show n + 1 + j + (i + 1) = n + (j + 1) + (i + 1); omega)
theorem nsI_snoc (ss : List Nat) (n : Nat) : (nsI ss).map V.int ++ [V.int (n : Int)] = (nsI (ss ++ [n])).map V.int := by
  unfold nsI
  rw [List.map_append, List.map_append]
  rfl
section
variable {P : Program} {w : World} {K : PySem.W.Frag} {mg : Str → Option Value} {base : Heap}
end
end K74

set_option Elab.async false
set_option linter.all false
set_option maxRecDepth 100000
set_option maxHeartbeats 8000000
namespace K74
open PySem PySem.Spec PyProof.Rows L2 Gd Rm La Cb Pl
/-- only the law's state changes -/
def Off3 (S A D : Addr) (H H' : Hp) : Prop := ∀ b o, H b = some o → b ≠ S → b ≠ A → b ≠ D → H' b = some o
theorem Off3.refl {S A D : Addr} (H : Hp) : Off3 S A D H H := fun _ _ h _ _ _ => h
theorem Off3.trans {S A D : Addr} {H H1 H2 : Hp} (a : Off3 S A D H H1) (b : Off3 S A D H1 H2) : Off3 S A D H H2 := fun x o h n1 n2 n3 => b x o (a x o h n1 n2 n3) n1 n2 n3
theorem Off3.of {S A D : Addr} {H H' : Hp} (s : Same H H') : Off3 S A D H H' := fun b o h _ _ _ => s b o h
theorem Off3.upd {S A D x : Addr} {H : Hp} {o : HO} (h : x = S ∨ x = A ∨ x = D) : Off3 S A D H (upd H x o) := fun b u hb n1 n2 n3 => by
  rw [upd_ne (by rcases h with rfl | rfl | rfl <;> assumption)]
  exact hb
theorem LSt.tk {H H' : Hp} {S A D : Addr} {n : Nat} {s : Sm} {ls : List Int} (h : LSt H S A D n s ls) (o : Off3 S A D H H') : Tk H H' := fun b xs hb => by
  obtain ⟨kvs, b1, b2⟩ := h.bd
  exact o _ _ hb (ne_of hb h.st (by intro z; cases z)) (ne_of hb h.lk (by intro z; cases z)) (ne_of hb b1 (by intro z; cases z))
theorem lk_mem {n : Nat} {s : Sm} {ls ls' : List Int} {j : Int} (hm : ∀ i : Nat, 1 ≤ i → i < n → ((i : Int) ∈ ls ↔ s.lk.getD i false = true)) (hn : s.lk.length = n) (j1 : 1 ≤ j) (j2 : j < n)
    (h : ∀ x, x ∈ ls' ↔ if x = j then ¬ j ∈ ls else x ∈ ls) : ∀ i : Nat, 1 ≤ i → i < n → ((i : Int) ∈ ls' ↔ (s.lk.set j.toNat (!s.lk.getD j.toNat false)).getD i false = true) := fun i i1 i2 => by
  rw [h, List.getD_eq_getElem?_getD, List.getElem?_set]
  by_cases z : (i : Int) = j
  · have zn : j.toNat = i := by omega
    rw [if_pos z, if_pos zn, zn, if_pos (by omega), Option.getD_some, ← z, hm i i1 i2]
    cases s.lk.getD i false <;> simp
  · have zn : ¬ j.toNat = i := by omega
    rw [if_neg z, if_neg zn, ← List.getD_eq_getElem?_getD]
    exact hm i i1 i2
theorem LSt.put {H : Hp} {S A D : Addr} {n : Nat} {s : Sm} {ls : List Int} {x : Actn} {k : Int} {v : V} {kvs : List (Key × V)} (h : LSt H S A D n s ls) (b1 : H D = some (.dK kvs)) (b2 : Bd H kvs s.bd) (hv : ActV H x v) :
    LSt (upd H D (.dK (putK kvs (Sum.inl k) v))) S A D n { s with bd := putB s.bd k x } ls := by
  have SD : S ≠ D := ne_of h.st b1 (by intro z; cases z)
  have AD : A ≠ D := ne_of h.lk b1 (by intro z; cases z)
  have tk : Tk H (upd H D (.dK (putK kvs (Sum.inl k) v))) := fun b xs hb => by
    rw [upd_ne (ne_of hb b1 (by intro z; cases z))]
    exact hb
  exact ⟨by rw [upd_ne SD]; exact h.st, by rw [upd_ne AD]; exact h.lk, ⟨_, upd_same, (b2.keep tk).put (hv.keep tk)⟩, h.mem, h.nd, h.on0, h.SA⟩
theorem LSt.clr {H : Hp} {S A D : Addr} {n : Nat} {s : Sm} {ls : List Int} {j : Int} (h : LSt H S A D n s ls) (j0 : 0 ≤ j) : LSt (upd H S (.lst [.ref A, onV { s with on := j }, .ref D])) S A D n { s with on := j } ls := by
  obtain ⟨kvs, b1, b2⟩ := h.bd
  have tk := tk_upd (zs := [.ref A, onV { s with on := j }, .ref D]) h.st
  exact ⟨upd_same, by rw [upd_ne h.SA.symm]; exact h.lk, ⟨kvs, by rw [upd_ne (ne_of b1 h.st (by intro z; cases z))]; exact b1, b2.keep tk⟩, h.mem, h.nd, j0, h.SA⟩
theorem LSt.lock {H : Hp} {S A D : Addr} {n : Nat} {s : Sm} {ls ls' : List Int} {j : Int} (h : LSt H S A D n s ls) (hn : s.lk.length = n) (j1 : 1 ≤ j) (j2 : j < n) (hm : ∀ x, x ∈ ls' ↔ if x = j then ¬ j ∈ ls else x ∈ ls) (hd : ls'.Nodup) :
    LSt (upd H A (.lst (ls'.map V.int))) S A D n { s with lk := s.lk.set j.toNat (!s.lk.getD j.toNat false) } ls' := by
  obtain ⟨kvs, b1, b2⟩ := h.bd
  have tk := tk_upd (zs := ls'.map V.int) h.lk
  exact ⟨by rw [upd_ne h.SA]; exact h.st, upd_same, ⟨kvs, by rw [upd_ne (ne_of b1 h.lk (by intro z; cases z))]; exact b1, b2.keep tk⟩, lk_mem h.mem hn j1 j2 hm, hd, h.on0, h.SA⟩
section
variable {P : Program} {w : World} {K : PySem.W.Frag} {mg : Str → Option Value} {base : Heap}
def spLPress : Sp := fun vs H Q _ => ∃ (S A D : Addr) (n : Nat) (s : Sm) (ls : List Int) (key : Int) (v : V) (x : Actn), vs = [.ref S, .int key, v] ∧ LSt H S A D n s ls ∧ ActV H x v ∧ DoOk n x ∧ s.lk.length = n ∧ ls.length ≤ 500 ∧ s.bd.length ≤ 500 ∧
  ∀ (H' : Hp) (ls' : List Int) (o : V), LSt H' S A D n (press s key x) ls' → ls'.length ≤ ls.length + 1 → Off3 S A D H H' → OutV H' (outP x) o → Q o H'
theorem ok__law_press (bt : Bt mg) (a : At K mg "_law_press" s__law_press ["_law_state", "_law_key", "_law_what"]) : Cl P w K mg base 1 "_law_press" spLPress := by
  refine clG a sc__law_press (fun vs H Q E h => ?_) (fun f cdv A0 outer s0 H vs Q hg hr h => ?_)
  · obtain ⟨S, A, D, n, s, ls, key, v, x, rfl, _⟩ := h
    rfl
  · obtain ⟨S, A, D, n, s, ls, key, v, x, rfl, hS, hv, hx, hn, hl5, hb5, q⟩ := h
    refine ⟨_, (pss_cons (ps_par (i := 3) (j := 4) rfl sc__law_press.nd rfl rfl (by decide) rfl rfl (pa_cons (pe_ix ix_list (pv 0) pe_int (fun _ _ => rfl)) (pa_cons (pe_ix ix_list (pv 0) pe_int (fun _ _ => rfl)) pa_nil)) (by rfl))
      (pss_cons (ps_asg pe_non (pg_sub (pv 0) pe_int set_list))
      (pss_cons (ps_if (pt_cmpR (op_eqD hr.units) (pv 2) pe_str (nomark _)) (pss_one (ps_ret (pe_tup pa_nil))) pss_nil)
      (pss_cons (ps_asg (pv 2) (pg_tup rfl (pgs_cons (pg_name (i := 5) sc__law_press.nd rfl (Or.inl rfl)) (pgs_cons (pg_name (i := 6) sc__law_press.nd rfl (Or.inl rfl)) pgs_nil))))
      (C8.pss_cut (ps_if (pt_cmpR op_in_seq (pv 5) (pe_tup (pa_cons pe_str (pa_cons pe_str pa_nil))) (by rfl)) (pss_one (ps_dput (hu_of hr) (pv 4) (pv 1) (pv 2) rfl)) pss_nil)
      (C8.pss_cut (ps_if (pt_cmpR op_eq (pv 5) pe_str (nomark _)) (pss_one (ps_asg (pv 6) (pg_sub (pv 0) pe_int set_list))) pss_nil)
      (C8.pss_cut (ps_if (PW.pt (pw_and (pt_cmpR op_eq (pv 5) pe_str (nomark _)) (pw_and1 (pt_cmpR op_in_seq (pv 6) (pv 3) (by rfl))))) (pss_one (ps_expr (pe_bm PySem.F.plainAttrs_list PySem.F.slot_list_remove PySem.F.type_list_remove mt_remove (pv 3) (pa_cons (pv 6) pa_nil)))) (pss_one (ps_if (pt_cmpR op_eq (pv 5) pe_str (nomark _)) (pss_one (ps_expr (pe_bm PySem.F.plainAttrs_list PySem.F.slot_list_append PySem.F.type_list_append mt_append (pv 3) (pa_cons (pv 6) pa_nil)))) pss_nil)))
      (pss_one (ps_ret (pe_ifExp (pt_cmpR op_eq (pv 5) pe_str (nomark _)) (pe_tup (pa_cons pe_str (pa_cons (pv 6) pa_nil))) (pe_tup pa_nil))))))))))), ?_⟩
    refine ⟨_, rfl, S, _, 0, .ref A, rfl, rfl, SqL.of hS.st, atI_nat (j := 0) rfl, _, rfl, S, _, 2, .ref D, rfl, rfl, SqL.of hS.st, atI_nat (j := 2) rfl, _, _, rfl, ?_⟩
    refine ⟨_, rfl, S, _, 1, 1, rfl, rfl, hS.st, rfl, ?_⟩
    have S1 : LSt (upd H S (.lst [.ref A, .non, .ref D])) S A D n { s with on := 0 } ls := hS.clr (j := 0) (Int.le_refl _)
    have o1 : Off3 S A D H (upd H S (.lst [.ref A, .non, .ref D])) := Off3.upd (.inl rfl)
    have hv1 := hv.keep (hS.tk o1)
    show tSeq _ _ _ _ (upd H S (.lst [.ref A, .non, .ref D]))
    generalize upd H S (.lst [.ref A, .non, .ref D]) = H1 at S1 o1 hv1 ⊢
    refine ⟨_, rfl, _, _, hv1.dp, .str _, shaped_act hx.act, by decide +kernel, isNo x, congrArg V.bl (eqv_no x), ?_⟩
    have nothing : ∀ (H2 : Hp) (ls' : List Int), outP x = .no → LSt H2 S A D n (press s key x) ls' → ls'.length ≤ ls.length + 1 → Off3 S A D H H2 → ∀ T : Addr, H2 T = none → Q (.ref T) (upd H2 T (.tup [])) := fun H2 ls' e2 L2 l2 o2 T nT =>
      q _ ls' _ (L2.same (same_upd nT)) l2 (o2.trans (Off3.of (same_upd nT))) (by rw [e2]; exact ⟨T, rfl, upd_same⟩)
    cases x with
    | none => exact iteT ⟨Nat.zero_le _, fun T nT => nothing H1 ls rfl S1 (by omega) o1 T nT⟩
    | thr => exact hx.elim
    | dualC _ _ _ _ => exact hx.elim
    | dualL _ _ _ _ => exact hx.elim
    | code y =>
      refine iteF ?_
      obtain ⟨a, rfl, ha⟩ := id hv1
      refine ⟨_, rfl, a, _, rfl, SqT.of ha, rfl, _, _, rfl, _, _, rfl, rfl, ?_⟩
      refine ⟨_, ?_, fun _ _ h => h⟩
      refine ⟨_, rfl, (by show 2 ≤ sizeLine; decide), fun T nT => ⟨T, _, rfl, .inr (SqT.of upd_same), rfl, rfl, true, by decide +kernel, iteT ?_⟩⟩
      have kT := same_upd (o := .tup [.str "code", .str "layer"]) nT
      have S2 := S1.same kT
      have hv2 := hv1.keep (Tk.of kT)
      have o2 := o1.trans (Off3.of (S := S) (A := A) (D := D) kT)
      generalize upd H1 T (.tup [.str "code", .str "layer"]) = H2 at S2 hv2 o2 ⊢
      obtain ⟨kvs, b1, b2⟩ := S2.bd
      refine ⟨_, rfl, _, rfl, _, rfl, D, _, rfl, DPut.k (k := Sum.inl key) b1 (small1000 (by have := b2.length; have : ({ s with on := 0 } : Sm).bd.length ≤ 500 := hb5; omega)), ?_⟩
      have S3 := S2.put (k := key) b1 b2 hv2
      have o3 : Off3 S A D H (upd H2 D (.dK (putK kvs (Sum.inl key) (.ref a)))) := o2.trans (Off3.upd (.inr (.inr rfl)))
      generalize upd H2 D (.dK (putK kvs (Sum.inl key) (.ref a))) = H3 at S3 o3 ⊢
      refine ⟨_, ?_, fun _ _ h => h⟩
      refine ⟨_, rfl, rfl, false, eqS (by decide +kernel), iteF ?_⟩
      refine ⟨_, ?_, fun _ _ h => h⟩
      refine ⟨_, rfl, rfl, false, eqS (by decide +kernel), iteF (iteF ⟨_, rfl, rfl, false, eqS (by decide +kernel), iteF ?_⟩)⟩
      refine ⟨_, rfl, rfl, true, eqS (by decide +kernel), iteT ⟨_, rfl, (by show 2 ≤ sizeLine; decide), fun T nT => ?_⟩⟩
      exact q _ ls _ (S3.same (same_upd nT)) (by omega) (o3.trans (Off3.of (same_upd nT))) ⟨T, rfl, upd_same⟩
    | lay u j =>
      refine iteF ?_
      obtain ⟨a, rfl, ha⟩ := id hv1
      obtain ⟨x1, x2, x3⟩ := hx
      have hw : u = (("layer" : String) : Str) ∨ u = (("lock" : String) : Str) ∨ u = (("once" : String) : Str) := by
        have : layWords = [(("layer" : String) : Str), (("lock" : String) : Str), (("once" : String) : Str)] := rfl
        rw [this, List.mem_cons, List.mem_cons, List.mem_cons] at x1
        rcases x1 with h | h | h | h
        · exact .inl h
        · exact .inr (.inl h)
        · exact .inr (.inr h)
        · cases h
      refine ⟨_, rfl, a, _, rfl, SqT.of ha, rfl, _, _, rfl, _, _, rfl, rfl, ?_⟩
      refine ⟨_, ?_, fun _ _ h => h⟩
      refine ⟨_, rfl, (by show 2 ≤ sizeLine; decide), fun T nT => ⟨T, _, rfl, .inr (SqT.of upd_same), rfl, rfl, ?_⟩⟩
      have kT := same_upd (o := .tup [.str "code", .str "layer"]) nT
      have S2 := S1.same kT
      have hv2 := hv1.keep (Tk.of kT)
      have o2 := o1.trans (Off3.of (S := S) (A := A) (D := D) kT)
      generalize upd H1 T (.tup [.str "code", .str "layer"]) = H2 at S2 hv2 o2 ⊢
      rcases hw with rfl | rfl | rfl
      · refine ⟨true, by decide +kernel, iteT ?_⟩
        obtain ⟨kvs, b1, b2⟩ := S2.bd
        refine ⟨_, rfl, _, rfl, _, rfl, D, _, rfl, DPut.k (k := Sum.inl key) b1 (small1000 (by have := b2.length; have : ({ s with on := 0 } : Sm).bd.length ≤ 500 := hb5; omega)), ?_⟩
        have S3 := S2.put (k := key) b1 b2 hv2
        have o3 : Off3 S A D H (upd H2 D (.dK (putK kvs (Sum.inl key) (.ref a)))) := o2.trans (Off3.upd (.inr (.inr rfl)))
        generalize upd H2 D (.dK (putK kvs (Sum.inl key) (.ref a))) = H3 at S3 o3 ⊢
        refine ⟨_, ?_, fun _ _ h => h⟩
        refine ⟨_, rfl, rfl, false, eqS (by decide +kernel), iteF ?_⟩
        refine ⟨_, ?_, fun _ _ h => h⟩
        refine ⟨_, rfl, rfl, false, eqS (by decide +kernel), iteF (iteF ⟨_, rfl, rfl, false, eqS (by decide +kernel), iteF ?_⟩)⟩
        refine ⟨_, rfl, rfl, false, eqS (by decide +kernel), iteF ⟨Nat.zero_le _, fun T nT => nothing H3 ls rfl ?_ (by omega) o3 T nT⟩⟩
        rw [press_lay, if_pos rfl]
        exact S3
      · refine ⟨false, by decide +kernel, iteF ?_⟩
        refine ⟨_, ?_, fun _ _ h => h⟩
        refine ⟨_, rfl, rfl, false, eqS (by decide +kernel), iteF ?_⟩
        refine ⟨_, ?_, fun _ _ h => h⟩
        have pe : press s key (.lay ("lock" : String) j) = { s with on := 0, lk := s.lk.set j.toNat (!s.lk.getD j.toNat false) } := by
          rw [press_lay, if_neg (by decide +kernel), if_pos rfl]
        have hlk := S2.lk
        by_cases hj : j ∈ ls
        · obtain ⟨t, ht⟩ := List.getElem?_of_mem hj
          refine ⟨_, rfl, rfl, true, eqS (by decide +kernel), iteT ⟨_, rfl, _, rfl, A, _, rfl, .inl (SqL.of hlk), rfl, flat_ints ls, true, congrArg V.bl ((inv_int _ _).trans (decide_eq_true hj)), iteT ?_⟩⟩
          refine ⟨_, rfl, .inl ⟨rfl, _, SqL.of hlk⟩, _, rfl, A, ls, j, t, rfl, rfl, hlk, ht, first_ix S2.nd ht, ?_⟩
          have S3 := S2.lock (ls' := ls.eraseIdx t) hn x2 x3 (fun x => by
            rw [mem_eraseIdx S2.nd ht]
            by_cases z : x = j
            · rw [if_pos z]; exact ⟨fun y => absurd z y.1, fun y => absurd hj y⟩
            · rw [if_neg z]; exact ⟨fun y => y.2, fun y => ⟨z, y⟩⟩) (S2.nd.eraseIdx t)
          have o3 : Off3 S A D H (upd H2 A (.lst ((ls.eraseIdx t).map V.int))) := o2.trans (Off3.upd (.inr (.inl rfl)))
          generalize upd H2 A (.lst ((ls.eraseIdx t).map V.int)) = H3 at S3 o3 ⊢
          refine ⟨_, rfl, rfl, false, eqS (by decide +kernel), iteF ⟨Nat.zero_le _, fun T nT => nothing H3 (ls.eraseIdx t) rfl ?_ (by have := List.length_eraseIdx_le ls t; omega) o3 T nT⟩⟩
          rw [pe]
          exact S3
        · refine ⟨_, rfl, rfl, true, eqS (by decide +kernel), iteT ⟨_, rfl, _, rfl, A, _, rfl, .inl (SqL.of hlk), rfl, flat_ints ls, false, congrArg V.bl ((inv_int _ _).trans (decide_eq_false hj)), iteF ⟨_, rfl, rfl, true, eqS (by decide +kernel), iteT ?_⟩⟩⟩
          refine ⟨_, rfl, .inl ⟨rfl, _, SqL.of hlk⟩, _, rfl, A, _, .int j, rfl, rfl, hlk, small1000 (by rw [List.length_map]; omega), ?_⟩
          have em : ls.map V.int ++ [.int j] = (ls ++ [j]).map V.int := by rw [List.map_append]; rfl
          rw [em]
          have S3 := S2.lock (ls' := ls ++ [j]) hn x2 x3 (fun x => by
            rw [List.mem_append, List.mem_singleton]
            by_cases z : x = j
            · rw [if_pos z]; exact ⟨fun _ => hj, fun _ => .inr z⟩
            · rw [if_neg z]; exact ⟨fun y => y.resolve_right z, fun y => .inl y⟩) (nd_snoc S2.nd hj)
          have o3 : Off3 S A D H (upd H2 A (.lst ((ls ++ [j]).map V.int))) := o2.trans (Off3.upd (.inr (.inl rfl)))
          generalize upd H2 A (.lst ((ls ++ [j]).map V.int)) = H3 at S3 o3 ⊢
          refine ⟨_, rfl, rfl, false, eqS (by decide +kernel), iteF ⟨Nat.zero_le _, fun T nT => nothing H3 (ls ++ [j]) rfl ?_ (by rw [List.length_append]; exact Nat.le_refl _) o3 T nT⟩⟩
          rw [pe]
          exact S3
      · refine ⟨false, by decide +kernel, iteF ?_⟩
        refine ⟨_, ?_, fun _ _ h => h⟩
        have pe : press s key (.lay ("once" : String) j) = { s with on := j } := by
          rw [press_lay, if_neg (by decide +kernel), if_neg (by decide +kernel)]
        refine ⟨_, rfl, rfl, true, eqS (by decide +kernel), iteT ?_⟩
        refine ⟨_, rfl, _, rfl, S, _, 1, 1, rfl, rfl, S2.st, rfl, ?_⟩
        have S3 : LSt (upd H2 S (.lst [.ref A, .int j, .ref D])) S A D n { s with on := j } ls := by
          have e : onV ({ s with on := j } : Sm) = .int j := by
            unfold onV
            exact if_neg (by show ¬ j = 0; omega)
          have := S2.clr (j := j) (by omega)
          rw [show onV { ({ s with on := 0 } : Sm) with on := j } = .int j from e] at this
          exact this
        have o3 : Off3 S A D H (upd H2 S (.lst [.ref A, .int j, .ref D])) := o2.trans (Off3.upd (.inl rfl))
        show (fun _ _ => _) _ (upd H2 S (.lst [.ref A, .int j, .ref D]))
        generalize upd H2 S (.lst [.ref A, .int j, .ref D]) = H3 at S3 o3 ⊢
        refine ⟨_, ?_, fun _ _ h => h⟩
        refine ⟨_, rfl, rfl, false, eqS (by decide +kernel), iteF (iteF ⟨_, rfl, rfl, false, eqS (by decide +kernel), iteF ?_⟩)⟩
        refine ⟨_, rfl, rfl, false, eqS (by decide +kernel), iteF ⟨Nat.zero_le _, fun T nT => nothing H3 ls rfl ?_ (by omega) o3 T nT⟩⟩
        rw [pe]
        exact S3
end
end K74

set_option Elab.async false
set_option linter.all false
set_option maxRecDepth 100000
set_option maxHeartbeats 8000000
namespace K74
open PySem PySem.Spec PyProof.Rows L2 Gd Rm La Cb Pl
theorem rel_te8 {K : PySem.W.Frag} {σ : L2.St} {H : Hp} {Q : VK} {v : V} {x : Actn} {n : Nat} (h6 : σ[8]? = some (some v)) (hv : ActV H x v) (hx : DoOk n x)
    (q : ∀ T, H T = none → Q (.ref T) (upd H T (.tup (outL (outR x))))) :
    tIf (tTest (tOp rEq (tOp (rIxE K) (tVar 8) (tC (V.int 0))) (tC (V.str ("code" : String))))) (tTup (tCons (tC (V.str ("release" : String))) (tCons (tOp (rIxE K) (tVar 8) (tC (V.int 1))) tNil))) (tTup tNil) σ H Q := by
  refine ⟨_, h6, act_head hv ⟨rfl, decide (headW x = (("code" : String) : Str)), eqS rfl, ?_⟩⟩
  by_cases e : headW x = (("code" : String) : Str)
  · rw [decide_eq_true e]
    obtain ⟨c, rfl⟩ := do_code hx e
    obtain ⟨a, rfl, ha⟩ := hv
    exact iteT ⟨_, h6, .inl ⟨a, _, 1, _, rfl, rfl, SqT.of ha, atI_nat (j := 1) rfl, (by show 2 ≤ sizeLine; decide), q⟩⟩
  · rw [decide_eq_false e]
    refine iteF ⟨Nat.zero_le _, fun T nT => ?_⟩
    have := q T nT
    cases x with
    | code c => exact absurd rfl e
    | _ => exact this
theorem two_go {T : Prop} {A C : Hp → V → Prop} (f : (∀ H v, A H v → C H v) → T) (g : ∀ H v, A H v → C H v) : T := f g
theorem dl_all {H : Hp} {x : Actn} {v : V} (hv : ActV H x v) (hd : isDl x = true) : ∃ (a b : Addr) (c : Str), v = .ref a ∧ H a = some (.tup [.str "dual", .str c, .ref b, .int (timeOf x), .str (ruleOf x)]) ∧ tapOf x = .code c ∧ ActV H (holdOf x) (.ref b) := by
  cases x with
  | dualC c d t r =>
    obtain ⟨a, b, e1, e2, e3⟩ := hv
    exact ⟨a, b, c, e1, e2, rfl, ⟨b, rfl, e3⟩⟩
  | dualL c j t r =>
    obtain ⟨a, b, e1, e2, e3⟩ := hv
    exact ⟨a, b, c, e1, e2, rfl, ⟨b, rfl, e3⟩⟩
  | _ => cases hd
def TdR (H : Hp) (t : Td) (lv kv wv sv : V) : Prop := match t with
  | .up => lv = .non ∧ kv = .non ∧ wv = .non ∧ sv = .non
  | .dn l kind what sure => lv = .int (l : Int) ∧ kv = .str kind ∧ ActV H what wv ∧ sv = optN sure
theorem TdR.keep {H H' : Hp} {t : Td} {lv kv wv sv : V} (h : TdR H t lv kv wv sv) (k : Tk H H') : TdR H' t lv kv wv sv := by
  cases t with
  | up => exact h
  | dn l kind what sure => exact ⟨h.1, h.2.1, h.2.2.1.keep k, h.2.2.2⟩
/-- a row of the law's run -/
def RowV (H : Hp) (L : List (List Actn)) (es : List Ev) (i : Nat) (T : Addr) : Prop := ∃ lv kv wv ov sv, H T = some (.tup [lv, kv, wv, ov, sv]) ∧ TdR H (runT L es i) lv kv wv sv ∧ OutV H (outM L es i) ov
theorem RowV.keep {H H' : Hp} {L : List (List Actn)} {es : List Ev} {i : Nat} {T : Addr} (h : RowV H L es i T) (k : Tk H H') : RowV H' L es i T := by
  obtain ⟨lv, kv, wv, ov, sv, h1, h2, h3⟩ := h
  exact ⟨lv, kv, wv, ov, sv, k _ _ h1, h2.keep k, h3.keep k⟩
def Rws (H : Hp) (L : List (List Actn)) (es : List Ev) (W : Addr) (n : Nat) : Prop := ∃ Ts : List Addr, H W = some (.lst (Ts.map V.ref)) ∧ Ts.length = n ∧ ∀ j T, Ts[j]? = some T → RowV H L es j T
theorem Rws.same {H H' : Hp} {L : List (List Actn)} {es : List Ev} {W : Addr} {n : Nat} (h : Rws H L es W n) (s : Same H H') : Rws H' L es W n := by
  obtain ⟨Ts, h1, h2, h3⟩ := h
  exact ⟨Ts, s _ _ h1, h2, fun j T x => (h3 j T x).keep (Tk.of s)⟩
theorem Rws.add {H : Hp} {L : List (List Actn)} {es : List Ev} {W T : Addr} {n : Nat} {Ts : List Addr} (h1 : H W = some (.lst (Ts.map V.ref))) (h2 : Ts.length = n) (h3 : ∀ j T, Ts[j]? = some T → RowV H L es j T) (hT : RowV H L es n T) : Rws (upd H W (.lst (Ts.map V.ref ++ [.ref T]))) L es W (n + 1) := by
  refine ⟨Ts ++ [T], by rw [upd_same, List.map_append]; rfl, by rw [List.length_append, h2]; rfl, fun j U x => ?_⟩
  have tk : Tk H (upd H W (.lst (Ts.map V.ref ++ [.ref T]))) := tk_upd h1
  rcases Nat.lt_or_ge j Ts.length with q | q
  · rw [List.getElem?_append_left q] at x
    exact (h3 j U x).keep tk
  · rw [List.getElem?_append_right q] at x
    have : j - Ts.length = 0 := by
      have := (List.getElem?_eq_some_iff.mp x).1
      simpa using this
    rw [this] at x
    have e : T = U := Option.some.inj x
    have e2 : j = n := by omega
    rw [← e, e2]
    exact hT.keep tk
theorem LSt.drop {H : Hp} {S A D : Addr} {n : Nat} {s : Sm} {ls : List Int} {k : Int} {kvs : List (Key × V)} (h : LSt H S A D n s ls) (b1 : H D = some (.dK kvs)) (b2 : Bd H kvs s.bd) : LSt (upd H D (.dK (dropK kvs (Sum.inl k)))) S A D n (release s k) ls := by
  have SD : S ≠ D := ne_of h.st b1 (by intro z; cases z)
  have AD : A ≠ D := ne_of h.lk b1 (by intro z; cases z)
  have tk : Tk H (upd H D (.dK (dropK kvs (Sum.inl k)))) := fun b xs hb => by
    rw [upd_ne (ne_of hb b1 (by intro z; cases z))]
    exact hb
  exact ⟨by rw [upd_ne SD]; exact h.st, by rw [upd_ne AD]; exact h.lk, ⟨_, upd_same, (b2.keep tk).drop k⟩, h.mem, h.nd, h.on0, h.SA⟩
theorem LSt.updW {H : Hp} {S A D W : Addr} {n : Nat} {s : Sm} {ls : List Int} {xs ys : List V} (h : LSt H S A D n s ls) (hW : H W = some (.lst xs)) (w1 : W ≠ S) (w2 : W ≠ A) : LSt (upd H W (.lst ys)) S A D n s ls := by
  obtain ⟨kvs, b1, b2⟩ := h.bd
  exact ⟨by rw [upd_ne (Ne.symm w1)]; exact h.st, by rw [upd_ne (Ne.symm w2)]; exact h.lk, ⟨kvs, by rw [upd_ne (ne_of b1 hW (by intro z; cases z))]; exact b1, b2.keep (tk_upd hW)⟩, h.mem, h.nd, h.on0, h.SA⟩
section
variable {P : Program} {w : World} {K : PySem.W.Frag} {mg : Str → Option Value} {base : Heap}
end
end K74

set_option Elab.async false
set_option linter.all false
set_option maxRecDepth 100000
set_option maxHeartbeats 8000000
namespace K74
open PySem PySem.Spec PyProof.Rows L2 Gd Rm La Cb Pl
def outD : Outp → PyData
  | .no => .tuple []
  | .pr c => .tuple [.str "press", .str c]
  | .re c => .tuple [.str "release", .str c]
def OutOk : Outp → Prop
  | .no => True
  | .pr c => CodeOk c
  | .re c => CodeOk c
theorem fit_out {o : Outp} (h : OutOk o) : Fit 500 1 (outD o) := by
  cases o with
  | no => exact ⟨rfl, by decide, by decide +kernel⟩
  | pr c => exact fit_two' (fit_const "press") (fit_code h)
  | re c => exact fit_two' (fit_const "release") (fit_code h)
theorem OutV.dp {K : PySem.W.Frag} {H : Hp} {o : Outp} {v : V} (h : OutV H o v) : Dp K H v (outD o) := by
  obtain ⟨T, rfl, hT⟩ := h
  cases o with
  | no => exact .tup (SqT.of hT) .nil
  | pr c => exact .tup (SqT.of hT) (.cons (.str _) (.cons (.str _) .nil))
  | re c => exact .tup (SqT.of hT) (.cons (.str _) (.cons (.str _) .nil))
theorem out_lay {o : Outp} (h : OutOk o) : SeqAt.shaped (outD o) = true := by
  cases o with
  | no => decide +kernel
  | pr c => simp [SeqAt.shaped, outD, PyData.canLay0, PyData.canLayAll0, PyData.depth, PyData.depthAll, (by decide +kernel : PyData.strOk "press" = true), strOk_code h]
  | re c => simp [SeqAt.shaped, outD, PyData.canLay0, PyData.canLayAll0, PyData.depth, PyData.depthAll, (by decide +kernel : PyData.strOk "release" = true), strOk_code h]
def isOut : Outp → Bool
  | .no => false
  | _ => true
theorem eqv_out : ∀ o : Outp, PyData.eqv (outD o) (.tuple []) = !isOut o
  | .no => by decide +kernel
  | .pr _ => rfl
  | .re _ => rfl
def OutsV (H : Hp) (vs : List V) (os : List Outp) : Prop := vs.length = os.length ∧ ∀ (i : Nat) (v : V) (o : Outp), vs[i]? = some v → os[i]? = some o → OutV H o v
def Outs (H : Hp) (D : Addr) (os : List Outp) : Prop := ∃ vs, H D = some (.lst vs) ∧ OutsV H vs os
section
variable {H H' : Hp} {vs : List V} {os : List Outp} {D : Addr}
theorem OutsV.keep (h : OutsV H vs os) (t : Tk H H') : OutsV H' vs os := ⟨h.1, fun i v o a b => (h.2 i v o a b).keep t⟩
theorem Outs.same (h : Outs H D os) (s : Same H H') : Outs H' D os := by
  obtain ⟨vs, a, b⟩ := h
  exact ⟨vs, s _ _ a, b.keep (Tk.of s)⟩
theorem OutsV.nil : OutsV H [] [] := ⟨rfl, fun i v o h _ => by simp at h⟩
theorem OutsV.snoc {v : V} {o : Outp} (h : OutsV H vs os) (hv : OutV H o v) : OutsV H (vs ++ [v]) (os ++ [o]) := by
  refine ⟨by rw [List.length_append, List.length_append, h.1]; rfl, fun i u y a b => ?_⟩
  have hl := h.1
  rcases Nat.lt_or_ge i vs.length with q | q
  · rw [List.getElem?_append_left q] at a
    rw [List.getElem?_append_left (by omega)] at b
    exact h.2 i u y a b
  · have hi : i = vs.length := by
      have := (List.getElem?_eq_some_iff.mp a).1
      rw [List.length_append] at this
      simp at this
      omega
    subst hi
    rw [List.getElem?_append_right (Nat.le_refl _), Nat.sub_self] at a
    rw [List.getElem?_append_right (by omega), show vs.length - os.length = 0 by omega] at b
    have e1 : v = u := Option.some.inj a
    have e2 : o = y := Option.some.inj b
    subst e1 e2
    exact hv
theorem OutsV.dp {K : PySem.W.Frag} : ∀ {vs : List V} {os : List Outp}, OutsV H vs os → DpAll K H vs (os.map outD)
  | [], [], _ => .nil
  | [], _ :: _, h => by have := h.1; simp at this
  | _ :: _, [], h => by have := h.1; simp at this
  | v :: vs, x :: xs, h => .cons ((h.2 0 v x rfl rfl).dp) (OutsV.dp ⟨by have := h.1; simpa using this, fun i u y a b => h.2 (i + 1) u y (by simpa using a) (by simpa using b)⟩)
theorem Outs.dp {K : PySem.W.Frag} (h : Outs H D os) : Dp K H (.ref D) (.list (os.map outD)) := by
  obtain ⟨vs, a, b⟩ := h
  exact .lst (SqL.of a) b.dp
end
theorem fit_outs {os : List Outp} (h : ∀ o ∈ os, OutOk o) (hl : os.length ≤ 400) : Fit 210000 2 (.list (os.map outD)) := by
  refine Fit.mono (fit_list (L := 500) (n := 1) fun d hd => ?_) (by rw [List.length_map]; omega) (Nat.le_refl _)
  obtain ⟨o, ho, rfl⟩ := List.mem_map.mp hd
  exact fit_out (h o ho)
def outsM (L : List (List Actn)) (es : List Ev) (n : Nat) : List Outp := (List.range n).map (outM L es)
theorem outsM_succ {L : List (List Actn)} {es : List Ev} {n : Nat} : outsM L es (n + 1) = outsM L es n ++ [outM L es n] := by
  unfold outsM
  rw [List.range_succ, List.map_append]
  rfl
theorem outsM_len {L : List (List Actn)} {es : List Ev} {n : Nat} : (outsM L es n).length = n := by unfold outsM; rw [List.length_map, List.length_range]
theorem outM_ok {L : List (List Actn)} {es : List Ev} {m : Nat} (hO : LayOk L m) (hV : Valid es) (hk : ∀ e ∈ es, e.k < (m : Int)) {i : Nat} (hi : i < es.length) : OutOk (outM L es i) := by
  have e := evAt_eq hi
  unfold outM
  split
  · have k0 := (hV i _ (List.getElem?_eq_getElem hi)).1
    have k1 := hk _ (List.getElem_mem hi)
    obtain ⟨_, t2, t3⟩ := taken_ok hO (runS L es i) (k := (evAt es i).k.toNat) (by rw [e]; omega)
    have := what_do (es := es) (j := i) (n := L.length) (x := xAt L es i) t2 t3
    generalize whatM (xAt L es i) (kindM es i (xAt L es i)) = W at this ⊢
    cases W with
    | code c => exact this
    | _ => trivial
  · have hSt := runS_ok hO hV hk i (by omega)
    rw [relO_eq]
    cases g : getB (runS L es i).bd (evAt es i).k with
    | none => trivial
    | some x =>
      obtain ⟨p0, hp0, _, e2⟩ := getB_mem g
      have := hSt.bds p0 hp0
      rw [e2] at this
      cases x with
      | code c => exact this
      | _ => trivial
theorem outsM_ok {L : List (List Actn)} {es : List Ev} {m : Nat} (hO : LayOk L m) (hV : Valid es) (hk : ∀ e ∈ es, e.k < (m : Int)) : ∀ o ∈ outsM L es es.length, OutOk o := fun o ho => by
  unfold outsM at ho
  obtain ⟨i, hi, rfl⟩ := List.mem_map.mp ho
  exact outM_ok hO hV hk (List.mem_range.mp hi)
theorem neD {b : Bool} {x y : PyData} (h : PyData.eqv x y = b) : V.bl (!PyData.eqv x y) = V.bl (!b) := by rw [h]
section
variable {P : Program} {w : World} {K : PySem.W.Frag} {mg : Str → Option Value} {base : Heap}
def spPlayed : Sp := fun vs H Q _ => ∃ (c g : Addr) (L : List (List Actn)) (m : Nat) (es : List Ev), vs = [.ref c, .ref g] ∧ Lay H c L ∧ LayOk L m ∧ Lst evV H g es ∧ Valid es ∧ es.length ≤ 400 ∧ (∀ e ∈ es, e.k < (m : Int)) ∧
  ∀ (H' : Hp) (D : Addr), Same H H' → H D = none → Outs H' D (outsM L es es.length) → Q (.ref D) H'
theorem ok_played (bt : Bt mg) {C : Addr} (a : At K mg "played" s_played ["layout", "record"]) (c_check_playable : Cl P w K mg base 8 "check_playable" spPlayable) (c_play : Cl P w K mg base 3 "play" (spPlay C)) : Cl P w K mg base 9 "played" spPlayed := by
  refine clG a sc_played (fun vs H Q E h => ?_) (fun f cdv A outer s H vs Q hg hr h => ?_)
  · obtain ⟨c, g, L, m, es, rfl, _⟩ := h
    rfl
  · obtain ⟨c, g, L, m, es, rfl, hL, hO, hG, hV, h4, hkm, q⟩ := h
    refine ⟨_, (pss_cons (ps_expr (pe_cl c_check_playable hg hr (by decide) (by rfl) (pa_cons (pv 0) (pa_cons (pv 1) pa_nil))))
      (pss_cons (ps_asg (pe_cl c_play hg hr (by decide) (by rfl) (pa_cons (pv 0) (pa_cons (pv 1) pa_nil))) (pg_tup rfl (pgs_cons (pg_name (i := 2) sc_played.nd rfl (Or.inl rfl)) (pgs_cons (pg_name (i := 3) sc_played.nd rfl (Or.inl rfl)) pgs_nil))))
      (pss_one (ps_ret (pe_lc (own := [("meaning", 4), ("sure", 5), ("output", 6)]) (g := (gTup K 3 (gCons (gName 4) (gCons (gName 5) (gCons (gName 6) gNil))))) (by rfl) sc_played.nd (pi_list (pv 3)) (blkOk_by (N := n_played) (sc := defScope s_played) (by decide +kernel)) (fun _ _ _ _ _ => (pg_tup rfl (pgs_cons (pg_name (i := 4) sc_played.nd rfl (Or.inl rfl)) (pgs_cons (pg_name (i := 5) sc_played.nd rfl (Or.inl rfl)) (pgs_cons (pg_name (i := 6) sc_played.nd rfl (Or.inl rfl)) pgs_nil))))) (fun _ _ _ _ _ => pts_nil) (fun _ _ _ _ _ => (pv 6))))))), ?_⟩
    refine ⟨_, rfl, _, rfl, c, g, L, m, es, rfl, hL, hO, hG, hV, h4, hkm, fun H1 s1 => ?_⟩
    refine ⟨_, rfl, _, rfl, c, g, L, m, es, rfl, hL.same s1, hO, hG.same s1, hV, h4, hkm, fun H2 T p l d e W s2 hT hP hW => ?_⟩
    obtain ⟨Ts, w1, w2, w3⟩ := hW
    have s12 := s1.trans s2
    refine ⟨T, _, rfl, SqT.of hT, rfl, _, _, rfl, _, _, rfl, rfl, ?_⟩
    refine ⟨_, rfl, W, rfl, ⟨_, SqL.of w1⟩, fun M nM => lc_it (walk_list (xs := Ts.map V.ref)) (fun j H' => Same H2 H' ∧ ∃ vs, H' M = some (.lst vs) ∧ OutsV H' vs (outsM L es j)) ⟨same_upd nM, [], upd_same, OutsV.nil⟩ (fun j H' _ p => SqL.of (p.1 _ _ w1)) (fun j x Hx Hy hj p y => ?_) (fun H3 p => ?_)⟩
    · obtain ⟨sx, vs, hM, hvs⟩ := p
      obtain ⟨rfl, hx⟩ := y
      have hj' : j < Ts.length := by rw [List.length_map] at hj; exact hj
      have hTj : Ts[j]? = some Ts[j] := List.getElem?_eq_getElem hj'
      have ex : V.ref Ts[j] = x := Option.some.inj ((get_map_ref hTj).symm.trans hx)
      subst ex
      obtain ⟨mv, sv, ov, f1, f2, f3⟩ := w3 j _ hTj
      have hvl := hvs.1
      rw [outsM_len] at hvl
      refine ⟨Ts[j], _, rfl, SqT.of (sx _ _ f1), rfl, _, _, rfl, _, _, rfl, _, _, rfl, rfl, ?_⟩
      refine ⟨rfl, ⟨_, rfl, vs, hM, small1000 (by omega), Same.off sx nM off_upd, vs ++ [ov], upd_same, ?_⟩⟩
      rw [outsM_succ]
      exact (hvs.snoc (f3.keep (Tk.of sx))).keep (tk_upd hM)
    · obtain ⟨sx, vs, hM, hvs⟩ := p
      have en : (Ts.map V.ref).length = es.length := by rw [List.length_map]; exact w2
      rw [en] at hvs
      exact q _ M (s12.trans sx) (none_back s12 nM) ⟨vs, hM, hvs⟩
def spAlone : Sp := fun vs H Q _ => ∃ (D : Addr) (os : List Outp), vs = [.ref D] ∧ Outs H D os ∧ (∀ o ∈ os, OutOk o) ∧ os.length ≤ 400 ∧
  ∀ (H' : Hp) (D' : Addr), Same H H' → H D' = none → Outs H' D' (os.filter isOut) → Q (.ref D') H'
theorem alone_step {H : Hp} {M : Addr} {us vs : List V} {os : List Outp} {j : Nat} (hvs : OutsV H vs os) (hj : j < os.length) : ∃ v, vs[j]? = some v ∧ OutV H os[j] v := by
  have hl := hvs.1
  exact ⟨vs[j], List.getElem?_eq_getElem (by omega), hvs.2 j _ _ (List.getElem?_eq_getElem (by omega)) (List.getElem?_eq_getElem hj)⟩
theorem filt_take {os : List Outp} {j : Nat} (hj : j < os.length) : (os.take (j + 1)).filter isOut = (os.take j).filter isOut ++ if isOut os[j] = true then [os[j]] else [] := by
  rw [List.take_add_one, List.getElem?_eq_getElem hj, List.filter_append]
  show _ ++ [os[j]].filter isOut = _
  split
  · rename_i h; rw [List.filter_cons_of_pos h]; rfl
  · rename_i h; rw [List.filter_cons_of_neg h]; rfl
theorem ok_outputs_alone (bt : Bt mg) (a : At K mg "outputs_alone" s_outputs_alone ["result"]) : Cl P w K mg base 1 "outputs_alone" spAlone := by
  refine clG a sc_outputs_alone (fun vs H Q E h => ?_) (fun f cdv A outer s H vs Q hg hr h => ?_)
  · obtain ⟨D, os, rfl, _⟩ := h
    rfl
  · obtain ⟨D, os, rfl, ⟨vs, hD, hvs⟩, hok, hl4, q⟩ := h
    refine ⟨_, (pss_one (ps_ret (pe_lc (own := [("output", 1)]) (g := (gName 1)) (by rfl) sc_outputs_alone.nd (pi_list (pv 0)) (blkOk_by (N := n_outputs_alone) (sc := defScope s_outputs_alone) (by decide +kernel)) (fun _ _ _ _ _ => (pg_name (i := 1) sc_outputs_alone.nd rfl (Or.inl rfl))) (fun _ _ _ _ _ => (pts_one (pt_cmpR (r := rNeD K) (op_neD hr.units) (pv 1) (pe_tup pa_nil) (nomark _)))) (fun _ _ _ _ _ => (pv 1))))), ?_⟩
    have hvl := hvs.1
    refine ⟨_, rfl, D, rfl, ⟨_, SqL.of hD⟩, fun M nM => lc_it (walk_list (xs := vs)) (fun j H' => Same H H' ∧ ∃ us, H' M = some (.lst us) ∧ OutsV H' us ((os.take j).filter isOut)) ⟨same_upd nM, [], upd_same, OutsV.nil⟩ (fun j H' _ p => SqL.of (p.1 _ _ hD)) (fun j x Hx Hy hj p y => ?_) (fun H3 p => ?_)⟩
    · obtain ⟨sx, us, hM, hus⟩ := p
      obtain ⟨rfl, hx⟩ := y
      have hj' : j < os.length := by omega
      obtain ⟨v, hv, hov⟩ := alone_step (M := M) (us := us) hvs hj'
      have ev : v = x := Option.some.inj (hv.symm.trans hx)
      subst ev
      have hov' := hov.keep (Tk.of sx)
      have okj := hok _ (List.getElem_mem hj')
      refine ⟨rfl, _, rfl, Nat.zero_le _, fun T nT => ?_⟩
      have kT := same_upd (o := .tup []) nT
      have hM2 := kT _ _ hM
      have sx2 := sx.trans kT
      have hus2 := hus.keep (Tk.of kT)
      have hul := hus.1
      have hul2 : ((os.take j).filter isOut).length ≤ 400 := Nat.le_trans (List.length_filter_le ..) (by rw [List.length_take]; omega)
      refine ⟨_, _, (hov'.keep (Tk.of kT)).dp, .tup (SqT.of upd_same) .nil, out_lay okj, by decide +kernel, isOut os[j], by rw [eqv_out, Bool.not_not], ?_⟩
      rw [filt_take hj']
      cases ho : isOut os[j] with
      | false =>
        refine iteF ⟨sx2, us, hM2, ?_⟩
        rw [if_neg (by decide), List.append_nil]
        exact hus2
      | true =>
        refine iteT ⟨_, rfl, us, hM2, small1000 (by omega), Same.off sx2 nM off_upd, us ++ [v], upd_same, ?_⟩
        rw [if_pos rfl]
        exact (hus2.snoc (hov'.keep (Tk.of kT))).keep (tk_upd hM2)
    · obtain ⟨sx, us, hM, hus⟩ := p
      rw [List.take_of_length_le (by omega)] at hus
      exact q _ M sx nM ⟨us, hM, hus⟩
def spFlat : Sp := fun vs H Q _ => ∃ (c g : Addr) (L : List (List Actn)) (m : Nat) (es : List Ev), vs = [.ref c, .ref g] ∧ Lay H c L ∧ LayOk L m ∧ Lst evV H g es ∧ Valid es ∧ es.length ≤ 400 ∧ (∀ e ∈ es, e.k < (m : Int)) ∧
  ∀ (H' : Hp) (D : Addr), Same H H' → H D = none → Outs H' D ((outsM L es es.length).filter isOut) → Q (.ref D) H'
theorem ok_flat (bt : Bt mg) (a : At K mg "flat" s_flat ["layout", "record"]) (c_played : Cl P w K mg base 9 "played" spPlayed) (c_outputs_alone : Cl P w K mg base 1 "outputs_alone" spAlone) : Cl P w K mg base 10 "flat" spFlat := by
  refine clG a sc_flat (fun vs H Q E h => ?_) (fun f cdv A outer s H vs Q hg hr h => ?_)
  · obtain ⟨c, g, L, m, es, rfl, _⟩ := h
    rfl
  · obtain ⟨c, g, L, m, es, rfl, hL, hO, hG, hV, h4, hkm, q⟩ := h
    refine ⟨_, (pss_one (ps_ret (pe_cl c_outputs_alone hg hr (by decide) (by rfl) (pa_cons (pe_cl c_played hg hr (by decide) (by rfl) (pa_cons (pv 0) (pa_cons (pv 1) pa_nil))) pa_nil)))), ?_⟩
    refine ⟨_, rfl, _, rfl, c, g, L, m, es, rfl, hL, hO, hG, hV, h4, hkm, fun H1 D1 s1 n1 h1 => ?_⟩
    exact ⟨D1, _, rfl, h1, outsM_ok hO hV hkm, by rw [outsM_len]; exact h4, fun H2 D2 s2 n2 h2 => q _ D2 (s1.trans s2) (none_back s1 n2) h2⟩
end
end K74

set_option Elab.async false
set_option linter.all false
set_option maxRecDepth 100000
set_option maxHeartbeats 8000000
namespace K74
open PySem PySem.Spec PyProof.Rows L2 Gd Rm La Cb Pl
/-- the tick at which the down of a dual is sure -/
def decD (L : List (List Actn)) (es : List Ev) (i : Nat) : Option Int :=
  if (evAt es i).d = true ∧ isDl (xAt L es i) = true then
    match sureM es i (xAt L es i) with
    | some n => some (evAt es n).t
    | none => some ((evAt es i).t + timeOf (xAt L es i))
  else none
def decL (L : List (List Actn)) (es : List Ev) (n : Nat) : List (Option Int) := (List.range n).map (decD L es)
def later (t : Int) : Option Int → Int
  | none => t
  | some d => if d > t then d else t
/-- the done ticks -/
def dnF (es : List Ev) (ds : List (Option Int)) : Nat → Int
  | 0 => later (evAt es 0).t (ds.getD 0 none)
  | i + 1 => if dnF es ds i > later (evAt es (i + 1)).t (ds.getD (i + 1) none) then dnF es ds i else later (evAt es (i + 1)).t (ds.getD (i + 1) none)
section
variable {P : Program} {w : World} {K : PySem.W.Frag} {mg : Str → Option Value} {base : Heap}
end
end K74

set_option Elab.async false
set_option linter.all false
set_option maxRecDepth 100000
set_option maxHeartbeats 8000000
namespace K74
open PySem PySem.Spec PyProof.Rows L2 Gd Rm La Cb Pl
/-- lists of values that stand for things -/
def AllV {α : Type} (R : Hp → α → V → Prop) (H : Hp) (vs : List V) (xs : List α) : Prop := vs.length = xs.length ∧ ∀ (i : Nat) (v : V) (x : α), vs[i]? = some v → xs[i]? = some x → R H x v
section
variable {α : Type} {R : Hp → α → V → Prop} {H H' : Hp} {vs : List V} {xs : List α} {D : Addr}
theorem AllV.nil : AllV R H [] [] := ⟨rfl, fun i v o h _ => by simp at h⟩
theorem AllV.keep (h : AllV R H vs xs) (k : ∀ x v, R H x v → R H' x v) : AllV R H' vs xs := ⟨h.1, fun i v x a b => k x v (h.2 i v x a b)⟩
theorem AllV.snoc {v : V} {x : α} (h : AllV R H vs xs) (hv : R H x v) : AllV R H (vs ++ [v]) (xs ++ [x]) := by
  refine ⟨by rw [List.length_append, List.length_append, h.1]; rfl, fun i u y a b => ?_⟩
  have hl := h.1
  rcases Nat.lt_or_ge i vs.length with q | q
  · rw [List.getElem?_append_left q] at a
    rw [List.getElem?_append_left (by omega)] at b
    exact h.2 i u y a b
  · have hi : i = vs.length := by
      have := (List.getElem?_eq_some_iff.mp a).1
      rw [List.length_append] at this
      simp at this
      omega
    subst hi
    rw [List.getElem?_append_right (Nat.le_refl _), Nat.sub_self] at a
    rw [List.getElem?_append_right (by omega), show vs.length - xs.length = 0 by omega] at b
    have e1 : v = u := Option.some.inj a
    have e2 : x = y := Option.some.inj b
    subst e1 e2
    exact hv
theorem AllV.dp {K : PySem.W.Frag} {d : α → PyData} (hd : ∀ x v, R H x v → Dp K H v (d x)) : ∀ {vs : List V} {xs : List α}, AllV R H vs xs → DpAll K H vs (xs.map d)
  | [], [], _ => .nil
  | [], _ :: _, h => by have := h.1; simp at this
  | _ :: _, [], h => by have := h.1; simp at this
  | v :: vs, x :: xs, h => .cons (hd _ _ (h.2 0 v x rfl rfl)) (AllV.dp hd ⟨by have := h.1; simpa using this, fun i u y a b => h.2 (i + 1) u y (by simpa using a) (by simpa using b)⟩)
end
/-! ### when events are done -/
theorem decL_at {L : List (List Actn)} {es : List Ev} {n i : Nat} (h : i < n) : (decL L es n).getD i none = decD L es i := by
  unfold decL
  rw [List.getD_eq_getElem?_getD, List.getElem?_map, List.getElem?_range h]
  rfl
/-- the done tick of an event -/
def dnT (L : List (List Actn)) (es : List Ev) (i : Nat) : Int := dnF es (decL L es es.length) i
theorem later_ge {t : Int} {d : Option Int} : t ≤ later t d ∧ (∀ z, d = some z → z ≤ later t d) ∧ (later t d = t ∨ d = some (later t d)) := by
  cases d with
  | none => exact ⟨Int.le_refl _, fun z h => (by cases h), .inl rfl⟩
  | some z =>
    show t ≤ (if z > t then z else t) ∧ (∀ y, some z = some y → y ≤ (if z > t then z else t)) ∧ ((if z > t then z else t) = t ∨ some z = some (if z > t then z else t))
    split
    · exact ⟨by omega, fun y h => (by cases h; exact Int.le_refl _), .inr rfl⟩
    · exact ⟨Int.le_refl _, fun y h => (by cases h; omega), .inl rfl⟩
theorem dnT_ge {L : List (List Actn)} {es : List Ev} {i : Nat} (hi : i < es.length) : (evAt es i).t ≤ dnT L es i ∧ (∀ z, decD L es i = some z → z ≤ dnT L es i) := by
  have hd := decL_at (L := L) (es := es) hi
  unfold dnT
  cases i with
  | zero =>
    obtain ⟨a, b, _⟩ := later_ge (t := (evAt es 0).t) (d := (decL L es es.length).getD 0 none)
    refine ⟨a, fun z hz => b z ?_⟩
    rw [hd]; exact hz
  | succ i =>
    obtain ⟨a, b, _⟩ := later_ge (t := (evAt es (i + 1)).t) (d := (decL L es es.length).getD (i + 1) none)
    have e : dnF es (decL L es es.length) (i + 1) = if dnF es (decL L es es.length) i > later (evAt es (i + 1)).t ((decL L es es.length).getD (i + 1) none) then dnF es (decL L es es.length) i else later (evAt es (i + 1)).t ((decL L es es.length).getD (i + 1) none) := rfl
    rw [e]
    refine ⟨by split <;> omega, fun z hz => ?_⟩
    have := b z (by rw [hd]; exact hz)
    split <;> omega
theorem dnT_succ {L : List (List Actn)} {es : List Ev} {i : Nat} : dnT L es i ≤ dnT L es (i + 1) := by
  have e : dnT L es (i + 1) = if dnF es (decL L es es.length) i > later (evAt es (i + 1)).t ((decL L es es.length).getD (i + 1) none) then dnF es (decL L es es.length) i else later (evAt es (i + 1)).t ((decL L es es.length).getD (i + 1) none) := rfl
  rw [e]
  unfold dnT
  split <;> omega
theorem dnT_mono {L : List (List Actn)} {es : List Ev} {i : Nat} : ∀ {j : Nat}, i ≤ j → dnT L es i ≤ dnT L es j
  | 0, h => by rw [show i = 0 by omega]; exact Int.le_refl _
  | j + 1, h => by
    rcases Nat.lt_or_ge i (j + 1) with q | q
    · have := dnT_mono (L := L) (es := es) (i := i) (j := j) (by omega)
      have := dnT_succ (L := L) (es := es) (i := j)
      omega
    · rw [show i = j + 1 by omega]; exact Int.le_refl _
theorem dnT_le {L : List (List Actn)} {es : List Ev} {i : Nat} {now : Int} (hi : i < es.length) (h1 : ∀ j, j < i → dnT L es j ≤ now) (h2 : (evAt es i).t ≤ now) (h3 : ∀ z, decD L es i = some z → z ≤ now) : dnT L es i ≤ now := by
  have hd := decL_at (L := L) (es := es) hi
  have lt : later (evAt es i).t ((decL L es es.length).getD i none) ≤ now := by
    obtain ⟨_, _, c⟩ := later_ge (t := (evAt es i).t) (d := (decL L es es.length).getD i none)
    rcases c with c | c
    · omega
    · rw [hd] at c; exact h3 _ (by rw [hd]; exact c)
  cases i with
  | zero => exact lt
  | succ i =>
    have e : dnT L es (i + 1) = if dnF es (decL L es es.length) i > later (evAt es (i + 1)).t ((decL L es es.length).getD (i + 1) none) then dnF es (decL L es es.length) i else later (evAt es (i + 1)).t ((decL L es es.length).getD (i + 1) none) := rfl
    rw [e]
    have := h1 i (Nat.lt_succ_self _)
    unfold dnT at this
    split <;> omega

/-! ### a beginning of the record, and the front -/
theorem decEv_take {own : Int} {r : Str} : ∀ {es : List Ev} {inner : List Int} {m : Nat}, decEv own r inner (es.take m) = (decEv own r inner es).bind fun n => if n < m then some n else none
  | [], inner, m => by rw [List.take_nil]; rfl
  | e :: es, inner, 0 => by
    rw [List.take_zero]
    show none = _
    cases decEv own r inner (e :: es) with
    | none => rfl
    | some n => rfl
  | e :: es, inner, m + 1 => by
    rw [List.take_succ_cons]
    have ih := fun l => decEv_take (own := own) (r := r) (es := es) (inner := l) (m := m)
    have go : ∀ l, (decEv own r l (es.take m)).map (· + 1) = ((decEv own r l es).map (· + 1)).bind fun n => if n < m + 1 then some n else none := fun l => by
      rw [ih l]
      cases decEv own r l es with
      | none => rfl
      | some n =>
        show Option.map (· + 1) (if n < m then some n else none) = if n + 1 < m + 1 then some (n + 1) else none
        by_cases z : n < m
        · rw [if_pos z, if_pos (by omega)]; rfl
        · rw [if_neg z, if_neg (by omega)]; rfl
    unfold decEv
    by_cases c1 : e.k = own ∨ r = ("other" : String) ∧ e.d = true
    · rw [if_pos c1, if_pos c1]; rfl
    · rw [if_neg c1, if_neg c1]
      by_cases c2 : e.d = true
      · rw [if_pos c2, if_pos c2]; exact go _
      · rw [if_neg c2, if_neg c2]
        by_cases c3 : r = ("within" : String) ∧ e.k ∈ inner
        · rw [if_pos c3, if_pos c3]; rfl
        · rw [if_neg c3, if_neg c3]; exact go _
/-- the events that have come, and are not done -/
def quE (es : List Ev) (f k : Nat) : List Ev := (es.take k).drop f
theorem quE_len {es : List Ev} {f k : Nat} (hk : k ≤ es.length) : (quE es f k).length = k - f := by unfold quE; rw [List.length_drop, List.length_take]; omega
theorem quE_at {es : List Ev} {f k i : Nat} (h : f + i < k) (hk : k ≤ es.length) : evAt (quE es f k) i = evAt es (f + i) := by
  unfold evAt quE
  rw [List.getD_eq_getElem?_getD, List.getD_eq_getElem?_getD, List.getElem?_drop, List.getElem?_take, if_pos h]
theorem dec_q {es : List Ev} {f k : Nat} {r : Str} (hf : f < k) (hk : k ≤ es.length) : decM (quE es f k) 0 r = (decM es f r).bind fun n => if n < k then some (n - f) else none := by
  have e0 := quE_at (i := 0) hf hk
  unfold evAt at e0
  unfold decM
  rw [e0, Nat.add_zero]
  have eq : (quE es f k).drop (0 + 1) = (es.drop (f + 1)).take (k - (f + 1)) := by
    unfold quE
    rw [List.drop_drop, List.drop_take]
  rw [eq, decEv_take]
  cases decEv (es.getD f ⟨0, 0, false⟩).k r [] (es.drop (f + 1)) with
  | none => rfl
  | some n =>
    show Option.map (· + (0 + 1)) (if n < k - (f + 1) then some n else none) = if n + (f + 1) < k then some (n + (f + 1) - f) else none
    by_cases z : n < k - (f + 1)
    · rw [if_pos z, if_pos (by omega)]
      exact congrArg some (by show n + (0 + 1) = n + (f + 1) - f; omega)
    · rw [if_neg z, if_neg (by omega)]; rfl
theorem sure_q {es : List Ev} {f k : Nat} {x : Actn} (hf : f < k) (hk : k ≤ es.length) : sureM (quE es f k) 0 x = (sureM es f x).bind fun n => if n < k then some (n - f) else none := by
  have e0 := quE_at (i := 0) hf hk
  rw [Nat.add_zero] at e0
  unfold sureM
  rw [dec_q hf hk]
  cases h : decM es f (ruleOf x) with
  | none => rfl
  | some n =>
    obtain ⟨h1, h2⟩ := decM_lt h
    show (match (if n < k then some (n - f) else none) with
      | none => none
      | some n => if (evAt (quE es f k) 0).t + timeOf x ≤ (evAt (quE es f k) n).t then none else some n) = _
    by_cases z : n < k
    · rw [if_pos z]
      have e1 := quE_at (es := es) (f := f) (k := k) (i := n - f) (by omega) hk
      rw [show f + (n - f) = n by omega] at e1
      show (if (evAt (quE es f k) 0).t + timeOf x ≤ (evAt (quE es f k) (n - f)).t then none else some (n - f)) = _
      rw [e0, e1]
      show _ = Option.bind (if (evAt es f).t + timeOf x ≤ (evAt es n).t then none else some n) _
      by_cases y : (evAt es f).t + timeOf x ≤ (evAt es n).t
      · rw [if_pos y, if_pos y]; rfl
      · rw [if_neg y, if_neg y]
        show _ = if n < k then some (n - f) else none
        rw [if_pos z]
    · rw [if_neg z]
      show none = Option.bind (if (evAt es f).t + timeOf x ≤ (evAt es n).t then none else some n) _
      by_cases y : (evAt es f).t + timeOf x ≤ (evAt es n).t
      · rw [if_pos y]; rfl
      · rw [if_neg y]
        show _ = if n < k then some (n - f) else none
        rw [if_neg z]
theorem sure_in {es : List Ev} {f n : Nat} {x : Actn} (h : sureM es f x = some n) : (evAt es n).t < (evAt es f).t + timeOf x := by
  unfold sureM at h
  cases e : decM es f (ruleOf x) with
  | none => rw [e] at h; cases h
  | some m =>
    rw [e] at h
    dsimp only at h
    split at h
    · cases h
    · rename_i z
      cases h
      omega
/-- the front waits: nothing that has come decides it -/
def Waits (L : List (List Actn)) (es : List Ev) (f k : Nat) (now : Int) : Prop := isDl (xAt L es f) = true ∧ (∀ n, sureM es f (xAt L es f) = some n → k ≤ n) ∧ now < (evAt es f).t + timeOf (xAt L es f)
/-- all is done, or the front waits -/
def Still (L : List (List Actn)) (es : List Ev) (f k : Nat) (now : Int) : Prop := f = k ∨ (f < k ∧ (evAt es f).d = true ∧ Waits L es f k now)
theorem dec_none {L : List (List Actn)} {es : List Ev} {f : Nat} (h : (evAt es f).d = false ∨ isDl (xAt L es f) = false) : decD L es f = none := by
  unfold decD
  rw [if_neg (fun z => by rcases h with h | h <;> rw [h] at z; cases z.1; cases z.2)]
theorem dec_some {L : List (List Actn)} {es : List Ev} {f : Nat} (h1 : (evAt es f).d = true) (h2 : isDl (xAt L es f) = true) : decD L es f = match sureM es f (xAt L es f) with
    | some n => some (evAt es n).t
    | none => some ((evAt es f).t + timeOf (xAt L es f)) := by
  unfold decD
  exact (if_pos ⟨h1, h2⟩).trans (by cases sureM es f (xAt L es f) <;> rfl)
/-- what waits at a tick is done later -/
theorem Still.late {L : List (List Actn)} {es : List Ev} {f k : Nat} {now : Int} (h : Still L es f k now) (hk : k ≤ es.length) (h2 : ∀ i, k ≤ i → i < es.length → now < (evAt es i).t) (i : Nat) (h1 : f ≤ i) (h3 : i < k) : now < dnT L es i := by
  rcases h with h | ⟨hf, hd, hl, hw, ht⟩
  · omega
  have m := dnT_mono (L := L) (es := es) h1
  have g := (dnT_ge (L := L) (es := es) (i := f) (by omega)).2
  rw [dec_some hd hl] at g
  cases e : sureM es f (xAt L es f) with
  | none =>
    rw [e] at g
    have := g _ rfl
    omega
  | some n =>
    rw [e] at g
    have := g _ rfl
    have a := hw n e
    have b := (sureM_lt e).2
    have := h2 n a b
    omega
/-- the outputs of some events, with their ticks -/
def outsT (L : List (List Actn)) (es : List Ev) (f g : Nat) : List (Int × Outp) := ((List.range' f (g - f)).filter fun i => isOut (outM L es i)).map fun i => (dnT L es i, outM L es i)
theorem outsT_nil {L : List (List Actn)} {es : List Ev} {f : Nat} : outsT L es f f = [] := by unfold outsT; rw [Nat.sub_self]; rfl
theorem outsT_succ {L : List (List Actn)} {es : List Ev} {f g : Nat} (h : f ≤ g) : outsT L es f (g + 1) = outsT L es f g ++ if isOut (outM L es g) = true then [(dnT L es g, outM L es g)] else [] := by
  unfold outsT
  rw [show g + 1 - f = (g - f) + 1 by omega, List.range'_concat, List.filter_append, List.map_append]
  rw [show f + 1 * (g - f) = g by omega]
  by_cases z : isOut (outM L es g) = true
  · rw [if_pos z, List.filter_cons_of_pos (p := fun i => isOut (outM L es i)) z]; rfl
  · rw [if_neg z, List.filter_cons_of_neg (p := fun i => isOut (outM L es i)) z]; rfl
theorem outsT_app {L : List (List Actn)} {es : List Ev} {f g h : Nat} (h1 : f ≤ g) (h2 : g ≤ h) : outsT L es f g ++ outsT L es g h = outsT L es f h := by
  unfold outsT
  rw [← List.map_append, ← List.filter_append]
  congr 2
  rw [show h - f = (g - f) + (h - g) by omega, ← List.range'_append, show f + 1 * (g - f) = g by omega]
theorem outsT_len {L : List (List Actn)} {es : List Ev} {f g : Nat} : (outsT L es f g).length ≤ g - f := by
  unfold outsT
  rw [List.length_map]
  refine Nat.le_trans (List.length_filter_le ..) ?_
  rw [List.length_range']
  exact Nat.le_refl _
def TripV (H : Hp) (x : Int × Outp) (v : V) : Prop := ∃ T, v = .ref T ∧ H T = some (.tup (.int x.1 :: outL x.2))
theorem TripV.keep {H H' : Hp} {x : Int × Outp} {v : V} (h : TripV H x v) (k : Tk H H') : TripV H' x v := by
  obtain ⟨T, e, h1⟩ := h
  exact ⟨T, e, k _ _ h1⟩
def Trips (H : Hp) (O : Addr) (xs : List (Int × Outp)) : Prop := ∃ vs, H O = some (.lst vs) ∧ AllV TripV H vs xs
theorem Trips.go {H H' : Hp} {O : Addr} {xs : List (Int × Outp)} (h : Trips H O xs) (k : Tk H H') (e : ∀ vs, H O = some (.lst vs) → H' O = some (.lst vs)) : Trips H' O xs := by
  obtain ⟨vs, a, b⟩ := h
  exact ⟨vs, e _ a, b.keep fun x v z => z.keep k⟩
theorem Trips.same {H H' : Hp} {O : Addr} {xs : List (Int × Outp)} (h : Trips H O xs) (s : Same H H') : Trips H' O xs := h.go (Tk.of s) fun _ z => s _ _ z
end K74

set_option Elab.async false
set_option linter.all false
set_option maxRecDepth 100000
set_option maxHeartbeats 8000000
namespace K74
open PySem PySem.Spec PyProof.Rows L2 Gd Rm La Cb Pl
/-- what the law's machine knows of a waiting dual -/
def surM (own : Int) (r : Str) (e : Int) : List Int → List Ev → Option Bool
  | _, [] => none
  | ds, v :: rest =>
    if v.t < e ∧ v.k = own then some true
    else if v.t < e ∧ ((r = ("other" : String) ∧ v.d = true) ∨ (r = ("within" : String) ∧ v.d = false ∧ v.k ∈ ds)) then some false
    else surM own r e (ds ++ if v.d = true then [v.k] else []) rest
theorem sur_late {own : Int} {r : Str} {e : Int} : ∀ {es : List Ev} {ds : List Int}, (∀ v ∈ es, e ≤ v.t) → surM own r e ds es = none
  | [], _, _ => rfl
  | v :: rest, ds, h => by
    have h1 := h v (List.mem_cons_self ..)
    unfold surM
    rw [if_neg (fun z => by have := z.1; omega), if_neg (fun z => by have := z.1; omega)]
    exact sur_late fun b hb => h b (List.mem_cons_of_mem _ hb)
theorem sur_of {own : Int} {r : Str} {e : Int} : ∀ {es' : List Ev} {ds : List Int}, (∀ (i j : Nat) (a b : Ev), i < j → es'[i]? = some a → es'[j]? = some b → a.t ≤ b.t) →
    surM own r e ds es' = match decEv own r ds es' with
      | none => none
      | some n => if e ≤ (es'.getD n ⟨0, 0, false⟩).t then none else some (decide ((es'.getD n ⟨0, 0, false⟩).k = own))
  | [], ds, _ => rfl
  | v :: rest, ds, h => by
    have hr : ∀ (i j : Nat) (a b : Ev), i < j → rest[i]? = some a → rest[j]? = some b → a.t ≤ b.t := fun i j a b hij ha hb => h (i + 1) (j + 1) a b (by omega) (by simpa using ha) (by simpa using hb)
    by_cases he : e ≤ v.t
    · have all : ∀ b ∈ v :: rest, e ≤ b.t := fun b hb => by
        rcases List.mem_cons.mp hb with rfl | hb
        · exact he
        · obtain ⟨j, hj⟩ := List.getElem?_of_mem hb
          have := h 0 (j + 1) v b (by omega) rfl (by simpa using hj)
          omega
      rw [sur_late all]
      cases q : decEv own r ds (v :: rest) with
      | none => rfl
      | some n =>
        have hn := decEv_lt q
        have hm : (v :: rest).getD n ⟨0, 0, false⟩ ∈ v :: rest := by
          rw [List.getD_eq_getElem?_getD, List.getElem?_eq_getElem hn]
          exact List.getElem_mem hn
        have := all _ hm
        show none = if e ≤ ((v :: rest).getD n ⟨0, 0, false⟩).t then none else _
        rw [if_pos this]
    · have lt : v.t < e := by omega
      unfold surM decEv
      have go : ∀ l : List Int, surM own r e l rest = (match (decEv own r l rest).map (· + 1) with
        | none => none
        | some n => if e ≤ ((v :: rest).getD n ⟨0, 0, false⟩).t then none else some (decide (((v :: rest).getD n ⟨0, 0, false⟩).k = own))) := fun l => by
        rw [sur_of hr]
        cases decEv own r l rest with
        | none => rfl
        | some n => rfl
      have hit : (match some 0 with
        | none => (none : Option Bool)
        | some n => if e ≤ ((v :: rest).getD n ⟨0, 0, false⟩).t then none else some (decide (((v :: rest).getD n ⟨0, 0, false⟩).k = own))) = some (decide (v.k = own)) := by
        show (if e ≤ v.t then _ else _) = _
        rw [if_neg he]
        rfl
      by_cases hk : v.k = own
      · rw [if_pos ⟨lt, hk⟩, if_pos (.inl hk)]
        refine Eq.trans ?_ hit.symm
        rw [decide_eq_true hk]
      · rw [if_neg (fun z => hk z.2)]
        by_cases ho : r = ("other" : String) ∧ v.d = true
        · rw [if_pos ⟨lt, .inl ho⟩, if_pos (.inr ho)]
          refine Eq.trans ?_ hit.symm
          rw [decide_eq_false hk]
        · have n1 : ¬ (v.k = own ∨ r = ("other" : String) ∧ v.d = true) := fun z => z.elim hk ho
          rw [if_neg n1]
          by_cases hd : v.d = true
          · have n2 : ¬ (v.t < e ∧ ((r = ("other" : String) ∧ v.d = true) ∨ (r = ("within" : String) ∧ v.d = false ∧ v.k ∈ ds))) := fun z => z.2.elim ho (fun y => by rw [hd] at y; cases y.2.1)
            rw [if_neg n2, if_pos hd, if_pos hd]
            exact go _
          · have hd' : v.d = false := by cases q : v.d with | false => rfl | true => exact absurd q hd
            by_cases hw : r = ("within" : String) ∧ v.k ∈ ds
            · rw [if_pos ⟨lt, .inr ⟨hw.1, hd', hw.2⟩⟩, if_neg hd, if_pos hw]
              refine Eq.trans ?_ hit.symm
              rw [decide_eq_false hk]
            · have n2 : ¬ (v.t < e ∧ ((r = ("other" : String) ∧ v.d = true) ∨ (r = ("within" : String) ∧ v.d = false ∧ v.k ∈ ds))) := fun z => z.2.elim ho (fun y => hw ⟨y.1, y.2.2⟩)
              rw [if_neg n2, if_neg hd, if_neg hd, if_neg hw, List.append_nil]
              exact go _
def Asc (q : List Ev) : Prop := ∀ (i j : Nat) (a b : Ev), i < j → q[i]? = some a → q[j]? = some b → a.t ≤ b.t
/-- the same, by the model's sure event -/
theorem sur_sure {q : List Ev} {x : Actn} (h : Asc q) : surM (evAt q 0).k (ruleOf x) ((evAt q 0).t + timeOf x) [] (q.drop 1) = (sureM q 0 x).map fun n => decide ((evAt q n).k = (evAt q 0).k) := by
  rw [sur_of (fun i j a b hij ha hb => by
    rw [List.getElem?_drop] at ha hb
    exact h _ _ a b (by omega) ha hb)]
  unfold sureM decM
  rw [show (q.getD 0 ⟨0, 0, false⟩).k = (evAt q 0).k from rfl]
  cases e : decEv (evAt q 0).k (ruleOf x) [] (q.drop (0 + 1)) with
  | none => rfl
  | some n =>
    have e1 : (q.drop 1).getD n ⟨0, 0, false⟩ = evAt q (n + 1) := by
      unfold evAt
      rw [List.getD_eq_getElem?_getD, List.getElem?_drop, List.getD_eq_getElem?_getD, Nat.add_comm]
    show (if (evAt q 0).t + timeOf x ≤ ((q.drop 1).getD n ⟨0, 0, false⟩).t then none else some (decide (((q.drop 1).getD n ⟨0, 0, false⟩).k = (evAt q 0).k))) = Option.map _ (if (evAt q 0).t + timeOf x ≤ (evAt q (n + 1)).t then (none : Option Nat) else some (n + 1))
    rw [e1]
    by_cases z : (evAt q 0).t + timeOf x ≤ (evAt q (n + 1)).t
    · rw [if_pos z, if_pos z]; rfl
    · rw [if_neg z, if_neg z]; rfl
def sureV : Option Bool → Bool → V
  | some true, _ => .str "tap"
  | some false, _ => .str "hold"
  | none, true => .str "hold"
  | none, false => .non
theorem two_p {T G : Prop} (p : Prop) (f : (p → G) → T) (g : p → G) : T := f g
theorem two_b {T : Prop} {C : V → Prop} (p : Prop) (f : (∀ o : Bool, (o = true ↔ p) → C (V.bl o)) → T) (g : ∀ o : Bool, (o = true ↔ p) → C (V.bl o)) : T := f g
section
variable {P : Program} {w : World} {K : PySem.W.Frag} {mg : Str → Option Value} {base : Heap}
end
end K74

set_option Elab.async false
set_option linter.all false
set_option maxRecDepth 100000
set_option maxHeartbeats 8000000
namespace K74
open PySem PySem.Spec PyProof.Rows L2 Gd Rm La Cb Pl
def fateW (b : Bool) : Str := if b then "tap" else "hold"
theorem val_asc {es : List Ev} (hV : Valid es) (f k : Nat) : Asc (quE es f k) := fun i j a b hij ha hb => by
  unfold quE at ha hb
  rw [List.getElem?_drop, List.getElem?_take] at ha hb
  split at ha
  · split at hb
    · exact (hV _ b hb).2.2 _ a (by omega) ha
    · cases hb
  · cases ha
theorem law_dec {L : List (List Actn)} {es : List Ev} {f k : Nat} {T : Int} (hV : Valid es) (hf : f < k) (hk : k ≤ es.length) (hd : (evAt es f).d = true) (hdl : isDl (xAt L es f) = true) (hlate : ∀ i, k ≤ i → i < es.length → T ≤ (evAt es i).t) :
    (sureV (surM (evAt (quE es f k) 0).k (ruleOf (xAt L es f)) ((evAt (quE es f k) 0).t + timeOf (xAt L es f)) [] ((quE es f k).drop 1)) (decide ((evAt (quE es f k) 0).t + timeOf (xAt L es f) ≤ T)) = .non ∧ Waits L es f k T) ∨
    ∃ b : Bool, sureV (surM (evAt (quE es f k) 0).k (ruleOf (xAt L es f)) ((evAt (quE es f k) 0).t + timeOf (xAt L es f)) [] ((quE es f k).drop 1)) (decide ((evAt (quE es f k) 0).t + timeOf (xAt L es f) ≤ T)) = .str (fateW b) ∧ kindM es f (xAt L es f) = fateW b ∧ ∀ z, decD L es f = some z → (∀ i, i < k → (evAt es i).t ≤ T) → z ≤ T := by
  rw [sur_sure (val_asc hV f k)]
  have e0 := quE_at (es := es) (f := f) (k := k) (i := 0) hf hk
  rw [Nat.add_zero] at e0
  rw [e0]
  have eS := sure_q (es := es) (x := xAt L es f) hf hk
  have ek0 : kindM es f (xAt L es f) = fateW (tapM es f (sureM es f (xAt L es f))) := by unfold kindM; rw [if_pos hdl]; rfl
  cases hq : sureM (quE es f k) 0 (xAt L es f) with
  | none =>
    have hno : ∀ n, sureM es f (xAt L es f) = some n → k ≤ n := fun n hn => by
      rw [hn, hq] at eS
      rcases Nat.lt_or_ge n k with z | z
      · have eS : none = (if n < k then some (n - f) else none) := eS
        rw [if_pos z] at eS; cases eS
      · exact z
    by_cases z : (evAt es f).t + timeOf (xAt L es f) ≤ T
    · right
      have hnone : sureM es f (xAt L es f) = none := by
        cases hs : sureM es f (xAt L es f) with
        | none => rfl
        | some n =>
          have h1 := hno n hs
          have h2 := (sureM_lt hs).2
          have h3 := hlate n h1 h2
          have h5 := sure_in hs
          omega
      refine ⟨false, by rw [decide_eq_true z]; rfl, by rw [ek0, hnone]; rfl, fun y hy hcome => ?_⟩
      rw [dec_some hd hdl, hnone] at hy
      rw [← Option.some.inj hy]
      exact z
    · left
      exact ⟨by rw [decide_eq_false z]; rfl, hdl, hno, by omega⟩
  | some n' =>
    right
    have hs : ∃ n, sureM es f (xAt L es f) = some n ∧ n < k ∧ n' = n - f := by
      rw [hq] at eS
      cases hs : sureM es f (xAt L es f) with
      | none => rw [hs] at eS; cases eS
      | some n =>
        rw [hs] at eS
        have eS : some n' = (if n < k then some (n - f) else none) := eS
        by_cases z : n < k
        · rw [if_pos z] at eS; exact ⟨n, rfl, z, Option.some.inj eS⟩
        · rw [if_neg z] at eS; cases eS
    obtain ⟨n, hs, hnk, rfl⟩ := hs
    obtain ⟨n1, n2⟩ := sureM_lt hs
    have e1 := quE_at (es := es) (f := f) (k := k) (i := n - f) (by omega) hk
    rw [show f + (n - f) = n by omega] at e1
    refine ⟨tapM es f (some n), ?_, by rw [ek0, hs], fun y hy hcome => ?_⟩
    · show sureV (some (decide ((evAt (quE es f k) (n - f)).k = (evAt es f).k))) _ = V.str (fateW (decide ((evAt es n).k = (evAt es f).k)))
      rw [e1]
      cases decide ((evAt es n).k = (evAt es f).k) <;> rfl
    · rw [dec_some hd hdl, hs] at hy
      rw [← Option.some.inj hy]
      exact hcome n hnk
/-- what the law's machine knows: the first event that decides ends the search -/
def knM (own : Int) (r : Str) (e T : Int) : List Int → List Ev → Option Bool
  | _, [] => if e ≤ T then some false else none
  | ds, v :: rest =>
    if v.k = own then some (decide (v.t < e))
    else if (r = ("other" : String) ∧ v.d = true) ∨ (r = ("within" : String) ∧ v.d = false ∧ v.k ∈ ds) then some false
    else knM own r e T (ds ++ if v.d = true then [v.k] else []) rest
theorem kn_of {own : Int} {r : Str} {e T : Int} : ∀ {es' : List Ev} {ds : List Int}, knM own r e T ds es' = match decEv own r ds es' with
      | none => if e ≤ T then some false else none
      | some n => some (decide ((es'.getD n ⟨0, 0, false⟩).t < e) && decide ((es'.getD n ⟨0, 0, false⟩).k = own))
  | [], ds => rfl
  | v :: rest, ds => by
    unfold knM decEv
    have go : ∀ l : List Int, knM own r e T l rest = (match (decEv own r l rest).map (· + 1) with
      | none => if e ≤ T then some false else none
      | some n => some (decide (((v :: rest).getD n ⟨0, 0, false⟩).t < e) && decide (((v :: rest).getD n ⟨0, 0, false⟩).k = own))) := fun l => by
      rw [kn_of]
      cases decEv own r l rest with
      | none => rfl
      | some n => rfl
    by_cases hk : v.k = own
    · rw [if_pos hk, if_pos (.inl hk)]
      show some (decide (v.t < e)) = some (decide (v.t < e) && decide (v.k = own))
      rw [decide_eq_true hk, Bool.and_true]
    · rw [if_neg hk]
      by_cases ho : r = ("other" : String) ∧ v.d = true
      · rw [if_pos (.inl ho), if_pos (.inr ho)]
        show some false = some (decide (v.t < e) && decide (v.k = own))
        rw [decide_eq_false hk, Bool.and_false]
      · have n1 : ¬ (v.k = own ∨ r = ("other" : String) ∧ v.d = true) := fun z => z.elim hk ho
        rw [if_neg n1]
        by_cases hd : v.d = true
        · have n2 : ¬ ((r = ("other" : String) ∧ v.d = true) ∨ (r = ("within" : String) ∧ v.d = false ∧ v.k ∈ ds)) := fun z => z.elim ho (fun y => by rw [hd] at y; cases y.2.1)
          rw [if_neg n2, if_pos hd, if_pos hd]
          exact go _
        · have hd' : v.d = false := by cases q : v.d with | false => rfl | true => exact absurd q hd
          by_cases hw : r = ("within" : String) ∧ v.k ∈ ds
          · rw [if_pos (.inr ⟨hw.1, hd', hw.2⟩), if_neg hd, if_pos hw]
            show some false = some (decide (v.t < e) && decide (v.k = own))
            rw [decide_eq_false hk, Bool.and_false]
          · have n2 : ¬ ((r = ("other" : String) ∧ v.d = true) ∨ (r = ("within" : String) ∧ v.d = false ∧ v.k ∈ ds)) := fun z => z.elim ho (fun y => hw ⟨y.1, y.2.2⟩)
            rw [if_neg n2, if_neg hd, if_neg hd, if_neg hw, List.append_nil]
            exact go _
def knV : Option Bool → V
  | some true => .str "tap"
  | some false => .str "hold"
  | none => .non
theorem kn_sur {own : Int} {r : Str} {e T : Int} {es' : List Ev} {ds : List Int} (h : Asc es') (hT : ∀ v ∈ es', v.t ≤ T) : knV (knM own r e T ds es') = sureV (surM own r e ds es') (decide (e ≤ T)) := by
  rw [kn_of, sur_of h]
  cases q : decEv own r ds es' with
  | none =>
    by_cases z : e ≤ T
    · rw [decide_eq_true z]; show knV (if e ≤ T then some false else none) = _; rw [if_pos z]; rfl
    · rw [decide_eq_false z]; show knV (if e ≤ T then some false else none) = _; rw [if_neg z]; rfl
  | some n =>
    have hn := decEv_lt q
    have hm : es'.getD n ⟨0, 0, false⟩ ∈ es' := by
      rw [List.getD_eq_getElem?_getD, List.getElem?_eq_getElem hn]
      exact List.getElem_mem hn
    have ht := hT _ hm
    show knV (some (decide ((es'.getD n ⟨0, 0, false⟩).t < e) && decide ((es'.getD n ⟨0, 0, false⟩).k = own))) = sureV (if e ≤ (es'.getD n ⟨0, 0, false⟩).t then none else some (decide ((es'.getD n ⟨0, 0, false⟩).k = own))) _
    by_cases z : e ≤ (es'.getD n ⟨0, 0, false⟩).t
    · rw [if_pos z, decide_eq_false (by omega), decide_eq_true (show e ≤ T by omega)]
      rfl
    · rw [if_neg z, decide_eq_true (by omega)]
      cases decide ((es'.getD n ⟨0, 0, false⟩).k = own) <;> rfl
section
variable {P : Program} {w : World} {K : PySem.W.Frag} {mg : Str → Option Value} {base : Heap}
def spKnown : Sp := fun vs H Q _ => ∃ (g R : Addr) (es : List Ev) (f k : Nat) (v : V) (x : Actn) (T : Int), vs = [.ref g, .ref R, .int T, v] ∧ Lst evV H g es ∧ H R = some (.lst ((seg f k).map V.int)) ∧ f < k ∧ k ≤ es.length ∧ es.length ≤ 400 ∧ ActV H x v ∧ isDl x = true ∧
  ∀ H', Same H H' → Q (knV (knM (evAt es f).k (ruleOf x) ((evAt es f).t + timeOf x) T [] ((quE es f k).drop 1))) H'
theorem ok__law_first_known (bt : Bt mg) (a : At K mg "_law_first_known" s__law_first_known ["_law_record", "_law_row", "_law_tick", "_law_action_here"]) : Cl P w K mg base 1 "_law_first_known" spKnown := by
  refine clG a sc__law_first_known (fun vs H Q E h => ?_) (fun f0 cdv A outer s H vs Q hg hr h => ?_)
  · obtain ⟨g, R, es, f, k, v, x, T, rfl, _⟩ := h
    rfl
  · obtain ⟨g, R, es, f, k, v, x, T, rfl, hG, hR, hfk, hk, h4, hv, hd, q⟩ := h
    refine ⟨_, (pss_cons (ps_par3 (i := 4) (j := 5) (l := 6) rfl sc__law_first_known.nd rfl rfl rfl (by decide) (by decide) (by decide) rfl rfl rfl (pa_cons (pe_ix ix_tup (pe_ix ix_list (pv 0) (pe_ix ix_list (pv 1) pe_int (fun _ _ => rfl)) (fun _ _ => rfl)) pe_int (fun _ _ => rfl)) (pa_cons (pe_ix ix_tup (pe_ix ix_list (pv 0) (pe_ix ix_list (pv 1) pe_int (fun _ _ => rfl)) (fun _ _ => rfl)) pe_int (fun _ _ => rfl)) (pa_cons (pe_ix ix_tup (pv 3) pe_int (fun _ _ => rfl)) pa_nil))) (by rfl))
      (pss_cons (ps_set (i := 7) sc__law_first_known.nd rfl (Or.inl rfl) (pe_lst pa_nil))
      (pss_cons (ps_for PassesOwn.never rfl (pi_list (pe_slice sl_list (pv 1) (po_some pe_int) po_none)) (pg_name (i := 8) sc__law_first_known.nd rfl (Or.inl rfl)) (pss_cons (ps_asg (pe_ix ix_list (pv 0) (pv 8) (fun _ _ => rfl)) (pg_tup rfl (pgs_cons (pg_name (i := 9) sc__law_first_known.nd rfl (Or.inl rfl)) (pgs_cons (pg_name (i := 10) sc__law_first_known.nd rfl (Or.inl rfl)) (pgs_cons (pg_name (i := 11) sc__law_first_known.nd rfl (Or.inl rfl)) pgs_nil)))))
      (C8.pss_cut (ps_if (pt_cmpR op_eq (pv 10) (pv 5) (nomark _)) (pss_one (ps_set (i := 12) sc__law_first_known.nd rfl (Or.inl rfl) pe_str)) (pss_cons (ps_set (i := 13) sc__law_first_known.nd rfl (Or.inl rfl) (pe_cmpR op_eq (pv 11) pe_str (nomark _)))
      (pss_cons (ps_set (i := 14) sc__law_first_known.nd rfl (Or.inl rfl) (pe_ifExp (pt_cmpR op_eq (pv 6) pe_str (nomark _)) (pv 13) (pe_and (pe_cmpR op_eq (pv 6) pe_str (nomark _)) (pe_and (pe_not (pv 13)) (pe_one (pe_cmpR op_in_seq (pv 10) (pv 7) (by rfl)))))))
      (pss_cons (ps_set (i := 12) sc__law_first_known.nd rfl (Or.inl rfl) (pe_ifExp (pt_truth (pv 14) (by intro _; rfl)) pe_str pe_non))
      (pss_one (ps_set (i := 7) sc__law_first_known.nd rfl (Or.inl rfl) (pe_op op_cat (pv 7) (pe_op op_rep (pe_lst (pa_cons (pv 10) pa_nil)) (pe_callTy call_int1 (by rfl) bt.m_int (by decide +kernel) (pa_cons (pv 13) pa_nil))))))))))
      (pss_one (ps_if (pt_cmpR op_notN (pv 12) pe_non (nomark _)) (pss_one (ps_ret (pe_ifExp (pt_cmpR op_lt (pv 9) (pe_op op_add (pv 4) (pe_ix ix_tup (pv 3) pe_int (fun _ _ => rfl))) (nomark _)) (pv 12) pe_str))) pss_nil)))))
      (pss_one (ps_ret (pe_ifExp (pt_cmpR op_ge (pv 2) (pe_op op_add (pv 4) (pe_ix ix_tup (pv 3) pe_int (fun _ _ => rfl))) (nomark _)) pe_str pe_non)))))), ?_⟩
    obtain ⟨a, b, cc, rfl, ha⟩ := dl_at hv hd
    obtain ⟨as, hc, hT⟩ := id hG
    have hal : as.length = es.length := hT.1
    have hf : f < es.length := by omega
    obtain ⟨bi, hbi, hbt⟩ := hT.at_ hf
    have hev := evAt_eq hf
    have sg : ∀ j, f + j < k → ((seg f k).map V.int)[j]? = some (.int ((f + j : Nat) : Int)) := fun j hj => by
      unfold seg
      rw [List.getElem?_map, List.getElem?_map, List.getElem?_range' (by omega)]
      simp
    have sgl : ((seg f k).map V.int).length = k - f := by unfold seg; rw [List.length_map, List.length_map, List.length_range']
    have sg0 := sg 0 (by omega)
    rw [Nat.add_zero] at sg0
    refine ⟨_, rfl, _, rfl, R, _, 0, .int (f : Nat), rfl, rfl, SqL.of hR, atI_nat (j := 0) sg0, g, _, _, .ref bi, rfl, rfl, SqL.of hc, atI_nat (get_map_ref hbi), bi, _, 0, _, rfl, rfl, SqT.of hbt, atI_nat (j := 0) rfl, _, rfl, _, rfl, R, _, 0, .int (f : Nat), rfl, rfl, SqL.of hR, atI_nat (j := 0) sg0, g, _, _, .ref bi, rfl, rfl, SqL.of hc, atI_nat (get_map_ref hbi), bi, _, 1, _, rfl, rfl, SqT.of hbt, atI_nat (j := 1) rfl, _, rfl, a, _, 4, _, rfl, rfl, SqT.of ha, atI_nat (j := 4) rfl, _, _, _, rfl, ?_⟩
    refine ⟨Nat.zero_le _, fun Dl nD => ?_⟩
    have kD := same_upd (o := .lst []) nD
    refine ⟨_, rfl, ⟨1, rfl, R, _, rfl, SqL.of (kD _ _ hR), fun Sl nS => ?_⟩⟩
    have ec : cutV ((seg f k).map V.int) (some 1) none = ((seg f k).map V.int).drop 1 := by
      rw [show (1 : Int) = ((1 : Nat) : Int) from rfl, cutDrop (by rw [sgl]; omega)]
    rw [ec]
    have kS := same_upd (o := .lst (((seg f k).map V.int).drop 1)) nS
    have s2 := kD.trans kS
    have hS2 := upd_same (H := upd H Dl (.lst [])) (a := Sl) (o := .lst (((seg f k).map V.int).drop 1))
    have hD2 := kS _ _ (upd_same (H := H) (a := Dl) (o := .lst []))
    generalize upd (upd H Dl (.lst [])) Sl (.lst (((seg f k).map V.int).drop 1)) = H2 at s2 hS2 hD2 ⊢
    clear kD kS nS
    rw [hev] at q
    obtain ⟨Rv, hRv⟩ : ∃ Rv, Rv = knM es[f].k (ruleOf x) (es[f].t + timeOf x) T [] ((quE es f k).drop 1) := ⟨_, rfl⟩
    rw [← hRv] at q
    have hql := quE_len (es := es) (f := f) hk
    have dl : (((seg f k).map V.int).drop 1).length = k - f - 1 := by rw [List.length_drop, sgl]
    refine ⟨Sl, rfl, ⟨_, SqL.of hS2⟩, for_it (walk_list (xs := ((seg f k).map V.int).drop 1)) (fun j σ H' => Same H2 H' ∧ ∃ (ds : List Int) (Dl : Addr) (y8 y9 y10 y11 y12 y13 y14 : Option V), σ = [some (.ref g), some (.ref R), some (.int T), some (.ref a), some (.int es[f].t), some (.int es[f].k), some (.str (ruleOf x)), some (.ref Dl), y8, y9, y10, y11, y12, y13, y14] ∧ H' Dl = some (.lst (ds.map V.int)) ∧ ds.length ≤ j ∧ Rv = knM es[f].k (ruleOf x) (es[f].t + timeOf x) T ds (((quE es f k).drop 1).drop j))
      ⟨Same.refl _, [], _, _, _, _, _, _, _, _, rfl, hD2, Nat.le_refl _, hRv⟩ (fun j σ H' _ p => SqL.of (p.1 _ _ hS2)) (fun j x' σ H3 H4 hj p y => ?_) (fun σ H3 p => ?_)⟩
    rotate_left
    · obtain ⟨s3, ds, Dl, y8, y9, y10, y11, y12, y13, y14, rfl, hDl, hdn, hF⟩ := p
      rw [dl, show k - f - 1 = ((quE es f k).drop 1).length by rw [List.length_drop, hql], List.drop_of_length_le (Nat.le_refl _)] at hF
      have fin := q _ (s2.trans s3)
      rw [show Rv = if es[f].t + timeOf x ≤ T then some false else none from hF] at fin
      refine ⟨_, rfl, _, rfl, _, rfl, a, _, 3, _, rfl, rfl, SqT.of ((s2.trans s3) _ _ ha), atI_nat (j := 3) rfl, _, _, rfl, rfl, _, _, rfl, rfl, _, rfl, ite2 (fun z => ?_) (fun z => ?_)⟩
      · rw [if_pos (of_decide_eq_true z)] at fin
        exact fin
      · rw [if_neg (fun y => z (decide_eq_true y))] at fin
        exact fin
    obtain ⟨s3, ds, Dl, y8, y9, y10, y11, y12, y13, y14, rfl, hDl, hdn, hF⟩ := p
    obtain ⟨rfl, hx⟩ := y
    have hj' : f + (1 + j) < k := by rw [dl] at hj; omega
    have hjl : f + (1 + j) < es.length := by omega
    have ex : V.int ((f + (1 + j) : Nat) : Int) = x' := Option.some.inj ((by rw [List.getElem?_drop]; exact sg (1 + j) hj' : (((seg f k).map V.int).drop 1)[j]? = some (.int ((f + (1 + j) : Nat) : Int))).symm.trans hx)
    subst ex
    obtain ⟨bj, hbj, hbtj⟩ := hT.at_ hjl
    have s4 := s2.trans s3
    have hq2 : 1 + j < (quE es f k).length := by omega
    have hdr : ((quE es f k).drop 1).drop j = es[f + (1 + j)] :: ((quE es f k).drop 1).drop (j + 1) := by
      have e1 := quE_at (es := es) (f := f) (k := k) (i := 1 + j) hj' hk
      rw [evAt_eq hq2, evAt_eq hjl] at e1
      rw [List.drop_drop, List.drop_drop, ← e1]
      exact List.drop_eq_getElem_cons hq2
    rw [hdr] at hF
    have hb4 := s4 _ _ hbtj
    have ha4 := s4 _ _ ha
    refine ⟨_, rfl, _, rfl, g, _, _, .ref bj, rfl, rfl, SqL.of (s4 _ _ hc), atI_nat (get_map_ref hbj), bj, _, rfl, SqT.of hb4, rfl, _, _, rfl, _, _, rfl, _, _, rfl, rfl, ?_⟩
    generalize es[f + (1 + j)] = ev at hF hb4
    unfold knM at hF
    refine ⟨fun σ' H' => ∃ (dv : V) (N : Addr) (y13 y14 : Option V), σ' = [some (.ref g), some (.ref R), some (.int T), some (.ref a), some (.int es[f].t), some (.int es[f].k), some (.str (ruleOf x)), some (.ref N), some (.int ((f + (1 + j) : Nat) : Int)), some (.int ev.t), some (.int ev.k), some (.str (wayS ev.d)), some dv, y13, y14] ∧ Same H4 H' ∧ ((dv = .non ∧ H' N = some (.lst ((ds ++ if ev.d = true then [ev.k] else []).map V.int)) ∧ Rv = knM es[f].k (ruleOf x) (es[f].t + timeOf x) T (ds ++ if ev.d = true then [ev.k] else []) (((quE es f k).drop 1).drop (j + 1))) ∨ (dv = .str "tap" ∧ Rv = some (decide (ev.t < es[f].t + timeOf x))) ∨ (dv = .str "hold" ∧ Rv = some false)), ?_, ?_⟩
    · refine ⟨_, rfl, _, rfl, rfl, decide (ev.k = es[f].k), eqI rfl, ite2 (fun z => ?_) (fun z => ?_)⟩
      · rw [if_pos (of_decide_eq_true z)] at hF
        exact ⟨_, Dl, _, _, rfl, Same.refl _, .inr (.inl ⟨rfl, hF⟩)⟩
      rw [if_neg (fun y => z (decide_eq_true y))] at hF
      apply two_b (ev.d = true) (C := fun v => gName 13 v _ _ _)
      · intro G
        exact ⟨_, rfl, rfl, G _ (by rw [wayS_down])⟩
      intro o13 ho13
      have e13 : o13 = ev.d := by
        cases h : ev.d with
        | true => exact ho13.mpr h
        | false => exact Bool.eq_false_iff.mpr (fun z => by rw [ho13.mp z] at h; cases h)
      clear ho13
      apply two_b ((ruleOf x = (("other" : String) : Str) ∧ ev.d = true) ∨ (ruleOf x = (("within" : String) : Str) ∧ ev.d = false ∧ ev.k ∈ ds)) (C := fun v => gName 14 v _ _ _)
      · intro G
        by_cases h1 : ruleOf x = (("other" : String) : Str)
        · have h3 : ¬ ruleOf x = (("within" : String) : Str) := by
            rw [h1]
            decide +kernel
          exact ⟨_, rfl, rfl, true, eqS (decide_eq_true h1), iteT ⟨_, rfl, G _ (by rw [e13]; exact ⟨fun z => .inl ⟨h1, z⟩, fun z => z.elim (fun y => y.2) (fun y => absurd y.1 h3)⟩)⟩⟩
        · by_cases h3 : ruleOf x = (("within" : String) : Str)
          · refine ⟨_, rfl, rfl, false, eqS (decide_eq_false h1), iteF ⟨_, rfl, rfl, true, eqS (decide_eq_true h3), iteT ⟨_, rfl, o13, rfl, !o13, rfl, ?_⟩⟩⟩
            rcases Bool.eq_false_or_eq_true ev.d with hd1 | hd1
            · have e : (!o13) = false := by rw [e13, hd1]; rfl
              rw [e]
              exact iteF (G false ⟨fun z => (by cases z), fun z => z.elim (fun y => absurd y.1 h1) (fun y => (by have := y.2.1; rw [hd1] at this; cases this))⟩)
            · have e : (!o13) = true := by rw [e13, hd1]; rfl
              rw [e]
              exact iteT ⟨_, rfl, _, rfl, Dl, _, rfl, .inl (SqL.of hDl), rfl, flat_ints ds, G _ (by rw [inv_int]; exact decide_eq_true_iff.trans ⟨fun z => .inr ⟨h3, hd1, z⟩, fun z => z.elim (fun y => absurd y.1 h1) (fun y => y.2.2)⟩)⟩
          · exact ⟨_, rfl, rfl, false, eqS (decide_eq_false h1), iteF ⟨_, rfl, rfl, false, eqS (decide_eq_false h3), iteF (G false ⟨fun z => (by cases z), fun z => z.elim (fun y => absurd y.1 h1) (fun y => absurd y.1 h3)⟩)⟩⟩
      intro o14 ho14
      have tail : ∀ (dv : V), (o14 = true → dv = .str "hold") → (¬ o14 = true → dv = .non) → ∀ Hz : Hp, Same H4 Hz → ∀ N : Addr, Hz N = some (.lst ((ds ++ if ev.d = true then [ev.k] else []).map V.int)) → ∃ (dv' : V) (N' : Addr) (y13 y14 : Option V), [some (.ref g), some (.ref R), some (.int T), some (.ref a), some (.int es[f].t), some (.int es[f].k), some (.str (ruleOf x)), some (.ref N), some (.int ((f + (1 + j) : Nat) : Int)), some (.int ev.t), some (.int ev.k), some (.str (wayS ev.d)), some dv, some (.bl o13), some (.bl o14)] = [some (.ref g), some (.ref R), some (.int T), some (.ref a), some (.int es[f].t), some (.int es[f].k), some (.str (ruleOf x)), some (.ref N'), some (.int ((f + (1 + j) : Nat) : Int)), some (.int ev.t), some (.int ev.k), some (.str (wayS ev.d)), some dv', y13, y14] ∧ Same H4 Hz ∧ ((dv' = .non ∧ Hz N' = some (.lst ((ds ++ if ev.d = true then [ev.k] else []).map V.int)) ∧ Rv = knM es[f].k (ruleOf x) (es[f].t + timeOf x) T (ds ++ if ev.d = true then [ev.k] else []) (((quE es f k).drop 1).drop (j + 1))) ∨ (dv' = .str "tap" ∧ Rv = some (decide (ev.t < es[f].t + timeOf x))) ∨ (dv' = .str "hold" ∧ Rv = some false)) := fun dv d1 d2 Hz sz N hN => by
        refine ⟨dv, N, _, _, rfl, sz, ?_⟩
        by_cases u : o14 = true
        · rw [if_pos (ho14.mp u)] at hF
          exact .inr (.inr ⟨d1 u, hF⟩)
        · rw [if_neg (fun y => u (ho14.mpr y))] at hF
          exact .inl ⟨d2 u, hN, hF⟩
      have eb : (List.replicate (if o13 = true then (1 : Int) else 0).toNat [V.int ev.k]).flatten = (if ev.d = true then [ev.k] else []).map V.int := by
        rw [e13]; cases ev.d <;> rfl
      have en : (if o13 = true then (1 : Int) else 0) = 0 ∨ (if o13 = true then (1 : Int) else 0) = 1 := by
        cases o13 <;> decide
      have l1 : (if ev.d = true then [ev.k] else []).length ≤ 1 := by cases ev.d <;> simp
      have len4 : ds.length ≤ 400 := by omega
      refine ⟨_, rfl, o14, rfl, ite2 (fun u => ?_) (fun u => ?_)⟩
      all_goals
        refine ⟨_, rfl, _, rfl, (by show 1 ≤ sizeLine; decide), fun A0 nA => ?_⟩
        have k1 := same_upd (o := .lst [.int ev.k]) nA
        refine ⟨_, rfl, .inr ⟨o13, rfl, A0, _, _, rfl, rfl, upd_same, by omega, by omega, ?_, fun A1 nA1 => ?_⟩⟩
        · show 1 * Int.toNat _ ≤ sizeLine
          rw [sizeLine_eq]
          rcases en with e | e <;> rw [e] <;> decide
        rw [eb]
        have k2 := same_upd (o := .lst ((if ev.d = true then [ev.k] else []).map V.int)) nA1
        refine ⟨Dl, A1, _, _, rfl, rfl, (k1.trans k2) _ _ hDl, upd_same, ?_, fun N nN => ?_⟩
        · rw [List.length_map, List.length_map, sizeLine_eq]
          omega
        have kN := same_upd (o := .lst ((ds ++ if ev.d = true then [ev.k] else []).map V.int)) nN
        rw [← List.map_append]
        exact tail _ (fun v => by first | rfl | exact absurd v u) (fun v => by first | rfl | exact absurd u v) _ ((k1.trans k2).trans kN) N upd_same
    · rintro σ' H5 ⟨dv, N, y13, y14, rfl, s5, hcase⟩
      rcases hcase with ⟨rfl, hN, hR2⟩ | ⟨rfl, hR2⟩ | ⟨rfl, hR2⟩
      · have l1 : (if ev.d = true then [ev.k] else []).length ≤ 1 := by cases ev.d <;> simp
        exact ⟨_, rfl, rfl, false, rfl, iteF ⟨s3.trans s5, _, N, _, _, _, _, _, _, _, rfl, hN, by rw [List.length_append]; omega, hR2⟩⟩
      · have fin := q _ (s4.trans s5)
        rw [hR2] at fin
        refine ⟨_, rfl, rfl, true, rfl, iteT ⟨_, rfl, _, rfl, _, rfl, a, _, 3, _, rfl, rfl, SqT.of (s5 _ _ ha4), atI_nat (j := 3) rfl, _, _, rfl, rfl, _, _, rfl, rfl, _, rfl, ite2 (fun z => ?_) (fun z => ?_)⟩⟩
        · rw [decide_eq_true (of_decide_eq_true z)] at fin
          exact ⟨_, rfl, fin⟩
        · rw [decide_eq_false (fun y => z (decide_eq_true y))] at fin
          exact fin
      · have fin := q _ (s4.trans s5)
        rw [hR2] at fin
        refine ⟨_, rfl, rfl, true, rfl, iteT ⟨_, rfl, _, rfl, _, rfl, a, _, 3, _, rfl, rfl, SqT.of (s5 _ _ ha4), atI_nat (j := 3) rfl, _, _, rfl, rfl, _, _, rfl, rfl, _, rfl, ite2 (fun z => ?_) (fun z => ?_)⟩⟩
        · exact ⟨_, rfl, fin⟩
        · exact fin
end
end K74

set_option Elab.async false
set_option linter.all false
set_option maxRecDepth 100000
set_option maxHeartbeats 8000000
namespace K74
open PySem PySem.Spec PyProof.Rows L2 Gd Rm La Cb Pl
theorem rel_te9 {K : PySem.W.Frag} {σ : L2.St} {H : Hp} {Q : VK} {v : V} {x : Actn} {n : Nat} (h6 : σ[9]? = some (some v)) (hv : ActV H x v) (hx : DoOk n x)
    (q : ∀ T, H T = none → Q (.ref T) (upd H T (.tup (outL (outR x))))) :
    tIf (tTest (tOp rEq (tOp (rIxE K) (tVar 9) (tC (V.int 0))) (tC (V.str ("code" : String))))) (tTup (tCons (tC (V.str ("release" : String))) (tCons (tOp (rIxE K) (tVar 9) (tC (V.int 1))) tNil))) (tTup tNil) σ H Q := by
  refine ⟨_, h6, act_head hv ⟨rfl, decide (headW x = (("code" : String) : Str)), eqS rfl, ?_⟩⟩
  by_cases e : headW x = (("code" : String) : Str)
  · rw [decide_eq_true e]
    obtain ⟨c, rfl⟩ := do_code hx e
    obtain ⟨a, rfl, ha⟩ := hv
    exact iteT ⟨_, h6, .inl ⟨a, _, 1, _, rfl, rfl, SqT.of ha, atI_nat (j := 1) rfl, (by show 2 ≤ sizeLine; decide), q⟩⟩
  · rw [decide_eq_false e]
    refine iteF ⟨Nat.zero_le _, fun T nT => ?_⟩
    have := q T nT
    cases x with
    | code c => exact absurd rfl e
    | _ => exact this
def NPairV (H : Hp) (x : Nat × Outp) (v : V) : Prop := ∃ T ov, v = .ref T ∧ H T = some (.tup [.int (x.1 : Int), ov]) ∧ OutV H x.2 ov
theorem NPairV.keep {H H' : Hp} {x : Nat × Outp} {v : V} (h : NPairV H x v) (k : Tk H H') : NPairV H' x v := by
  obtain ⟨T, ov, e, h1, h2⟩ := h
  exact ⟨T, ov, e, k _ _ h1, h2.keep k⟩
def numsM (L : List (List Actn)) (es : List Ev) (f : Nat) : List (Nat × Outp) := (List.range f).map fun i => (i, outM L es i)
theorem nums_succ {L : List (List Actn)} {es : List Ev} {f : Nat} : numsM L es (f + 1) = numsM L es f ++ [(f, outM L es f)] := by
  unfold numsM
  rw [List.range_succ, List.map_append]; rfl
theorem nums_len {L : List (List Actn)} {es : List Ev} {f : Nat} : (numsM L es f).length = f := by unfold numsM; rw [List.length_map, List.length_range]
def Nums (H : Hp) (F : Addr) (xs : List (Nat × Outp)) : Prop := ∃ vs, H F = some (.lst vs) ∧ AllV NPairV H vs xs
/-- the machine: f events are done, k have come -/
structure Wrk (Hb H : Hp) (S A D R F : Addr) (L : List (List Actn)) (es : List Ev) (f k : Nat) (ls : List Int) : Prop where
  sb : Same Hb H
  nS : Hb S = none
  nA : Hb A = none
  nD : Hb D = none
  nR : Hb R = none
  nF : Hb F = none
  st : LSt H S A D L.length (runS L es f) ls
  ll : ls.length ≤ f
  row : H R = some (.lst ((seg f k).map V.int))
  fd : Nums H F (numsM L es f)
  RS : R ≠ S
  RA : R ≠ A
  FS : F ≠ S
  FA : F ≠ A
  FR : F ≠ R
  fk : f ≤ k
  kl : k ≤ es.length
theorem Wrk.same {Hb H H' : Hp} {S A D R F : Addr} {L : List (List Actn)} {es : List Ev} {f k : Nat} {ls : List Int} (h : Wrk Hb H S A D R F L es f k ls) (s : Same H H') : Wrk Hb H' S A D R F L es f k ls := by
  obtain ⟨vs, f1, f2⟩ := h.fd
  exact { h with sb := h.sb.trans s, st := h.st.same s, row := s _ _ h.row, fd := ⟨vs, s _ _ f1, f2.keep fun x v z => z.keep (Tk.of s)⟩ }
theorem eqv_nilI (ns : List Int) : PyData.eqv (.list (ns.map PyData.int)) (.list []) = decide (ns = []) := by
  cases ns with
  | nil => rfl
  | cons a l => rfl
theorem seg_eq {f k : Nat} (h : f < k) : seg f k = (f : Int) :: seg (f + 1) k := by
  unfold seg
  rw [show k - f = (k - (f + 1)) + 1 by omega, List.range'_succ]
  rfl
/-- the front is done: it leaves the row, and its output is written -/
theorem Wrk.done {Hb H H2 : Hp} {S A D R F U : Addr} {L : List (List Actn)} {es : List Ev} {f k : Nat} {ls ls' : List Int} {ov : V} {vs : List V} (h : Wrk Hb H S A D R F L es f k ls) (o : Off3 S A D H H2) (S2 : LSt H2 S A D L.length (runS L es (f + 1)) ls') (l2 : ls'.length ≤ f + 1) (hf : f < k) (hv : OutV H2 (outM L es f) ov) (hF : H F = some (.lst vs)) (hvs : AllV NPairV H vs (numsM L es f))
    (nU : upd H2 R (.lst ((seg (f + 1) k).map V.int)) U = none) :
    upd (upd H2 R (.lst ((seg (f + 1) k).map V.int))) U (.tup [.int (f : Int), ov]) F = some (.lst vs) ∧ Wrk Hb (upd (upd (upd H2 R (.lst ((seg (f + 1) k).map V.int))) U (.tup [.int (f : Int), ov])) F (.lst (vs ++ [.ref U]))) S A D R F L es (f + 1) k ls' := by
  have RD : R ≠ D := ne_of h.row h.st.bd.choose_spec.1 (by intro z; cases z)
  have FD : F ≠ D := ne_of hF h.st.bd.choose_spec.1 (by intro z; cases z)
  have hR2 := o _ _ h.row h.RS h.RA RD
  have hF2 := o _ _ hF h.FS h.FA FD
  have tk2 := h.st.tk o
  have tkR := tk_upd (zs := (seg (f + 1) k).map V.int) hR2
  have hF3 : upd H2 R (.lst ((seg (f + 1) k).map V.int)) F = some (.lst vs) := by rw [upd_ne h.FR]; exact hF2
  have kU := same_upd (o := .tup [.int (f : Int), ov]) nU
  have hF4 := kU _ _ hF3
  have tkF := tk_upd (zs := vs ++ [.ref U]) hF4
  refine ⟨hF4, ?_⟩
  have S3 := S2.updW (ys := (seg (f + 1) k).map V.int) hR2 h.RS h.RA
  have S4 := (S3.same kU).updW (ys := vs ++ [.ref U]) hF4 h.FS h.FA
  refine { h with sb := ?_, st := S4, ll := l2, row := ?_, fd := ?_, fk := hf }
  · refine Same.off (fun b u hb => kU _ _ ?_) h.nF off_upd
    rw [upd_ne (ne_of_none hb h.nR)]
    exact o _ _ (h.sb _ _ hb) (ne_of_none hb h.nS) (ne_of_none hb h.nA) (ne_of_none hb h.nD)
  · rw [upd_ne h.FR.symm]
    exact kU _ _ upd_same
  · rw [nums_succ]
    refine ⟨_, upd_same, (AllV.snoc (hvs.keep fun x v z => ((z.keep tk2).keep tkR).keep (Tk.of kU)) ⟨U, ov, rfl, upd_same, (hv.keep tkR).keep (Tk.of kU)⟩).keep fun x v z => z.keep tkF⟩
section
variable {P : Program} {w : World} {K : PySem.W.Frag} {mg : Str → Option Value} {base : Heap}
def spWork : Sp := fun vs H Q _ => ∃ (Hb : Hp) (c g S A D R F : Addr) (L : List (List Actn)) (m : Nat) (es : List Ev) (f k : Nat) (ls : List Int) (T : Int), vs = [.ref c, .ref g, .ref R, .ref S, .ref F, .int T] ∧ Lay Hb c L ∧ LayOk L m ∧ Lst evV Hb g es ∧ Valid es ∧ es.length ≤ 400 ∧ (∀ e ∈ es, e.k < (m : Int)) ∧ Wrk Hb H S A D R F L es f k ls ∧
  (∀ i, i < k → (evAt es i).t ≤ T) ∧ (∀ i, k ≤ i → i < es.length → T ≤ (evAt es i).t) ∧ (f < k → T ≤ dnT L es f) ∧ (∀ i, i < f → dnT L es i ≤ T) ∧
  ∀ (H' : Hp) (f' : Nat) (ls' : List Int), f ≤ f' → f' ≤ k → Wrk Hb H' S A D R F L es f' k ls' → Still L es f' k T → (∀ i, i < f' → dnT L es i ≤ T) → Q .non H'
theorem ok__law_worked (bt : Bt mg) (a : At K mg "_law_worked" s__law_worked ["_law_layout_here", "_law_record", "_law_row", "_law_state", "_law_found", "_law_tick"]) (c__law_look : Cl P w K mg base 2 "_law_look" spLook) (c__law_first_known : Cl P w K mg base 1 "_law_first_known" spKnown) (c__law_press : Cl P w K mg base 1 "_law_press" spLPress) : Cl P w K mg base 3 "_law_worked" spWork := by
  refine clG a sc__law_worked (fun vs H Q E h => ?_) (fun f0 cdv A0 outer s H vs Q hg hr h => ?_)
  · obtain ⟨Hb, c, g, S, A, D, R, F, L, m, es, f, k, ls, T, rfl, _⟩ := h
    rfl
  · obtain ⟨Hb, c, g, S, A, D, R, F, L, m, es, f, k, ls, T, rfl, hL, hO, hG, hV, h4, hkm, W, hc1, hc2, hlo, hup, q⟩ := h
    refine ⟨_, (pss_one (ps_while PassesOwn.never (pt_cmpR (op_neD hr.units) (pv 2) (pe_lst pa_nil) (nomark _)) (pss_cons (ps_asg (pe_ix ix_list (pv 1) (pe_ix ix_list (pv 2) pe_int (fun _ _ => rfl)) (fun _ _ => rfl)) (pg_tup rfl (pgs_cons (pg_name (i := 6) sc__law_worked.nd rfl (Or.inl rfl)) (pgs_cons (pg_name (i := 7) sc__law_worked.nd rfl (Or.inl rfl)) (pgs_cons (pg_name (i := 8) sc__law_worked.nd rfl (Or.inl rfl)) pgs_nil)))))
      (C8.pss_cut (ps_if (pt_cmpR op_eq (pv 8) pe_str (nomark _)) (pss_cons (ps_set (i := 9) sc__law_worked.nd rfl (Or.inl rfl) (pe_dpop2 (pe_ix ix_list (pv 3) pe_int (fun _ _ => rfl)) (pv 7) pe_str ⟨rfl, rfl, rfl, rfl⟩))
      (pss_one (ps_set (i := 10) sc__law_worked.nd rfl (Or.inl rfl) (pe_ifExp (pt_cmpR op_eq (pe_ix ix_either (pv 9) pe_int (fun _ _ => rfl)) pe_str (nomark _)) (pe_tup (pa_cons pe_str (pa_cons (pe_ix ix_either (pv 9) pe_int (fun _ _ => rfl)) pa_nil))) (pe_tup pa_nil))))) (pss_cons (ps_set (i := 9) sc__law_worked.nd rfl (Or.inl rfl) (pe_ix ix_tup (pe_cl c__law_look hg hr (by decide) (by rfl) (pa_cons (pv 0) (pa_cons (pv 3) (pa_cons (pv 7) pa_nil)))) pe_int (fun _ _ => rfl)))
      (C8.pss_cut (ps_if (pt_cmpR op_eq (pe_ix ix_either (pv 9) pe_int (fun _ _ => rfl)) pe_str (nomark _)) (pss_cons (ps_set (i := 11) sc__law_worked.nd rfl (Or.inl rfl) (pe_cl c__law_first_known hg hr (by decide) (by rfl) (pa_cons (pv 1) (pa_cons (pv 2) (pa_cons (pv 5) (pa_cons (pv 9) pa_nil))))))
      (pss_cons (ps_if (pt_cmpR op_isN (pv 11) pe_non (nomark _)) (pss_one ps_retN) pss_nil)
      (pss_one (ps_set (i := 9) sc__law_worked.nd rfl (Or.inl rfl) (pe_ifExp (pt_cmpR op_eq (pv 11) pe_str (nomark _)) (pe_tup (pa_cons pe_str (pa_cons (pe_ix ix_either (pv 9) pe_int (fun _ _ => rfl)) pa_nil))) (pe_ix ix_either (pv 9) pe_int (fun _ _ => rfl))))))) pss_nil)
      (pss_one (ps_set (i := 10) sc__law_worked.nd rfl (Or.inl rfl) (pe_cl c__law_press hg hr (by decide) (by rfl) (pa_cons (pv 3) (pa_cons (pv 7) (pa_cons (pv 9) pa_nil)))))))))
      (pss_one (ps_expr (pe_bm PySem.F.plainAttrs_list PySem.F.slot_list_append PySem.F.type_list_append mt_append (pv 4) (pa_cons (pe_tup (pa_cons (pe_bm PySem.F.plainAttrs_list PySem.F.slot_list_pop PySem.F.type_list_pop mt_popAt (pv 2) (pa_cons pe_int pa_nil)) (pa_cons (pv 10) pa_nil))) pa_nil)))))))), ?_⟩
    refine ⟨fun nn σ H' => ∃ (f' : Nat) (ls' : List Int) (y6 y7 y8 y9 y10 y11 : Option V), nn = k - f' ∧ f ≤ f' ∧ σ = [some (.ref c), some (.ref g), some (.ref R), some (.ref S), some (.ref F), some (.int T), y6, y7, y8, y9, y10, y11] ∧ Wrk Hb H' S A D R F L es f' k ls' ∧ (f' < k → T ≤ dnT L es f') ∧ (∀ i, i < f' → dnT L es i ≤ T),
      ⟨_, f, ls, _, _, _, _, _, _, rfl, Nat.le_refl _, rfl, W, hlo, hup⟩, fun nn σ H1 z => ?_⟩
    clear W hlo hup
    obtain ⟨f', ls', y6, y7, y8, y9, y10, y11, rfl, hff, rfl, W1, lo1, up1⟩ := z
    have fk := W1.fk
    have kl := W1.kl
    have sgl : (seg f' k).length = k - f' := by unfold seg; rw [List.length_map, List.length_range']
    refine ⟨_, rfl, Nat.zero_le _, fun Te nTe => ?_⟩
    have kTe := same_upd (o := .lst []) nTe
    refine ⟨_, _, .lst (SqL.of (kTe _ _ W1.row)) (dpInts _), .lst (SqL.of upd_same) .nil, shaped_ints _, shaped_nil, !decide (seg f' k = []), by rw [eqv_nilI], ?_⟩
    have W2 := W1.same kTe
    generalize upd H1 Te (.lst []) = H2 at W2 ⊢
    rcases Nat.lt_or_ge f' k with hf | hf
    rotate_left
    · have en : seg f' k = [] := List.length_eq_zero_iff.mp (by omega)
      rw [decide_eq_true en]
      exact iteF (q H2 f' ls' hff fk W2 (.inl (by omega)) up1)
    have en : ¬ seg f' k = [] := fun z => by rw [z] at sgl; simp at sgl; omega
    rw [decide_eq_false en]
    refine iteT ⟨_, fun σ' H' z => z, ?_⟩
    have hfl : f' < es.length := by omega
    obtain ⟨as, hg2, hT⟩ := hG.same W2.sb
    obtain ⟨bi, hbi, hbt⟩ := hT.at_ hfl
    have hev := evAt_eq hfl
    have hrow := W2.row
    rw [seg_eq hf] at hrow
    refine ⟨_, rfl, _, rfl, R, _, 0, .int (f' : Nat), rfl, rfl, SqL.of hrow, atI_nat (j := 0) rfl, g, _, _, .ref bi, rfl, rfl, SqL.of hg2, atI_nat (get_map_ref hbi), bi, _, rfl, SqT.of hbt, rfl, _, _, rfl, _, _, rfl, _, _, rfl, rfl, ?_⟩
    have v1 := (hV f' _ (List.getElem?_eq_getElem hfl)).1
    have hkk := hkm _ (List.getElem_mem hfl)
    have hSt := runS_ok hO hV hkm f' (by omega)
    obtain ⟨vs, hF2, hvs⟩ := id W2.fd
    have hvl : vs.length = f' := by rw [hvs.1, nums_len]
    have SD : True := True.intro
    refine ⟨fun σ' H' => ∃ (o : V) (y9 y11 : Option V) (ls3 : List Int), σ' = [some (.ref c), some (.ref g), some (.ref R), some (.ref S), some (.ref F), some (.int T), some (.int es[f'].t), some (.int es[f'].k), some (.str (wayS es[f'].d)), y9, some o, y11] ∧ Off3 S A D H2 H' ∧ LSt H' S A D L.length (runS L es (f' + 1)) ls3 ∧ ls3.length ≤ f' + 1 ∧ OutV H' (outM L es f') o ∧ dnT L es f' ≤ T, ?_, ?_⟩
    · refine ⟨_, rfl, rfl, !es[f'].d, congrArg V.bl (wayS_up es[f'].d), ?_⟩
      rcases Bool.eq_false_or_eq_true es[f'].d with hd | hd
      · have hd' : (evAt es f').d = true := by rw [hev]; exact hd
        rw [show (!es[f'].d) = false by rw [hd]; rfl]
        have hk0 : es[f'].k = (((evAt es f').k.toNat : Nat) : Int) := by rw [hev]; omega
        have hkm' : (evAt es f').k.toNat < m := by rw [hev]; omega
        obtain ⟨t1, t2, t3⟩ := taken_ok hO (runS L es f') hkm'
        refine iteF ⟨_, rfl, _, rfl, _, rfl, c, S, A, D, runS L es f', ls', L, m, (evAt es f').k.toNat, congrArg (fun z => [V.ref c, V.ref S, V.int z]) hk0, hL.same W2.sb, hO, W2.st, hSt.bds, hkm', fun H5 T5 v5 s5 hT5 hv5 => ?_⟩
        have hv5 : ActV H5 (xAt L es f') v5 := hv5
        have t2 : ActOk L.length _ (xAt L es f') := t2
        have t3 : isThr (xAt L es f') = false := t3
        have hW := what_do (es := es) (j := f') t2 t3
        refine ⟨T5, _, 1, v5, rfl, rfl, SqT.of hT5, atI_nat (j := 1) rfl, ?_⟩
        have S5 := W2.st.same s5
        refine ⟨fun σ' H' => ∃ (v : V) (y11 : Option V), σ' = [some (.ref c), some (.ref g), some (.ref R), some (.ref S), some (.ref F), some (.int T), some (.int es[f'].t), some (.int es[f'].k), some (.str (wayS es[f'].d)), some v, y10, y11] ∧ Same H5 H' ∧ ActV H' (whatM (xAt L es f') (kindM es f' (xAt L es f'))) v ∧ dnT L es f' ≤ T, ?_, ?_⟩
        · refine ⟨_, rfl, act_head hv5 ⟨rfl, isDl (xAt L es f'), eqS (head_dual t2), ?_⟩⟩
          cases hdl : isDl (xAt L es f') with
          | false =>
            have ek : kindM es f' (xAt L es f') = ("plain" : String) := by unfold kindM; rw [if_neg (by rw [hdl]; decide)]
            rw [ek, what_plain]
            exact iteF ⟨v5, _, rfl, Same.refl _, hv5, dnT_le hfl up1 (hc1 f' hf) (fun z hz => by rw [dec_none (.inr hdl)] at hz; cases hz)⟩
          | true =>
            refine iteT ⟨_, rfl, _, rfl, _, rfl, _, rfl, g, R, es, f', k, v5, xAt L es f', T, rfl, (hG.same W2.sb).same s5, s5 _ _ W2.row, hf, kl, h4, hv5, hdl, fun H6 s6 => ?_⟩
            have hv6 := hv5.keep (Tk.of s6)
            have e0 := quE_at (es := es) (f := f') (k := k) (i := 0) hf kl
            rw [Nat.add_zero] at e0
            have ld := law_dec (L := L) hV hf kl hd' hdl hc2
            rw [e0, ← kn_sur (fun i j a b hij ha hb => by
              rw [List.getElem?_drop] at ha hb
              exact val_asc hV f' k _ _ a b (by omega) ha hb) (fun v hv => by
              obtain ⟨i, hi⟩ := List.getElem?_of_mem hv
              rw [List.getElem?_drop] at hi
              have hil := (List.getElem?_eq_some_iff.mp hi).1
              rw [quE_len kl] at hil
              have e1 := quE_at (es := es) (f := f') (k := k) (i := 1 + i) (by omega) kl
              have e2 : evAt (quE es f' k) (1 + i) = v := by unfold evAt; rw [List.getD_eq_getElem?_getD, hi]; rfl
              rw [← e2, e1]
              exact hc1 _ (by omega))] at ld
            rcases ld with ⟨e1, hw⟩ | ⟨b, e1, ek, hdec⟩
            · rw [e1]
              exact ⟨_, rfl, rfl, true, rfl, iteT (q H6 f' ls' hff fk ((W2.same s5).same s6) (.inr ⟨hf, hd', hw⟩) up1)⟩
            · rw [e1]
              have hdn : dnT L es f' ≤ T := dnT_le hfl up1 (hc1 f' hf) (fun z hz => hdec z hz hc1)
              refine ⟨_, rfl, rfl, false, rfl, iteF ?_⟩
              obtain ⟨a, b0, cc, rfl, ha, htp, hhd⟩ := dl_all hv6 hdl
              rw [ek]
              cases b with
              | true =>
                refine ⟨_, rfl, rfl, true, by decide +kernel, iteT ⟨_, rfl, .inl ⟨a, _, 1, _, rfl, rfl, SqT.of ha, atI_nat (j := 1) rfl, (by show 2 ≤ sizeLine; decide), fun T7 nT7 => ?_⟩⟩⟩
                refine ⟨_, _, rfl, s6.trans (same_upd nT7), ?_, hdn⟩
                show ActV _ (whatM _ "tap") _
                rw [what_tap, htp]
                exact ⟨T7, rfl, upd_same⟩
              | false =>
                refine ⟨_, rfl, rfl, false, by decide +kernel, iteF ⟨_, rfl, .inl ⟨a, _, 2, .ref b0, rfl, rfl, SqT.of ha, atI_nat (j := 2) rfl, ?_⟩⟩⟩
                refine ⟨_, _, rfl, s6, ?_, hdn⟩
                show ActV _ (whatM _ "hold") _
                rw [what_hold]
                exact hhd
        · rintro σ' H6 ⟨v6, y11', rfl, s6, hv6, hdn⟩
          have eS : runS L es (f' + 1) = press (runS L es f') es[f'].k (whatM (xAt L es f') (kindM es f' (xAt L es f'))) := by rw [runS_dn hd', hev]
          have eO : outM L es f' = outP (whatM (xAt L es f') (kindM es f' (xAt L es f'))) := by unfold outM; rw [if_pos hd']
          have ll := W2.ll
          refine ⟨_, rfl, _, rfl, _, rfl, S, A, D, L.length, runS L es f', ls', es[f'].k, v6, _, rfl, S5.same s6, hv6, hW, hSt.lk, by omega, by have := hSt.len; omega, fun H7 ls7 o S7 hl7 o7 hov => ?_⟩
          exact ⟨o, _, _, ls7, rfl, (Off3.of (s5.trans s6)).trans o7, by rw [eS]; exact S7, by omega, by rw [eO]; exact hov, hdn⟩
      · have hd' : (evAt es f').d = false := by rw [hev]; exact hd
        rw [show (!es[f'].d) = true by rw [hd]; rfl]
        obtain ⟨kvs, b1, b2⟩ := W2.st.bd
        have eR : runS L es (f' + 1) = release (runS L es f') es[f'].k := by rw [runS_up hd', hev]
        have eO : outM L es f' = outR ((getB (runS L es f').bd es[f'].k).getD .none) := by unfold outM; rw [if_neg (by rw [hd']; decide), hev, relO_eq]
        have hdn : dnT L es f' ≤ T := dnT_le hfl up1 (hc1 f' hf) (fun z hz => by rw [dec_none (.inl hd')] at hz; cases hz)
        have ll := W2.ll
        refine iteT ⟨_, rfl, S, _, 2, .ref D, rfl, rfl, SqL.of W2.st.st, atI_nat (j := 2) rfl, D, rfl, .inl ⟨kvs, .inl b1⟩, _, rfl, kvs, Sum.inl es[f'].k, b1, rfl, fun v hv => ?_, fun hv => ?_⟩
        · rcases b2.get es[f'].k with ⟨g1, _⟩ | ⟨v', x, g1, g2, g3⟩
          · rw [g1] at hv; cases hv
          have ev : v' = v := Option.some.inj (g1.symm.trans hv)
          subst ev
          have o6 : Off3 S A D H2 (upd H2 D (.dK (dropK kvs (Sum.inl es[f'].k)))) := Off3.upd (.inr (.inr rfl))
          have S6 : LSt (upd H2 D (.dK (dropK kvs (Sum.inl es[f'].k)))) S A D L.length (runS L es (f' + 1)) ls' := by rw [eR]; exact W2.st.drop b1 b2
          have X6 : ActV (upd H2 D (.dK (dropK kvs (Sum.inl es[f'].k)))) ((getB (runS L es f').bd es[f'].k).getD .none) v' := by rw [g2]; exact g3.keep (W2.st.tk o6)
          have dX : DoOk L.length ((getB (runS L es f').bd es[f'].k).getD .none) := by
            rw [g2]
            obtain ⟨p0, hp0, _, e2⟩ := getB_mem g2
            have := hSt.bds p0 hp0
            rw [e2] at this
            exact BdOk.doo this
          generalize upd H2 D (.dK (dropK kvs (Sum.inl es[f'].k))) = H6 at o6 S6 X6 ⊢
          refine rel_te9 rfl X6 dX (fun T9 nT => ?_)
          have kT := same_upd (o := .tup (outL (outR ((getB (runS L es f').bd es[f'].k).getD .none)))) nT
          exact ⟨.ref T9, _, _, ls', rfl, o6.trans (Off3.of kT), S6.same kT, by omega, ⟨T9, rfl, by rw [upd_same, eO]⟩, hdn⟩
        · have g2 : getB (runS L es f').bd es[f'].k = none := by
            rcases b2.get es[f'].k with ⟨_, g2⟩ | ⟨v', x, g1, _⟩
            · exact g2
            · rw [g1] at hv; cases hv
          refine rel_te9 (x := .none) (n := L.length) rfl rfl trivial (fun T9 nT => ?_)
          have kT := same_upd (o := .tup (outL (outR .none))) nT
          exact ⟨.ref T9, _, _, ls', rfl, Off3.of kT, by rw [eR, rel_none g2]; exact W2.st.same kT, by omega, ⟨T9, rfl, by rw [upd_same, eO, g2]; rfl⟩, hdn⟩
    · rintro σ' H3 ⟨o, y9', y11', ls3, rfl, o3, S3, hl3, hov, hdn⟩
      have RD : R ≠ D := ne_of W2.row W2.st.bd.choose_spec.1 (by intro z; cases z)
      have FD : F ≠ D := ne_of hF2 W2.st.bd.choose_spec.1 (by intro z; cases z)
      have hR3 : H3 R = some (.lst (V.int (f' : Int) :: (seg (f' + 1) k).map V.int)) := o3 _ _ hrow W2.RS W2.RA RD
      have hF3 := o3 _ _ hF2 W2.FS W2.FA FD
      have sl2 : ((seg (f' + 1) k).map V.int).length = k - (f' + 1) := by unfold seg; rw [List.length_map, List.length_map, List.length_range']
      refine ⟨_, rfl, .inl ⟨rfl, _, SqL.of hF3⟩, _, rfl, .inl ⟨rfl, _, SqL.of hR3⟩, R, _, 0, 0, .int (f' : Int), rfl, rfl, hR3, by decide, by decide, ?_, rfl, _, rfl, (by show 2 ≤ sizeLine; decide), fun U nU => ?_⟩
      · rw [List.length_cons, sl2]
        unfold seqIndex?
        simp
      obtain ⟨hF4, W4⟩ := W2.done o3 S3 hl3 hf hov hF2 hvs nU
      have hlo2 : f' + 1 < k → T ≤ dnT L es (f' + 1) := fun _ => by
        have h1 := lo1 hf
        have h2 := dnT_succ (L := L) (es := es) (i := f')
        omega
      have hup2 : ∀ i, i < f' + 1 → dnT L es i ≤ T := fun i hi => by
        rcases Nat.lt_or_ge i f' with z | z
        · exact up1 i z
        · rw [show i = f' by omega]; exact hdn
      exact ⟨F, _, .ref U, rfl, rfl, hF4, small1000 (by omega), k - (f' + 1), by omega, f' + 1, ls3, _, _, _, _, _, _, rfl, by omega, rfl, W4, hlo2, hup2⟩
end
end K74

set_option Elab.async false
set_option linter.all false
set_option maxRecDepth 100000
set_option maxHeartbeats 8000000
namespace K74
open PySem PySem.Spec PyProof.Rows L2 Gd Rm La Cb Pl
def Low4 (L : List (List Actn)) : Prop := ∀ row ∈ L, ∀ x ∈ row, timeOf x ≤ 4
theorem Low4.at {L : List (List Actn)} (h : Low4 L) (es : List Ev) (i : Nat) : timeOf (xAt L es i) ≤ 4 := by
  unfold xAt actAt
  generalize takenL L (runS L es i) (evAt es i).k.toNat = l
  generalize (evAt es i).k.toNat = k
  have z : timeOf .none ≤ 4 := by decide
  rw [List.getD_eq_getElem?_getD, List.getD_eq_getElem?_getD]
  cases e : L[l]? with
  | none => exact z
  | some row =>
    show timeOf (row[k]?.getD .none) ≤ 4
    cases e2 : row[k]? with
    | none => exact z
    | some x => exact h row (List.mem_of_getElem? e) x (List.mem_of_getElem? e2)
theorem val_mono {es : List Ev} (hV : Valid es) {i j : Nat} (h : i ≤ j) (hj : j < es.length) : (evAt es i).t ≤ (evAt es j).t := by
  rcases Nat.lt_or_ge i j with q | q
  · rw [evAt_eq hj, evAt_eq (by omega)]
    exact (hV j _ (List.getElem?_eq_getElem hj)).2.2 i _ q (List.getElem?_eq_getElem (by omega))
  · rw [show i = j by omega]; exact Int.le_refl _
theorem seg_snoc {f k : Nat} (h : f ≤ k) : seg f (k + 1) = seg f k ++ [(k : Int)] := by
  unfold seg
  rw [show k + 1 - f = (k - f) + 1 by omega, List.range'_concat, List.map_append, show f + 1 * (k - f) = k by omega]
  rfl
/-- one more event comes -/
theorem Wrk.push {Hb H : Hp} {S A D R F : Addr} {L : List (List Actn)} {es : List Ev} {f k : Nat} {ls : List Int} (h : Wrk Hb H S A D R F L es f k ls) (hk : k < es.length) :
    Wrk Hb (upd H R (.lst ((seg f k).map V.int ++ [.int (k : Int)]))) S A D R F L es f (k + 1) ls := by
  obtain ⟨vs, f1, f2⟩ := h.fd
  have fk := h.fk
  have tk := tk_upd (zs := (seg f k).map V.int ++ [.int (k : Int)]) h.row
  exact { h with sb := Same.off h.sb h.nR off_upd, st := h.st.updW h.row h.RS h.RA, row := by rw [upd_same, seg_snoc fk, List.map_append]; rfl, fd := ⟨vs, by rw [upd_ne h.FR]; exact f1, f2.keep fun x v z => z.keep tk⟩, fk := by omega, kl := hk }
theorem atI_end {xs : List V} {v : V} (h : xs[xs.length - 1]? = some v) : atI xs (-1) = some v := by
  have hn : xs ≠ [] := by
    intro e
    subst e
    simp at h
  have e := List.getLast?_eq_getElem? (l := xs)
  rw [h] at e
  have hz : xs.dropLast ++ [v] = xs := by
    have := List.dropLast_concat_getLast hn
    rw [List.getLast?_eq_some_getLast hn] at e
    rw [← Option.some.inj e]
    exact this
  rw [← hz]
  exact atI_last _ _
theorem if_val {ta : TT} {x y : TE} {σ : L2.St} {H : Hp} {Q : VK} {b : Bool} {v : V} (h : ∀ R : Bool → Hp → Prop, (∀ H', Same H H' → R b H') → ta σ H R) (q1 : b = true → ∀ H', Same H H' → ∀ Q' : VK, Q' v H' → x σ H' Q') (q2 : b = false → ∀ H', Same H H' → ∀ Q' : VK, Q' v H' → y σ H' Q') (q : ∀ H', Same H H' → Q v H') : tIf ta x y σ H Q := by
  refine h _ (fun H' s => ?_)
  cases b with
  | true => exact iteT (q1 rfl H' s _ (q H' s))
  | false => exact iteF (q2 rfl H' s _ (q H' s))
theorem eqv_recN (es : List Ev) : PyData.eqv (recD es) (.list []) = decide (es = []) := by
  cases es with
  | nil => rfl
  | cons a l => rfl
theorem shaped_recd (es : List Ev) : SeqAt.shaped (recD es) = true := by
  have go : ∀ es : List Ev, PyData.canLayAll0 (es.map evD) = true ∧ PyData.depthAll (es.map evD) ≤ 1 := by
    intro es
    induction es with
    | nil => exact ⟨rfl, Nat.zero_le _⟩
    | cons e es ih =>
      obtain ⟨a, b⟩ := ih
      refine ⟨?_, ?_⟩
      · have h : PyData.canLay0 (.str (wayS e.d)) = true := by cases e.d <;> decide +kernel
        show ((true && (true && (PyData.canLay0 (.str (wayS e.d)) && true))) && PyData.canLayAll0 (es.map evD)) = true
        rw [a, h]
        rfl
      · show max (PyData.depth (evD e)) (PyData.depthAll (es.map evD)) ≤ 1
        have : PyData.depth (evD e) = 1 := rfl
        omega
  obtain ⟨a, b⟩ := go es
  show (PyData.canLayAll0 (es.map evD) && decide (PyData.depthAll (es.map evD) + 1 ≤ 64)) = true
  rw [a, decide_eq_true (by omega)]
  rfl
section
variable {P : Program} {w : World} {K : PySem.W.Frag} {mg : Str → Option Value} {base : Heap}
def spMach : Sp := fun vs H Q _ => ∃ (c g : Addr) (L : List (List Actn)) (m : Nat) (es : List Ev), vs = [.ref c, .ref g] ∧ Lay H c L ∧ LayOk L m ∧ Low4 L ∧ Lst evV H g es ∧ Valid es ∧ es.length ≤ 400 ∧ (∀ e ∈ es, e.k < (m : Int)) ∧ (∀ e ∈ es, -(10 ^ 15) ≤ e.t ∧ e.t ≤ 10 ^ 15) ∧
  ∀ (H' : Hp) (F : Addr), Same H H' → H F = none → Nums H' F (numsM L es es.length) → Q (.ref F) H'
theorem ok__law_machine (bt : Bt mg) (a : At K mg "_law_machine" s__law_machine ["_law_layout_here", "_law_record"]) (c__law_worked : Cl P w K mg base 3 "_law_worked" spWork) : Cl P w K mg base 4 "_law_machine" spMach := by
  refine clG a sc__law_machine (fun vs H Q E h => ?_) (fun f0 cdv A0 outer s H vs Q hg hr h => ?_)
  · obtain ⟨c, g, L, m, es, rfl, _⟩ := h
    rfl
  · obtain ⟨c, g, L, m, es, rfl, hL, hO, h4L, hG, hV, h4, hkm, hin, q⟩ := h
    refine ⟨_, (pss_cons (ps_asg (pe_tup (pa_cons (pe_lst pa_nil) (pa_cons (pe_lst (pa_cons (pe_lst pa_nil) (pa_cons pe_non (pa_cons pe_dnewK pa_nil)))) (pa_cons (pe_lst pa_nil) (pa_cons (pe_ifExp (pt_cmpR (op_neD hr.units) (pv 1) (pe_lst pa_nil) (nomark _)) (pe_op op_add (pe_ix ix_tup (pe_ix ix_list (pv 1) (pe_un un_neg pe_int) (fun _ _ => rfl)) pe_int (fun _ _ => rfl)) pe_int) pe_int) pa_nil))))) (pg_tup rfl (pgs_cons (pg_name (i := 2) sc__law_machine.nd rfl (Or.inl rfl)) (pgs_cons (pg_name (i := 3) sc__law_machine.nd rfl (Or.inl rfl)) (pgs_cons (pg_name (i := 4) sc__law_machine.nd rfl (Or.inl rfl)) (pgs_cons (pg_name (i := 5) sc__law_machine.nd rfl (Or.inl rfl)) pgs_nil))))))
      (pss_cons (ps_for PassesOwn.never rfl (pi_range2 (by rfl) bt.m_range (pa_cons (pe_ifExp (pt_cmpR (op_neD hr.units) (pv 1) (pe_lst pa_nil) (nomark _)) (pe_ix ix_tup (pe_ix ix_list (pv 1) pe_int (fun _ _ => rfl)) pe_int (fun _ _ => rfl)) pe_int) (pa_cons (pv 5) pa_nil))) (pg_name (i := 6) sc__law_machine.nd rfl (Or.inl rfl)) (pss_cons (ps_expr (pe_cl c__law_worked hg hr (by decide) (by rfl) (pa_cons (pv 0) (pa_cons (pv 1) (pa_cons (pv 2) (pa_cons (pv 3) (pa_cons (pv 4) (pa_cons (pv 6) pa_nil))))))))
      (pss_one (ps_for PassesOwn.never rfl (pi_enum (by rfl) bt.m_enumerate (pa_cons (pv 1) pa_nil)) (pg_tup rfl (pgs_cons (pg_name (i := 7) sc__law_machine.nd rfl (Or.inl rfl)) (pgs_cons (pg_name (i := 8) sc__law_machine.nd rfl (Or.inl rfl)) pgs_nil))) (pss_one (ps_if (pt_cmpR op_eq (pe_ix ix_tup (pv 8) pe_int (fun _ _ => rfl)) (pv 6) (nomark _)) (pss_cons (ps_expr (pe_bm PySem.F.plainAttrs_list PySem.F.slot_list_append PySem.F.type_list_append mt_append (pv 2) (pa_cons (pv 7) pa_nil)))
      (pss_one (ps_expr (pe_cl c__law_worked hg hr (by decide) (by rfl) (pa_cons (pv 0) (pa_cons (pv 1) (pa_cons (pv 2) (pa_cons (pv 3) (pa_cons (pv 4) (pa_cons (pv 6) pa_nil)))))))))) pss_nil))))))
      (pss_one (ps_ret (pv 4))))), ?_⟩
    obtain ⟨as, hg0, hT⟩ := id hG
    have hal : as.length = es.length := hT.1
    obtain ⟨T0, n, hT0, hT1, hb0, hb1, hspan⟩ : ∃ (T0 : Int) (n : Nat), (es = [] → T0 = 0 ∧ n = 0) ∧ (∀ h : 0 < es.length, T0 = es[0].t ∧ es[es.length - 1].t + 6 = T0 + (n : Int)) ∧ -(10 ^ 15) ≤ T0 ∧ T0 ≤ 10 ^ 15 ∧ (n : Int) ≤ 10 ^ 16 := by
      rcases Nat.eq_zero_or_pos es.length with h | h
      · exact ⟨0, 0, fun _ => ⟨rfl, rfl⟩, fun h' => by omega, by decide, by decide, by decide⟩
      · have i0 := hin _ (List.getElem_mem h)
        have iz := hin _ (List.getElem_mem (show es.length - 1 < es.length by omega))
        have m0 := val_mono hV (Nat.zero_le (es.length - 1)) (by omega)
        rw [evAt_eq h, evAt_eq (show es.length - 1 < es.length by omega)] at m0
        obtain ⟨n, hn⟩ : ∃ n : Nat, es[es.length - 1].t + 6 = es[0].t + (n : Int) := ⟨(es[es.length - 1].t + 6 - es[0].t).toNat, by omega⟩
        exact ⟨es[0].t, n, fun z => absurd (congrArg List.length z) (by show ¬ es.length = 0; omega), fun _ => ⟨rfl, hn⟩, i0.1, i0.2, by omega⟩
    have hal0 : es = [] ∨ 0 < es.length := by
      rcases Nat.eq_zero_or_pos es.length with h | h
      · exact .inl (List.length_eq_zero_iff.mp h)
      · exact .inr h
    refine ⟨Nat.zero_le _, fun R nR => ⟨Nat.zero_le _, fun A nA D nD => ⟨(by show 3 ≤ sizeLine; decide), fun S nS => ⟨Nat.zero_le _, fun F nF => ?_⟩⟩⟩⟩
    have kR := same_upd (o := .lst []) nR
    have kA := same_upd (o := .lst []) nA
    have kD := same_upd (o := .dK []) nD
    have kS := same_upd (o := .lst [.ref A, .non, .ref D]) nS
    have kF := same_upd (o := .lst []) nF
    have nA0 : H A = none := none_back kR nA
    have nD0 : H D = none := none_back (kR.trans kA) nD
    have nS0 : H S = none := none_back ((kR.trans kA).trans kD) nS
    have nF0 : H F = none := none_back (((kR.trans kA).trans kD).trans kS) nF
    have hR := (kA.trans (kD.trans (kS.trans kF))) _ _ (upd_same (H := H) (a := R) (o := .lst []))
    have hA := (kD.trans (kS.trans kF)) _ _ (upd_same (H := (upd H R (.lst []))) (a := A) (o := .lst []))
    have hD := (kS.trans kF) _ _ (upd_same (H := (upd (upd H R (.lst [])) A (.lst []))) (a := D) (o := .dK []))
    have hS := kF _ _ (upd_same (H := (upd (upd (upd H R (.lst [])) A (.lst [])) D (.dK []))) (a := S) (o := .lst [.ref A, .non, .ref D]))
    have hF := upd_same (H := (upd (upd (upd (upd H R (.lst [])) A (.lst [])) D (.dK [])) S (.lst [.ref A, .non, .ref D]))) (a := F) (o := .lst [])
    have s0 := (kR.trans (kA.trans (kD.trans (kS.trans kF))))
    have AR : A ≠ R := (ne_of_none (upd_same (H := H) (a := R) (o := .lst [])) nA).symm
    have SR : S ≠ R := (ne_of_none ((kA.trans kD) _ _ (upd_same (H := H) (a := R) (o := .lst []))) nS).symm
    have SA : S ≠ A := (ne_of_none (kD _ _ (upd_same (H := (upd H R (.lst []))) (a := A) (o := .lst []))) nS).symm
    have FR : F ≠ R := (ne_of_none ((kA.trans (kD.trans kS)) _ _ (upd_same (H := H) (a := R) (o := .lst []))) nF).symm
    have FA : F ≠ A := (ne_of_none ((kD.trans kS) _ _ (upd_same (H := (upd H R (.lst []))) (a := A) (o := .lst []))) nF).symm
    have FS : F ≠ S := (ne_of_none (upd_same (H := (upd (upd (upd H R (.lst [])) A (.lst [])) D (.dK []))) (a := S) (o := .lst [.ref A, .non, .ref D])) nF).symm
    generalize upd (upd (upd (upd (upd H R (.lst [])) A (.lst [])) D (.dK [])) S (.lst [.ref A, .non, .ref D])) F (.lst []) = H1 at hR hA hD hS hF s0 ⊢
    clear kR kA kD kS kF
    have L0 : LSt H1 S A D L.length (runS L es 0) [] := by
      refine ⟨hS, hA, ⟨[], hD, .nil⟩, fun i i1 i2 => ⟨fun z => by simp at z, fun z => ?_⟩, List.nodup_nil, Int.le_refl _, SA⟩
      have : (init L.length).lk.getD i false = false := by
        show (List.replicate L.length false).getD i false = false
        rw [List.getD_eq_getElem?_getD, List.getElem?_replicate]
        split <;> rfl
      rw [show (runS L es 0).lk.getD i false = false from this] at z
      cases z
    have W0 : Wrk H H1 S A D R F L es 0 0 [] := ⟨s0, nS0, nA0, nD0, nR, nF0, L0, Nat.le_refl _, by rw [show seg 0 0 = [] from rfl]; exact hR, ⟨[], hF, AllV.nil⟩, SR.symm, AR.symm, FS, FA, FR, Nat.le_refl _, Nat.zero_le _⟩
    clear hR hA hD hS hF L0 nA nD nS nF
    refine if_val (b := !decide (es = [])) (v := .int (T0 + (n : Int))) (fun Rr hr => ⟨_, rfl, Nat.zero_le _, fun Te nTe => ⟨_, _, (hG.same (s0.trans (same_upd nTe))).dp, .lst (SqL.of upd_same) .nil, shaped_recd es, shaped_nil, _, by rw [eqv_recN], hr _ (same_upd nTe)⟩⟩) (fun hb H2 s2 Q' q' => ?_) (fun hb H2 s2 Q' q' => ?_) (fun H2 s2 => ?_)
    · have hpos : 0 < es.length := by
        rcases hal0 with h | h
        · rw [h] at hb; cases hb
        · exact h
      obtain ⟨bz, hbz, hbzt⟩ := hT.at_ (i := es.length - 1) (by omega)
      have sx := s0.trans s2
      refine ⟨_, rfl, _, rfl, g, _, _, .ref bz, rfl, rfl, SqL.of (sx _ _ hg0), atI_end (by rw [List.length_map, hal]; exact get_map_ref hbz), bz, _, 0, _, rfl, rfl, SqT.of (sx _ _ hbzt), atI_nat (j := 0) rfl, _, _, rfl, rfl, ?_⟩
      dsimp only
      rw [(hT1 hpos).2]
      exact q'
    · have he : es = [] := by
        rcases hal0 with h | h
        · exact h
        · rw [decide_eq_false (fun z => by rw [z] at h; cases h)] at hb; cases hb
      obtain ⟨z1, z2⟩ := hT0 he
      rw [z1, z2] at q'
      exact q'
    have W2 := W0.same s2
    clear W0
    refine ⟨(by show 4 ≤ sizeLine; decide), fun Tt nTt => ⟨Tt, _, rfl, SqT.of upd_same, rfl, _, _, rfl, _, _, rfl, _, _, rfl, _, _, rfl, rfl, ?_⟩⟩
    have W3 := W2.same (same_upd (o := .tup [.ref R, .ref S, .ref F, .int (T0 + (n : Int))]) nTt)
    refine (fun (G : ∀ H3 : Hp, Wrk H H3 S A D R F L es 0 0 [] → _) => G _ W3) (fun H3 W3 => ?_)
    clear W2 s2 nTt
    have tin : ∀ i, i < es.length → T0 ≤ (evAt es i).t ∧ (evAt es i).t + 6 ≤ T0 + (n : Int) := fun i hi => by
      obtain ⟨z1, z2⟩ := hT1 (by omega)
      have a1 := val_mono hV (Nat.zero_le i) hi
      have a2 := val_mono hV (show i ≤ es.length - 1 by omega) (by omega)
      rw [evAt_eq (show 0 < es.length by omega)] at a1
      rw [evAt_eq (show es.length - 1 < es.length by omega)] at a2
      omega
    rcases hal0 with he | hpos
    · subst he
      obtain ⟨z1, z2⟩ := hT0 rfl
      refine ⟨_, rfl, Nat.zero_le _, fun Te nTe => ?_⟩
      have kTe := same_upd (o := .lst []) nTe
      refine ⟨_, _, (hG.same (W3.sb.trans kTe)).dp, .lst (SqL.of upd_same) .nil, shaped_recd [], shaped_nil, false, rfl, iteF ?_⟩
      have W4 := W3.same kTe
      refine ⟨_, rfl, 0, T0 + (n : Int), rfl, ⟨by omega, by omega, by omega, by omega⟩, for_it walk_range (fun i σ H' => ∃ (y6 y7 y8 : Option V), σ = [some (.ref c), some (.ref g), some (.ref R), some (.ref S), some (.ref F), some (.int (T0 + (n : Int))), y6, y7, y8] ∧ Wrk H H' S A D R F L [] 0 0 []) ⟨_, _, _, rfl, W4⟩ (fun _ _ _ _ _ => True.intro) (fun i x σ Hx H5 hi p y => ?_) (fun σ H5 p => ?_)⟩
      · rw [z1, z2] at hi
        exact absurd hi (Nat.not_lt_zero _)
      · obtain ⟨y6, y7, y8, rfl, W5⟩ := p
        exact ⟨_, rfl, q H5 F W5.sb nF0 W5.fd⟩
    obtain ⟨b0, hb0x, hb0t⟩ := hT.at_ (i := 0) hpos
    refine ⟨_, rfl, Nat.zero_le _, fun Te nTe => ?_⟩
    have kTe := same_upd (o := .lst []) nTe
    have W4 := W3.same kTe
    have sx := W4.sb
    refine ⟨_, _, (hG.same sx).dp, .lst (SqL.of upd_same) .nil, shaped_recd es, shaped_nil, true, by rw [eqv_recN, decide_eq_false (fun z => by rw [z] at hpos; cases hpos)]; rfl, iteT ?_⟩
    refine ⟨_, rfl, g, _, 0, .ref b0, rfl, rfl, SqL.of (sx _ _ hg0), atI_nat (j := 0) (get_map_ref hb0x), b0, _, 0, _, rfl, rfl, SqT.of (sx _ _ hb0t), atI_nat (j := 0) rfl, ?_⟩
    clear W3
    refine ⟨_, rfl, T0, T0 + (n : Int), congrArg (fun z => [V.int z, V.int (T0 + (n : Int))]) (hT1 hpos).1.symm, ⟨by omega, by omega, by omega, by omega⟩, for_it walk_range (fun i σ H' => ∃ (f k : Nat) (ls : List Int) (y6 y7 y8 : Option V), σ = [some (.ref c), some (.ref g), some (.ref R), some (.ref S), some (.ref F), some (.int (T0 + (n : Int))), y6, y7, y8] ∧ Wrk H H' S A D R F L es f k ls ∧ (∀ i', i' < k → (evAt es i').t ≤ T0 + (i : Int) - 1) ∧ (∀ i', k ≤ i' → i' < es.length → T0 + (i : Int) ≤ (evAt es i').t) ∧ Still L es f k (T0 + (i : Int) - 1) ∧ (∀ i', i' < f → dnT L es i' ≤ T0 + (i : Int) - 1))
      ⟨0, 0, [], _, _, _, rfl, W4, fun i' h => by omega, fun i' _ h => by have := (tin i' h).1; omega, .inl rfl, fun i' h => by omega⟩ (fun _ _ _ _ _ => True.intro) (fun i x σ Hx H5 hi p y => ?_) (fun σ H5 p => ?_)⟩
    · obtain ⟨f, k, ls, y6, y7, y8, rfl, W5, c1, c2, st, up⟩ := p
      obtain ⟨rfl, hx⟩ := y
      have hx : x = .int (T0 + (i : Int)) := hx
      subst hx
      have hT0s := hT
      generalize hTT : T0 + (i : Int) = T at c1 c2 st up ⊢
      have hlo : f < k → T ≤ dnT L es f := fun h => by
        have := Still.late st W5.kl (fun j a b => by have := c2 j a b; omega) f (Nat.le_refl _) h
        omega
      refine ⟨_, rfl, _, rfl, _, rfl, _, rfl, _, rfl, _, rfl, H, c, g, S, A, D, R, F, L, m, es, f, k, ls, T, rfl, hL, hO, hG, hV, h4, hkm, W5, fun j h => by have := c1 j h; omega, c2, hlo, fun j h => by have := up j h; omega, fun H6 f6 ls6 ff6 fk6 W6 st6 up6 => ?_⟩
      have hg6 := W6.sb _ _ hg0
      refine ⟨_, rfl, g, _, rfl, SqL.of hg6, for_it (walk_enum (xs := as.map V.ref)) (fun j σ H' => ∃ (f k' : Nat) (ls : List Int) (y7 y8 : Option V), σ = [some (.ref c), some (.ref g), some (.ref R), some (.ref S), some (.ref F), some (.int (T0 + (n : Int))), some (.int T), y7, y8] ∧ Wrk H H' S A D R F L es f k' ls ∧ (∀ i', i' < k' → (evAt es i').t ≤ T) ∧ (∀ i', k' ≤ i' → i' < es.length → T ≤ (evAt es i').t) ∧ Still L es f k' T ∧ (∀ i', i' < f → dnT L es i' ≤ T) ∧ (∀ i', i' < j → i' < es.length → (evAt es i').t ≤ T → i' < k') ∧ (k' ≤ j ∨ k' = k))
        ⟨f6, k, ls6, _, _, rfl, W6, fun j h => by have := c1 j h; omega, c2, st6, up6, fun i' h => by omega, .inr rfl⟩ (fun j σ H' _ p => by obtain ⟨_, _, _, _, _, _, w, _⟩ := p; exact SqL.of (w.sb _ _ hg0)) (fun j x σ H7 H8 hj p y => ?_) (fun σ H7 p => ?_)⟩
      · obtain ⟨f, k', ls, y7, y8, rfl, W7, d1, d2, st7, up7, seen, hkj⟩ := p
        obtain ⟨U, u, v, rfl, nU, rfl, e1, e2⟩ := y
        have hj' : j < es.length := by rw [List.length_map] at hj; omega
        obtain ⟨b, hb, hbt⟩ := hT0s.at_ hj'
        have e2' : v = .ref b := Option.some.inj (e2.symm.trans (get_map_ref hb))
        subst e2'
        have e1' : u = .int (j : Nat) := (Option.some.inj e1).symm
        subst e1'
        have hev := evAt_eq hj'
        have kU := same_upd (o := .tup [.int (j : Nat), .ref b]) nU
        have W8 := W7.same kU
        have hb8 := W8.sb _ _ hbt
        have hU8 := upd_same (H := H7) (a := U) (o := .tup [.int (j : Nat), .ref b])
        generalize upd H7 U (.tup [.int (j : Nat), .ref b]) = H9 at W8 hb8 hU8 ⊢
        refine ⟨U, _, rfl, SqT.of hU8, rfl, _, _, rfl, _, _, rfl, rfl, ?_⟩
        refine ⟨_, rfl, b, _, 0, _, rfl, rfl, SqT.of hb8, atI_nat (j := 0) rfl, _, rfl, rfl, decide (es[j].t = T), eqI rfl, ite2 (fun z => ?_) (fun z => ?_)⟩
        rotate_left
        · refine ⟨f, k', ls, _, _, rfl, W8, d1, d2, st7, up7, fun i' h1 h2 h3 => ?_, by omega⟩
          rcases Nat.lt_or_ge i' j with w | w
          · exact seen i' w h2 h3
          · have ei : i' = j := by omega
            subst ei
            rcases Nat.lt_or_ge i' k' with v | v
            · exact v
            · have a1 := d2 i' v h2
              have a2 : es[i'].t ≠ T := fun y => z (decide_eq_true y)
              rw [hev] at a1 h3
              omega
        have ek : es[j].t = T := of_decide_eq_true z
        have ejk : j = k' := by
          rcases Nat.lt_or_ge j k' with v | v
          · rcases hkj with w | w
            · omega
            · have := c1 j (by omega)
              rw [hev] at this
              omega
          · rcases Nat.lt_or_ge k' j with w | w
            · have a1 := val_mono hV (Nat.le_of_lt w) hj'
              rw [hev] at a1
              have := seen k' w (by omega) (by omega)
              omega
            · omega
        subst ejk
        have sgl : ((seg f j).map V.int).length = j - f := by unfold seg; rw [List.length_map, List.length_map, List.length_range']
        have W9 := W8.push hj'
        refine ⟨_, rfl, .inl ⟨rfl, _, SqL.of W8.row⟩, _, rfl, R, _, .int (j : Int), rfl, rfl, W8.row, small1000 (by omega), ?_⟩
        generalize upd H9 R (.lst ((seg f j).map V.int ++ [.int (j : Int)])) = H10 at W9 ⊢
        refine ⟨_, rfl, _, rfl, _, rfl, _, rfl, _, rfl, _, rfl, H, c, g, S, A, D, R, F, L, m, es, f, j + 1, ls, T, rfl, hL, hO, hG, hV, h4, hkm, W9, fun i' h => ?_, fun i' h1 h2 => d2 i' (by omega) h2, fun _ => ?_, up7, fun H11 f11 ls11 ff11 fk11 W11 st11 up11 => ?_⟩
        · rcases Nat.lt_or_ge i' j with w | w
          · exact d1 i' w
          · rw [show i' = j by omega, hev]; omega
        · rcases st7 with e | ⟨h1, h2, h3, h5, h6⟩
          · have := (dnT_ge (L := L) hj').1
            rw [hev] at this
            rw [e]
            omega
          · have gg := (dnT_ge (L := L) (es := es) (i := f) (by omega)).2
            rw [dec_some h2 h3] at gg
            cases e : sureM es f (xAt L es f) with
            | none =>
              rw [e] at gg
              have := gg _ rfl
              omega
            | some n' =>
              rw [e] at gg
              have := gg _ rfl
              have := d2 n' (h5 n' e) (sureM_lt e).2
              omega
        · refine ⟨f11, j + 1, ls11, _, _, rfl, W11, fun i' h => ?_, fun i' h1 h2 => d2 i' (by omega) h2, st11, up11, fun i' h1 h2 h3 => h1, .inl (Nat.le_refl _)⟩
          rcases Nat.lt_or_ge i' j with w | w
          · exact d1 i' w
          · rw [show i' = j by omega, hev]; omega
      · obtain ⟨f, k', ls, y7, y8, rfl, W7, d1, d2, st7, up7, seen, _⟩ := p
        rw [List.length_map, hal] at seen
        have d3 : ∀ j, k' ≤ j → j < es.length → T < (evAt es j).t := fun j h1 h2 => by
          rcases Int.lt_or_le T (evAt es j).t with u | u
          · exact u
          · have := seen j h2 h2 u; omega
        have eT : T0 + ((i + 1 : Nat) : Int) - 1 = T := by omega
        have eT2 : T0 + ((i + 1 : Nat) : Int) = T + 1 := by omega
        refine ⟨f, k', ls, _, _, _, rfl, W7, ?_, ?_, ?_, ?_⟩
        · rw [eT]; exact d1
        · rw [eT2]; exact fun j a b => by have := d3 j a b; omega
        · rw [eT]; exact st7
        · rw [eT]; exact up7
    · obtain ⟨f, k, ls, y6, y7, y8, rfl, W5, c1, c2, st, up⟩ := p
      have en : (T0 + (n : Int) - T0).toNat = n := by omega
      rw [en] at c1 c2 st up
      have kl := W5.kl
      have ek : k = es.length := by
        rcases Nat.lt_or_ge k es.length with u | u
        · have a1 := c2 k (Nat.le_refl _) u
          have a2 := (tin k u).2
          omega
        · omega
      subst ek
      have ef : f = es.length := by
        rcases st with h | ⟨h1, _, _, _, h⟩
        · exact h
        · have a1 := h4L.at es f
          have a2 := (tin f h1).2
          omega
      subst ef
      exact ⟨_, rfl, q H5 F W5.sb nF0 W5.fd⟩
end
end K74

set_option Elab.async false
set_option linter.all false
set_option maxRecDepth 100000
set_option maxHeartbeats 8000000
namespace K74
open PySem PySem.Spec PyProof.Rows L2 Gd Rm La Cb Pl
theorem eqv_outs : ∀ os : List Outp, PyData.eqvAll (os.map outD) (os.map outD) = true
  | [] => rfl
  | o :: os => by
    show (PyData.eqv (outD o) (outD o) && PyData.eqvAll (os.map outD) (os.map outD)) = true
    rw [eqv_outs os]
    cases o <;> simp [outD, PyData.eqv, PyData.eqvAll]
theorem outs_lay : ∀ {os : List Outp}, (∀ o ∈ os, OutOk o) → PyData.canLayAll0 (os.map outD) = true ∧ PyData.depthAll (os.map outD) ≤ 1
  | [], _ => ⟨rfl, Nat.zero_le _⟩
  | o :: os, h => by
    obtain ⟨a, b⟩ := outs_lay (os := os) fun y hy => h y (List.mem_cons_of_mem _ hy)
    have ho := h o (List.mem_cons_self ..)
    have h1 : PyData.canLay0 (outD o) = true := by
      cases o with
      | no => rfl
      | pr c => simp [outD, PyData.canLay0, PyData.canLayAll0, (by decide +kernel : PyData.strOk "press" = true), strOk_code ho]
      | re c => simp [outD, PyData.canLay0, PyData.canLayAll0, (by decide +kernel : PyData.strOk "release" = true), strOk_code ho]
    have h2 : PyData.depth (outD o) ≤ 1 := by cases o <;> exact Nat.le_refl _
    refine ⟨?_, ?_⟩
    · show (PyData.canLay0 (outD o) && PyData.canLayAll0 (os.map outD)) = true
      rw [h1, a]; rfl
    · show max (PyData.depth (outD o)) (PyData.depthAll (os.map outD)) ≤ 1
      omega
theorem shaped_outs {os : List Outp} (h : ∀ o ∈ os, OutOk o) : SeqAt.shaped (.list (os.map outD)) = true := by
  obtain ⟨a, b⟩ := outs_lay h
  show (PyData.canLayAll0 (os.map outD) && decide (PyData.depthAll (os.map outD) + 1 ≤ 64)) = true
  rw [a, decide_eq_true (by omega)]
  rfl
def npD (x : Nat × Outp) : PyData := .tuple [.int (x.1 : Int), outD x.2]
theorem NPairV.dp {K : PySem.W.Frag} {H : Hp} {x : Nat × Outp} {v : V} (h : NPairV H x v) : Dp K H v (npD x) := by
  obtain ⟨T, ov, rfl, h1, h2⟩ := h
  exact .tup (SqT.of h1) (.cons (.int _) (.cons h2.dp .nil))
theorem Nums.dp {K : PySem.W.Frag} {H : Hp} {D : Addr} {xs : List (Nat × Outp)} (h : Nums H D xs) : Dp K H (.ref D) (.list (xs.map npD)) := by
  obtain ⟨vs, a, b⟩ := h
  exact .lst (SqL.of a) (b.dp fun x v z => z.dp)
theorem eqv_nums : ∀ xs : List (Nat × Outp), PyData.eqvAll (xs.map npD) (xs.map npD) = true
  | [] => rfl
  | (n, o) :: xs => by
    show (PyData.eqv (npD (n, o)) (npD (n, o)) && PyData.eqvAll (xs.map npD) (xs.map npD)) = true
    rw [eqv_nums xs]
    cases o <;> simp [npD, outD, PyData.eqv, PyData.eqvAll]
theorem nums_lay : ∀ {xs : List (Nat × Outp)}, (∀ x ∈ xs, OutOk x.2) → PyData.canLayAll0 (xs.map npD) = true ∧ PyData.depthAll (xs.map npD) ≤ 2
  | [], _ => ⟨rfl, Nat.zero_le _⟩
  | (n, o) :: xs, h => by
    obtain ⟨a, b⟩ := nums_lay (xs := xs) fun y hy => h y (List.mem_cons_of_mem _ hy)
    have ho : OutOk o := h _ (List.mem_cons_self ..)
    have h1 : PyData.canLay0 (npD (n, o)) = true := by
      cases o with
      | no => rfl
      | pr c => simp [npD, outD, PyData.canLay0, PyData.canLayAll0, (by decide +kernel : PyData.strOk "press" = true), strOk_code ho]
      | re c => simp [npD, outD, PyData.canLay0, PyData.canLayAll0, (by decide +kernel : PyData.strOk "release" = true), strOk_code ho]
    have h2 : PyData.depth (npD (n, o)) ≤ 2 := by cases o <;> (first | exact Nat.le_refl _ | decide +kernel)
    refine ⟨?_, ?_⟩
    · show (PyData.canLay0 (npD (n, o)) && PyData.canLayAll0 (xs.map npD)) = true
      rw [h1, a]; rfl
    · show max (PyData.depth (npD (n, o))) (PyData.depthAll (xs.map npD)) ≤ 2
      omega
theorem shaped_nums {xs : List (Nat × Outp)} (h : ∀ x ∈ xs, OutOk x.2) : SeqAt.shaped (.list (xs.map npD)) = true := by
  obtain ⟨a, b⟩ := nums_lay h
  show (PyData.canLayAll0 (xs.map npD) && decide (PyData.depthAll (xs.map npD) + 1 ≤ 64)) = true
  rw [a, decide_eq_true (by omega)]
  rfl
theorem nums_at {L : List (List Actn)} {es : List Ev} {n j : Nat} (h : j < n) : (numsM L es n)[j]? = some (j, outM L es j) := by
  unfold numsM
  rw [List.getElem?_map, List.getElem?_range h]
  rfl
theorem neL {x y : Int} (h : x = y) : V.bl (!decide (V.int x = V.int y)) = V.bl false := by rw [h]; simp
structure RecG (H0 : Hp) (r F : Addr) (m : Nat) (keys : Int) (ks : List Int) (i : Nat) (tick : Int) (es : List Ev) (H : Hp) : Prop where
  Fr : F ≠ r
  nF : H0 F = none
  off : Rm.Off r H0 H
  reel : Reel H r m
  found : Lst evV H F es
  valid : Valid es
  len : es.length = i
  key : ∀ e ∈ es, 0 ≤ e.k ∧ e.k < keys
  last : ∀ e ∈ es, -20 ≤ e.t ∧ e.t ≤ tick
  tk : -20 ≤ tick ∧ tick ≤ 10 * (i : Int)
  par : ∀ x, heldB es x = decide ((ks.take i).count x % 2 = 1)
section
variable {H0 H H' : Hp} {r F : Addr} {m m' : Nat} {keys : Int} {ks : List Int} {i : Nat} {tick : Int} {es : List Ev}
theorem RecG.go (h : RecG H0 r F m keys ks i tick es H) (o : Rm.Off r H H') (R : Reel H' r m') : RecG H0 r F m' keys ks i tick es H' := by
  obtain ⟨x, y, z, hr, _⟩ := id h.reel
  exact { h with off := h.off.trans o, reel := R, found := h.found.off hr h.Fr o }
theorem RecG.same (h : RecG H0 r F m keys ks i tick es H) (o : Same H H') : RecG H0 r F m keys ks i tick es H' := h.go (Off.of o) (h.reel.same o)
theorem RecG.push {p : Addr} {e : Ev} (h : RecG H0 r F m keys ks i tick es H) (np : H p = none)
    (hv : Valid (es ++ [e])) (hk : 0 ≤ e.k ∧ e.k < keys) (ht : tick ≤ e.t) (tk : e.t ≤ 10 * ((i + 1 : Nat) : Int)) (hp2 : ∀ x, heldB (es ++ [e]) x = decide ((ks.take (i + 1)).count x % 2 = 1)) :
    ∃ as : List Addr, upd H p (.tup (evV e)) F = some (.lst (as.map V.ref)) ∧ as.length = i ∧
      RecG H0 r F m keys ks (i + 1) e.t (es ++ [e]) (upd (upd H p (.tup (evV e))) F (.lst (as.map V.ref ++ [.ref p]))) := by
  obtain ⟨x, y, z, hr, hb⟩ := id h.reel
  obtain ⟨as, hF, hT⟩ := h.found
  have hF2 := (same_upd (o := .tup (evV e)) np) _ _ hF
  have hr2 := (same_upd (o := .tup (evV e)) np) _ _ hr
  have hp : upd H p (.tup (evV e)) p = some (.tup (evV e)) := upd_same
  have pF : p ≠ F := (ne_of_none hF np).symm
  have hl := h.len
  have hal := hT.1
  refine ⟨as, hF2, by omega, ?_⟩
  refine { h with off := (h.off.sameTrans (same_upd np)).new h.nF, reel := ⟨x, y, z, by rw [upd_ne h.Fr.symm]; exact hr2, hb⟩,
                  found := ⟨as ++ [p], by rw [upd_same, List.map_append]; rfl, Tups.snoc ((hT.same (same_upd np)).off hF2 off_upd) (by rw [upd_ne pF]; exact hp)⟩,
                  valid := hv, len := by rw [List.length_append, hl]; rfl, key := fun x hx => ?_, last := fun x hx => ?_, tk := ⟨by have := h.tk.1; omega, tk⟩, par := hp2 }
  · rcases List.mem_append.mp hx with hx | hx
    · exact h.key x hx
    · rw [List.mem_singleton.mp hx]; exact hk
  · have := h.tk.1
    rcases List.mem_append.mp hx with hx | hx
    · have := h.last x hx
      exact ⟨this.1, by omega⟩
    · rw [List.mem_singleton.mp hx]; exact ⟨by omega, Int.le_refl _⟩
end
theorem way_par (c : Nat) : [V.str "down", V.str "up"][c % 2]? = some (.str (wayS (!decide (c % 2 = 1)))) := by
  rcases (by omega : c % 2 = 0 ∨ c % 2 = 1) with h | h <;> rw [h] <;> rfl
theorem par_next {ks : List Int} {es : List Ev} {j : Nat} {t : Int} (hj : j < ks.length) (h : ∀ x, heldB es x = decide ((ks.take j).count x % 2 = 1)) (x : Int) : heldB (es ++ [⟨t, ks[j], !decide ((ks.take j).count ks[j] % 2 = 1)⟩]) x = decide ((ks.take (j + 1)).count x % 2 = 1) := by
  rw [heldB_snoc]
  unfold after
  rw [List.take_add_one, List.getElem?_eq_getElem hj, List.count_append]
  show (if x = ks[j] then !decide ((ks.take j).count ks[j] % 2 = 1) else heldB es x) = decide (((ks.take j).count x + [ks[j]].count x) % 2 = 1)
  rw [List.count_singleton]
  by_cases z : x = ks[j]
  · rw [if_pos z, ← z]
    simp only [beq_self_eq_true, if_true]
    rcases (by omega : (ks.take j).count x % 2 = 0 ∨ (ks.take j).count x % 2 = 1) with e | e
    · rw [decide_eq_false (by omega), decide_eq_true (by omega)]; rfl
    · rw [decide_eq_true (by omega), decide_eq_false (by omega)]; rfl
  · rw [if_neg z, h]
    have : (ks[j] == x) = false := by simp; exact fun y => z y.symm
    rw [this]
    simp
section
variable {P : Program} {w : World} {K : PySem.W.Frag} {mg : Str → Option Value} {base : Heap}
def spLRight : Sp := fun vs H Q _ => ∃ (r c g : Addr) (n : Nat) (L : List (List Actn)) (m : Nat) (ks : List Int), vs = [.ref r, .ref c, .ref g] ∧ Reel H r n ∧ n + 100 < most ∧ Lay H c L ∧ (∀ H', Rm.Off r H H' → Tk H H' → Lay H' c L) ∧ LayOk L m ∧ Low4 L ∧ H g = some (.lst (ks.map V.int)) ∧ g ≠ r ∧ ks.length ≤ 8 ∧ (∀ k ∈ ks, 0 ≤ k ∧ k < (m : Int)) ∧
  ∀ H', Rm.Off r H H' → Reel H' r (n + 20) → Q (.bl true) H'
theorem ok__law_right (bt : Bt mg) (a : At K mg "_law_right" s__law_right ["_law_reel_here", "_law_layout_here", "_law_keys"]) (c__law_spin : Cl P w K mg base 1 "_law_spin" spSpin) (c__law_machine : Cl P w K mg base 4 "_law_machine" spMach) (c_played : Cl P w K mg base 9 "played" spPlayed) (c_flat : Cl P w K mg base 10 "flat" spFlat) : Cl P w K mg base 11 "_law_right" spLRight := by
  refine clG a sc__law_right (fun vs H Q E h => ?_) (fun f0 cdv A0 outer s H vs Q hg hr h => ?_)
  · obtain ⟨r, c, g, n, L, m, ks, rfl, _⟩ := h
    rfl
  · obtain ⟨r, c, g, n, L, m, ks, rfl, hR, hn, hL, hLk, hO, h4L, hK, gr, hk8, hkk, q⟩ := h
    refine ⟨_, (pss_cons (ps_par (i := 3) (j := 4) rfl sc__law_right.nd rfl rfl (by decide) rfl rfl (pa_cons (pe_lst pa_nil) (pa_cons (pe_op op_sub pe_int (pe_cl c__law_spin hg hr (by decide) (by rfl) (pa_cons (pv 0) (pa_cons pe_int pa_nil)))) pa_nil)) (by rfl))
      (pss_cons (ps_for PassesOwn.never rfl (pi_enum (by rfl) bt.m_enumerate (pa_cons (pv 2) pa_nil)) (pg_tup rfl (pgs_cons (pg_name (i := 5) sc__law_right.nd rfl (Or.inl rfl)) (pgs_cons (pg_name (i := 6) sc__law_right.nd rfl (Or.inl rfl)) pgs_nil))) (pss_cons (ps_set (i := 4) sc__law_right.nd rfl (Or.inl rfl) (pe_op op_add (pv 4) (pe_cl c__law_spin hg hr (by decide) (by rfl) (pa_cons (pv 0) (pa_cons pe_int pa_nil)))))
      (pss_one (ps_expr (pe_bm PySem.F.plainAttrs_list PySem.F.slot_list_append PySem.F.type_list_append mt_append (pv 3) (pa_cons (pe_tup (pa_cons (pv 4) (pa_cons (pv 6) (pa_cons (pe_ix ix_list (pe_lst (pa_cons pe_str (pa_cons pe_str pa_nil))) (pe_op op_mod (pe_bm PySem.F.plainAttrs_list PySem.F.slot_list_count PySem.F.type_list_count mt_lcount (pe_slice sl_list (pv 2) po_none (po_some (pv 5))) (pa_cons (pv 6) pa_nil)) pe_int) (fun _ _ => rfl)) pa_nil)))) pa_nil))))))
      (pss_cons (ps_asg (pe_tup (pa_cons (pe_cl c__law_machine hg hr (by decide) (by rfl) (pa_cons (pv 1) (pa_cons (pv 3) pa_nil))) (pa_cons (pe_cl c_played hg hr (by decide) (by rfl) (pa_cons (pv 1) (pa_cons (pv 3) pa_nil))) pa_nil))) (pg_tup rfl (pgs_cons (pg_name (i := 7) sc__law_right.nd rfl (Or.inl rfl)) (pgs_cons (pg_name (i := 8) sc__law_right.nd rfl (Or.inr rfl)) pgs_nil))))
      (pss_cons (ps_if (PW.pt (pw_or (pt_cmpR (op_neD hr.units) (pv 7) (pe_lc (own := [("_law_number", 9)]) (g := (gName 9)) (by rfl) sc__law_right.nd (pi_range1 (by rfl) bt.m_range (pa_cons (pe_callB call_len_seq (by rfl) bt.m_len (by decide +kernel) (pa_cons (pv 8) pa_nil)) pa_nil)) (blkOk_by (N := n__law_right) (sc := defScope s__law_right) (by decide +kernel)) (fun _ _ _ _ _ => (pg_name (i := 9) sc__law_right.nd rfl (Or.inl rfl))) (fun _ _ _ _ _ => pts_nil) (fun _ _ _ _ _ => (pe_tup (pa_cons (pv 9) (pa_cons (pe_ix (r := rIxL K) ix_list (pv 8) (pv 9) (fun _ _ => rfl)) pa_nil))))) (nomark _)) (pw_or1 (pt_cmpR op_ne (pe_callB call_len_seq (by rfl) bt.m_len (by decide +kernel) (pa_cons (pv 8) pa_nil)) (pe_callB call_len_seq (by rfl) bt.m_len (by decide +kernel) (pa_cons (pv 3) pa_nil)) (nomark _))))) (pss_one (ps_ret pe_bl)) pss_nil)
      (pss_one (ps_ret (pe_cmpR (op_eqD hr.units) (pe_cl c_flat hg hr (by decide) (by rfl) (pa_cons (pv 1) (pa_cons (pv 3) pa_nil))) (pe_lc (own := [("_law_number", 9), ("_law_output", 10)]) (g := (gTup K 2 (gCons (gName 9) (gCons (gName 10) gNil)))) (by rfl) sc__law_right.nd (pi_list (pv 7)) (blkOk_by (N := n__law_right) (sc := defScope s__law_right) (by decide +kernel)) (fun _ _ _ _ _ => (pg_tup rfl (pgs_cons (pg_name (i := 9) sc__law_right.nd rfl (Or.inl rfl)) (pgs_cons (pg_name (i := 10) sc__law_right.nd rfl (Or.inl rfl)) pgs_nil)))) (fun _ _ _ _ _ => (pts_one (pt_cmpR (r := rNeD K) (op_neD hr.units) (pv 10) (pe_tup pa_nil) (nomark _)))) (fun _ _ _ _ _ => (pv 10))) (nomark _)))))))), ?_⟩
    have hn' : n + 100 < 1000000000 := hn
    obtain ⟨_, _, _, hr0, _⟩ := id hR
    refine ⟨Nat.zero_le _, fun F nF => ?_⟩
    have kF := same_upd (o := .lst []) nF
    refine ⟨_, rfl, r, 9, n, rfl, by decide, by decide, by show n < 1000000000; omega, hR.same kF, fun d H1 d0 d1 R1 o1 => ⟨_, _, rfl, rfl, _, _, rfl, ?_⟩⟩
    have Fr : F ≠ r := (ne_of_none hr0 nF).symm
    have G0 : RecG H r F (n + 1 + 0) m ks 0 (0 - d) [] H1 := ⟨Fr, nF, (Off.of kF).trans o1, R1, ⟨[], o1 _ _ upd_same Fr, Tups.nil⟩, Valid.nil, rfl, fun e h => by simp at h, fun e h => by simp at h, ⟨by omega, by omega⟩, fun x => rfl⟩
    clear R1 o1 kF
    have hgr := gr
    refine ⟨_, rfl, g, _, rfl, SqL.of (G0.off _ _ hK gr), for_it (walk_enum (xs := ks.map V.int)) (fun j σ H' => ∃ (tick : Int) (es : List Ev) (y5 y6 y7 y8 y9 y10 : Option V), σ = [some (.ref r), some (.ref c), some (.ref g), some (.ref F), some (.int tick), y5, y6, y7, y8, y9, y10] ∧ RecG H r F (n + 1 + j) m ks j tick es H')
      ⟨0 - d, [], _, _, _, _, _, _, rfl, G0⟩ (fun j σ H' _ p => by obtain ⟨_, _, _, _, _, _, _, _, _, w⟩ := p; exact SqL.of (w.off _ _ hK gr)) (fun j x σ H7 H8 hj p y => ?_) (fun σ H7 p => ?_)⟩
    · obtain ⟨tick, es, y5, y6, y7, y8, y9, y10, rfl, G1⟩ := p
      obtain ⟨U, u, v, rfl, nU, rfl, e1, e2⟩ := y
      have hj' : j < ks.length := by rw [List.length_map] at hj; exact hj
      have e2' : v = .int ks[j] := Option.some.inj (e2.symm.trans (get_map_int (List.getElem?_eq_getElem hj')))
      subst e2'
      have e1' : u = .int (j : Nat) := (Option.some.inj e1).symm
      subst e1'
      have kU := same_upd (o := .tup [.int (j : Nat), .int ks[j]]) nU
      have G2 := G1.same kU
      refine ⟨U, _, rfl, SqT.of upd_same, rfl, _, _, rfl, _, _, rfl, rfl, ?_⟩
      refine ⟨_, rfl, _, rfl, r, 6, n + 1 + j, rfl, by decide, by decide, by show _ < 1000000000; omega, G2.reel, fun dv H9 v0 v1 R9 o9 => ⟨_, _, rfl, rfl, ?_⟩⟩
      have G3 := G2.go o9 R9
      have htk := G3.tk
      have hlast : ∀ e' ∈ es, e'.t ≤ tick + dv := fun e' he => by have := G3.last e' he; omega
      have hkj := hkk _ (List.getElem_mem hj')
      obtain ⟨as, hFa, hTa⟩ := id G3.found
      have hK3 := G3.off _ _ hK gr
      refine ⟨_, rfl, .inl ⟨rfl, _, SqL.of hFa⟩, _, rfl, _, rfl, (by show 2 ≤ sizeLine; decide), fun M nM => ?_⟩
      have kM := same_upd (o := .lst [.str "down", .str "up"]) nM
      have hK4 := kM _ _ hK3
      refine ⟨_, rfl, _, rfl, (j : Int), rfl, g, _, rfl, SqL.of hK4, fun T nT => ?_⟩
      have ec : cutV (ks.map V.int) none (some (j : Int)) = (ks.take j).map V.int := by rw [cutTake, List.map_take]
      rw [ec]
      have kT := same_upd (o := .lst ((ks.take j).map V.int)) nT
      have hT2 := upd_same (H := upd H9 M (.lst [.str "down", .str "up"])) (a := T) (o := .lst ((ks.take j).map V.int))
      refine ⟨.inl ⟨rfl, _, SqL.of hT2⟩, _, rfl, T, ks.take j, ks[j], rfl, rfl, SqL.of hT2, _, _, rfl, rfl, (by decide : (0 : Int) < 2), M, _, (((ks.take j).count ks[j] % 2 : Nat) : Int), _, rfl, rfl, SqL.of (kT _ _ upd_same), atI_nat (way_par _), (by show 3 ≤ sizeLine; decide), fun p np => ?_⟩
      have G4 := (G3.same kM).same kT
      have hF4 := (kM.trans kT) _ _ hFa
      have par := G4.par
      obtain ⟨as', h1, h2, G5⟩ := G4.push (e := ⟨tick + dv, ks[j], !decide ((ks.take j).count ks[j] % 2 = 1)⟩) np (G4.valid.snoc hkj.1 (by show heldB es ks[j] = !(!decide ((ks.take j).count ks[j] % 2 = 1)); rw [par, Bool.not_not]) hlast) hkj (by show tick ≤ tick + dv; omega) (by show tick + dv ≤ _; omega) (par_next hj' par)
      exact ⟨F, _, .ref p, rfl, rfl, h1, by rw [List.length_map, h2]; exact small1000 (by omega), _, _, _, _, _, _, _, _, rfl, G5⟩
    · obtain ⟨tick, es, y5, y6, y7, y8, y9, y10, rfl, G1⟩ := p
      rw [List.length_map] at G1
      have lay : ∀ {H'}, Same H7 H' → Lay H' c L := fun {H'} s => (hLk _ G1.off (hR.tk G1.off)).same s
      have hV := G1.valid
      have hlen := G1.len
      have htk := G1.tk
      have hkm : ∀ e ∈ es, e.k < (m : Int) := fun e he => (G1.key e he).2
      refine ⟨_, rfl, _, rfl, c, F, L, m, es, rfl, lay (Same.refl _), hO, h4L, G1.found, hV, by omega, hkm, fun e he => by have := G1.last e he; omega, fun H8 N s8 nN hN => ?_⟩
      refine ⟨_, rfl, _, rfl, c, F, L, m, es, rfl, lay s8, hO, G1.found.same s8, hV, by omega, hkm, fun H9 D s9 nD hD => ?_⟩
      refine ⟨(by show 2 ≤ sizeLine; decide), fun Tt nTt => ⟨Tt, _, rfl, SqT.of upd_same, rfl, _, _, rfl, _, _, rfl, rfl, ?_⟩⟩
      have kT := same_upd (o := .tup [.ref N, .ref D]) nTt
      obtain ⟨vs, hN1, hvs⟩ := hN
      have sN := s9.trans kT
      have sA := s8.trans sN
      have hN2 := sN _ _ hN1
      have hvs2 : AllV NPairV (upd H9 Tt (.tup [.ref N, .ref D])) vs (numsM L es es.length) := hvs.keep fun x v z => z.keep (Tk.of sN)
      have hD2 := hD.same kT
      refine (fun (Gg : ∀ Hq : Hp, Same H7 Hq → Hq N = some (.lst vs) → AllV NPairV Hq vs (numsM L es es.length) → Outs Hq D (outsM L es es.length) → _) => Gg _ sA hN2 hvs2 hD2) (fun Hq sA hN2 hvs2 hD2 => ?_)
      have hvl : vs.length = es.length := by rw [hvs2.1, nums_len]
      obtain ⟨us, hDu, hus⟩ := id hD2
      have hul : us.length = es.length := by rw [hus.1, outsM_len]
      have okO : ∀ x ∈ numsM L es es.length, OutOk x.2 := fun x hx => by
        unfold numsM at hx
        obtain ⟨i, hi, rfl⟩ := List.mem_map.mp hx
        exact outM_ok hO hV hkm (List.mem_range.mp hi)
      refine ⟨_, rfl, _, rfl, D, _, rfl, .inl (SqL.of hDu), (us.length : Int), rfl, by omega, by omega, fun M nM => lc_it walk_range (fun j H' => Same Hq H' ∧ Nums H' M (numsM L es j)) ⟨same_upd nM, [], upd_same, AllV.nil⟩ (fun _ _ _ _ => True.intro) (fun j x Hx Hy hj p y => ?_) (fun Hz p => ?_)⟩
      · obtain ⟨sx, ws, hM, hws⟩ := p
        obtain ⟨rfl, hx⟩ := y
        have hx : x = .int (0 + (j : Int)) := hx
        rw [Int.zero_add] at hx
        subst hx
        have hj' : j < us.length := by omega
        have hu : us[j]? = some us[j] := List.getElem?_eq_getElem hj'
        have ho : OutV Hq (outM L es j) us[j] := hus.2 j _ _ hu (by unfold outsM; rw [List.getElem?_map, List.getElem?_range (by omega)]; rfl)
        have hwl := hws.1
        rw [nums_len] at hwl
        refine ⟨rfl, ⟨_, rfl, _, rfl, _, rfl, D, _, _, _, rfl, rfl, SqL.of (sx _ _ hDu), atI_nat hu, (by show 2 ≤ sizeLine; decide), fun U nU => ?_⟩⟩
        have kU := same_upd (o := .tup [.int (j : Int), us[j]]) nU
        have hM2 := kU _ _ hM
        refine ⟨ws, hM2, small1000 (by omega), Same.off (sx.trans kU) nM off_upd, ?_⟩
        rw [nums_succ]
        exact ⟨_, upd_same, (AllV.snoc (hws.keep fun x v z => z.keep (Tk.of kU)) ⟨U, us[j], rfl, upd_same, (ho.keep (Tk.of sx)).keep (Tk.of kU)⟩).keep fun x v z => z.keep (tk_upd hM2)⟩
      obtain ⟨sz, hM⟩ := p
      have eul : ((us.length : Int)).toNat = es.length := by omega
      rw [eul] at hM
      have eN : PyData.eqv (.list ((numsM L es es.length).map npD)) (.list ((numsM L es es.length).map npD)) = true := eqv_nums _
      have sN2 := shaped_nums okO
      obtain ⟨as, hFa, hTa⟩ := G1.found.same (sA.trans sz)
      have hal : as.length = es.length := hTa.1
      refine ⟨_, _, Nums.dp ⟨vs, sz _ _ hN2, hvs2.keep fun x v z => z.keep (Tk.of sz)⟩, hM.dp, sN2, sN2, false, by rw [eN]; rfl, iteF ?_⟩
      refine ⟨_, rfl, D, _, rfl, .inl (SqL.of (sz _ _ hDu)), _, rfl, F, _, rfl, .inl (SqL.of hFa), rfl, false, neL (by rw [List.length_map]; omega), iteF ?_⟩
      have sB := sA.trans sz
      refine ⟨_, rfl, _, rfl, c, F, L, m, es, rfl, lay sB, hO, G1.found.same sB, hV, by omega, hkm, fun Hf Df sf nDf hDf => ?_⟩
      have hNf := sf _ _ (sz _ _ hN2)
      refine ⟨_, rfl, N, rfl, ⟨_, SqL.of hNf⟩, fun M2 nM2 => lc_it (walk_list (xs := vs)) (fun j H' => Same Hf H' ∧ Outs H' M2 ((outsM L es j).filter isOut)) ⟨same_upd nM2, [], upd_same, OutsV.nil⟩ (fun j H' _ p => SqL.of (p.1 _ _ hNf)) (fun j x Hx Hy hj p y => ?_) (fun Hw p => ?_)⟩
      · obtain ⟨sx, ws, hM2, hws⟩ := p
        obtain ⟨rfl, hx⟩ := y
        have hv : vs[j]? = some vs[j] := List.getElem?_eq_getElem hj
        obtain ⟨T, ov, e, h1, h2⟩ := hvs2.2 j _ _ hv (nums_at (by omega))
        have ex : V.ref T = x := by rw [← e]; exact Option.some.inj (hv.symm.trans hx)
        subst ex
        have sy := (sz.trans sf).trans sx
        have okj := outM_ok (i := j) hO hV hkm (by omega)
        have ho := h2.keep (Tk.of sy)
        refine ⟨T, _, rfl, SqT.of (sy _ _ h1), rfl, _, _, rfl, _, _, rfl, rfl, ⟨rfl, ⟨_, rfl, Nat.zero_le _, fun Te nTe => ?_⟩⟩⟩
        have kTe := same_upd (o := .tup []) nTe
        refine ⟨_, _, (ho.keep (Tk.of kTe)).dp, .tup (SqT.of upd_same) .nil, out_lay okj, by decide +kernel, isOut (outM L es j), by rw [eqv_out, Bool.not_not], ?_⟩
        have ho3 := ho.keep (Tk.of kTe)
        have hM3 := kTe _ _ hM2
        have hws3 := hws.keep (Tk.of kTe)
        have s3 := sx.trans kTe
        generalize upd Hy Te (.tup []) = H4 at ho3 hM3 hws3 s3 ⊢
        have hwl : ws.length ≤ j := by
          rw [hws.1]
          refine Nat.le_trans (List.length_filter_le ..) ?_
          rw [outsM_len]; exact Nat.le_refl _
        rw [outsM_succ, List.filter_append]
        cases hio : isOut (outM L es j) with
        | false =>
          rw [List.filter_cons_of_neg (by rw [hio]; decide), List.filter_nil, List.append_nil]
          exact iteF ⟨s3, ws, hM3, hws3⟩
        | true =>
          rw [List.filter_cons_of_pos hio, List.filter_nil]
          exact iteT ⟨_, rfl, ws, hM3, small1000 (by omega), Same.off s3 nM2 off_upd, _, upd_same, (hws3.snoc ho3).keep (tk_upd hM3)⟩
      obtain ⟨sw, hM2⟩ := p
      rw [hvl] at hM2
      have okF : ∀ o ∈ (outsM L es es.length).filter isOut, OutOk o := fun o ho => outsM_ok hO hV hkm o (List.mem_filter.mp ho).1
      have sF := shaped_outs okF
      have eF : PyData.eqv (.list (((outsM L es es.length).filter isOut).map outD)) (.list (((outsM L es es.length).filter isOut).map outD)) = true := eqv_outs _
      refine ⟨_, _, (hDf.same sw).dp, hM2.dp, sF, sF, ?_⟩
      rw [eF]
      have sAll := (sB.trans sf).trans sw
      exact q _ (G1.off.sameTrans sAll) ((G1.reel.same sAll).mono (by omega))
end
end K74

set_option Elab.async false
set_option linter.all false
set_option maxRecDepth 100000
set_option maxHeartbeats 8000000
namespace K74
open PySem PySem.Spec PyProof.Rows L2 Gd Rm La Cb Pl
theorem nd_ix {α : Type} {l : List α} (h : l.Nodup) {i j : Nat} {a : α} (hi : l[i]? = some a) (hj : l[j]? = some a) : i = j := by
  obtain ⟨hi', ei⟩ := List.getElem?_eq_some_iff.mp hi
  obtain ⟨hj', ej⟩ := List.getElem?_eq_some_iff.mp hj
  exact (List.getElem_inj h).mp (ei.trans ej.symm)
structure LW (H0 H : Hp) (r c : Addr) (rs : List Addr) (L : List (List Actn)) (m : Nat) : Prop where
  hc : H c = some (.lst (rs.map V.ref))
  hR : Rows H rs L
  nd : rs.Nodup
  hn : ∀ x ∈ rs, H0 x = none ∧ x ≠ c ∧ x ≠ r
  cr : c ≠ r
  ok : LayOk L m
theorem LW.lay {H0 H : Hp} {r c : Addr} {rs : List Addr} {L : List (List Actn)} {m : Nat} (h : LW H0 H r c rs L m) : Lay H c L := ⟨rs, h.hc, h.hR⟩
theorem LW.go {H0 H H' : Hp} {r c : Addr} {rs : List Addr} {L : List (List Actn)} {m k : Nat} (h : LW H0 H r c rs L m) (o : Off r H H') (R : Reel H r k) : LW H0 H' r c rs L m :=
  { h with hc := o _ _ h.hc h.cr, hR := ⟨h.hR.1, fun i x row a b => row_off (h.hR.2 i x row a b) (h.hn x (List.mem_of_getElem? a)).2.2 o (R.tk o)⟩ }
theorem LW.same {H0 H H' : Hp} {r c : Addr} {rs : List Addr} {L : List (List Actn)} {m : Nat} (h : LW H0 H r c rs L m) (o : Same H H') : LW H0 H' r c rs L m := { h with hc := o _ _ h.hc, hR := h.hR.same o }
theorem LW.keep {H0 H H' : Hp} {r c : Addr} {rs : List Addr} {L : List (List Actn)} {m : Nat} (h : LW H0 H r c rs L m) (o : Rm.Off r H H') (t : Tk H H') : LW H0 H' r c rs L m :=
  { h with hc := o _ _ h.hc h.cr, hR := ⟨h.hR.1, fun i x row a b => row_off (h.hR.2 i x row a b) (h.hn x (List.mem_of_getElem? a)).2.2 o t⟩ }
/-- a list of orders -/
def Ords (H : Hp) (Z r : Addr) (b : Int) (len n : Nat) : Prop := Z ≠ r ∧ ∃ zs : List Addr, H Z = some (.lst (zs.map V.ref)) ∧ zs.length = n ∧ ∀ (i : Nat) (z : Addr), zs[i]? = some z → z ≠ r ∧ z ≠ Z ∧ ∃ ks : List Int, H z = some (.lst (ks.map V.int)) ∧ ks.length = len ∧ ∀ k ∈ ks, 0 ≤ k ∧ k < b
theorem Ords.off {H H' : Hp} {Z r : Addr} {b : Int} {len n : Nat} (h : Ords H Z r b len n) (o : Rm.Off r H H') : Ords H' Z r b len n := by
  obtain ⟨zr, zs, h1, h2, h3⟩ := h
  refine ⟨zr, zs, o _ _ h1 zr, h2, fun i z hz => ?_⟩
  obtain ⟨a1, a2, ks, b1, b2⟩ := h3 i z hz
  exact ⟨a1, a2, ks, o _ _ b1 a1, b2⟩
theorem Ords.same {H H' : Hp} {Z r : Addr} {b : Int} {len n : Nat} (h : Ords H Z r b len n) (s : Same H H') : Ords H' Z r b len n := h.off (Off.of s)
theorem Ords.add {H : Hp} {Y r W : Addr} {b : Int} {len n : Nat} {ks : List Int} (h : Ords H Y r b len n) (hW : H W = some (.lst (ks.map V.int))) (Wr : W ≠ r) (WY : W ≠ Y) (hl : ks.length = len) (hk : ∀ k ∈ ks, 0 ≤ k ∧ k < b) :
    ∃ ys, H Y = some (.lst ys) ∧ ys.length = n ∧ Ords (upd H Y (.lst (ys ++ [.ref W]))) Y r b len (n + 1) := by
  obtain ⟨yr, zs, h1, h2, h3⟩ := h
  refine ⟨_, h1, by rw [List.length_map]; exact h2, yr, zs ++ [W], by rw [upd_same, List.map_append]; rfl, by rw [List.length_append, h2]; rfl, fun i z hz => ?_⟩
  rcases Nat.lt_or_ge i zs.length with q | q
  · rw [List.getElem?_append_left q] at hz
    obtain ⟨a1, a2, ks', b1, b2⟩ := h3 i z hz
    exact ⟨a1, a2, ks', by rw [upd_ne a2]; exact b1, b2⟩
  · rw [List.getElem?_append_right q] at hz
    have hz : z = W := by
      have := List.mem_of_getElem? hz
      exact List.mem_singleton.mp this
    rw [hz]
    exact ⟨Wr, WY, ks, by rw [upd_ne WY]; exact hW, hl, hk⟩
section
variable {P : Program} {w : World} {K : PySem.W.Frag} {mg : Str → Option Value} {base : Heap}
def spLaw (K : PySem.W.Frag) : Sp := fun vs H Q _ => ∃ (a : Addr) (ns : List Int), vs = [.ref a] ∧ SqL K H a (ns.map V.int) ∧ ns.length ≤ 63 ∧ ∀ H', Q (.bl true) H'
theorem ok_law {f : Addr} {fd : FuncData} (bt : Bt mg) (a : Fun K "law" "law" s_law f fd) (c__law_reel : Cl P w K mg base 1 "_law_reel" (spReel K)) (c__law_spin : Cl P w K mg base 1 "_law_spin" spSpin)
    (c__law_layout : Cl P w K mg base 4 "_law_layout" spLLay) (c__law_right : Cl P w K mg base 11 "_law_right" spLRight) : FnG P w K mg base 12 f fd ["_law_script"] (spLaw K) := by
  refine fnG a sc_law (fun vs H Q E h => ?_) (fun cdv A outer s H vs Q hg hr h => ?_)
  · obtain ⟨a, e, rfl, _⟩ := h
    rfl
  · obtain ⟨sc, ns, rfl, hS, hl, q⟩ := h
    refine ⟨_, (pss_cons (ps_for PassesOwn.never rfl (pi_range1 (by rfl) bt.m_range (pa_cons (pe_callB (call_max2 rfl) (by rfl) bt.m_max (by decide +kernel) (pa_cons pe_int (pa_cons (pe_callB (call_min2 rfl) (by rfl) bt.m_min (by decide +kernel) (pa_cons pe_int (pa_cons (pe_callB call_len_seq (by rfl) bt.m_len (by decide +kernel) (pa_cons (pv 0) pa_nil)) pa_nil))) pa_nil))) pa_nil)) (pg_name (i := 1) sc_law.nd rfl (Or.inl rfl)) (pss_cons (ps_set (i := 2) sc_law.nd rfl (Or.inr rfl) (pe_cl c__law_reel hg hr (by decide) (by rfl) (pa_cons (pv 0) (pa_cons (pv 1) pa_nil))))
      (pss_cons (ps_for PassesOwn.never rfl (pi_list (pe_lst (pa_cons (pe_tup (pa_cons pe_int (pa_cons pe_int pa_nil))) (pa_cons (pe_tup (pa_cons pe_int (pa_cons pe_int pa_nil))) pa_nil)))) (pg_tup rfl (pgs_cons (pg_name (i := 3) sc_law.nd rfl (Or.inr rfl)) (pgs_cons (pg_name (i := 4) sc_law.nd rfl (Or.inl rfl)) pgs_nil))) (pss_cons (ps_asg (pe_tup (pa_cons (pe_cl c__law_layout hg hr (by decide) (by rfl) (pa_cons (pv 2) (pa_cons (pe_op op_add pe_int (pe_cl c__law_spin hg hr (by decide) (by rfl) (pa_cons (pv 2) (pa_cons pe_int pa_nil)))) (pa_cons (pv 3) (pa_cons pe_int pa_nil))))) (pa_cons (pe_lst (pa_cons (pe_lst pa_nil) pa_nil)) pa_nil))) (pg_tup rfl (pgs_cons (pg_name (i := 5) sc_law.nd rfl (Or.inr rfl)) (pgs_cons (pg_name (i := 6) sc_law.nd rfl (Or.inl rfl)) pgs_nil))))
      (pss_cons (ps_for PassesOwn.never rfl (pi_range1 (by rfl) bt.m_range (pa_cons (pv 4) pa_nil)) (pg_name (i := 7) sc_law.nd rfl (Or.inl rfl)) (pss_cons (ps_set (i := 8) sc_law.nd rfl (Or.inl rfl) (pe_lst pa_nil))
      (pss_cons (ps_for PassesOwn.never rfl (pi_list (pv 6)) (pg_name (i := 9) sc_law.nd rfl (Or.inl rfl)) (pss_one (ps_for PassesOwn.never rfl (pi_range1 (by rfl) bt.m_range (pa_cons (pv 3) pa_nil)) (pg_name (i := 10) sc_law.nd rfl (Or.inl rfl)) (pss_one (ps_expr (pe_bm PySem.F.plainAttrs_list PySem.F.slot_list_append PySem.F.type_list_append mt_append (pv 8) (pa_cons (pe_op op_cat (pv 9) (pe_lst (pa_cons (pv 10) pa_nil))) pa_nil)))))))
      (pss_cons (ps_set (i := 6) sc_law.nd rfl (Or.inl rfl) (pv 8))
      (pss_one (ps_if (pt_cmpR (op_neD hr.units) (pe_lc (own := [("_law_order", 9)]) (g := (gName 9)) (by rfl) sc_law.nd (pi_list (pv 6)) (blkOk_by (N := n_law) (sc := defScope s_law) (by decide +kernel)) (fun _ _ _ _ _ => (pg_name (i := 9) sc_law.nd rfl (Or.inl rfl))) (fun _ _ _ _ _ => (pts_one (pt_not (pt_val (pe_cl c__law_right hg hr (by decide) (by rfl) (pa_cons (pv 2) (pa_cons (pv 5) (pa_cons (pv 9) pa_nil)))))))) (fun _ _ _ _ _ => (pv 9))) (pe_lst pa_nil) (nomark _)) (pss_one (ps_ret pe_bl)) pss_nil))))))
      (pss_one (ps_for PassesOwn.never rfl (pi_range1 (by rfl) bt.m_range (pa_cons pe_int pa_nil)) (pg_name (i := 7) sc_law.nd rfl (Or.inl rfl)) (pss_cons (ps_setLc (i := 9) (own := [("_law_number", 11)]) (g := (gName 11)) (by rfl) sc_law.nd rfl rfl (sw_true rfl rfl rfl (by decide +kernel)) (pi_range1 (by rfl) bt.m_range (pa_cons pe_int pa_nil)) (blkOk_by (N := n_law) (sc := defScope s_law) (by decide +kernel)) (fun _ _ _ _ _ => (pg_name (i := 11) sc_law.nd rfl (Or.inl rfl))) (fun _ _ _ _ _ => pts_nil) (fun _ _ _ _ _ => (pe_cl c__law_spin hg hr (by decide) (by rfl) (pa_cons (pv 2) (pa_cons (pv 3) pa_nil)))))
      (pss_one (ps_if (pt_not (pt_val (pe_cl c__law_right hg hr (by decide) (by rfl) (pa_cons (pv 2) (pa_cons (pv 5) (pa_cons (pe_slice sl_list (pv 9) po_none (po_some (pe_op op_add pe_int (pe_cl c__law_spin hg hr (by decide) (by rfl) (pa_cons (pv 2) (pa_cons pe_int pa_nil)))))) pa_nil)))))) (pss_one (ps_ret pe_bl)) pss_nil))))))))
      (pss_one (ps_if (pt_not (pt_val (pe_cl c__law_right hg hr (by decide) (by rfl) (pa_cons (pv 2) (pa_cons (pv 5) (pa_cons (pe_lst pa_nil) pa_nil)))))) (pss_one (ps_ret pe_bl)) pss_nil)))))
      (pss_one (ps_ret pe_bl))), ?_⟩
    refine ⟨_, rfl, sc, _, rfl, .inl hS, _, _, rfl, ?_⟩
    refine ⟨1, _, rfl, _, rfl, ?_, ?_, ?_⟩
    · (repeat' split) <;> omega
    · (repeat' split) <;> omega
    refine for_it walk_range (fun i σ H' => Same H H' ∧ ∃ y1 y2 y3 y4 y5 y6 y7 y8 y9 y10 y11, σ = [some (.ref sc), y1, y2, y3, y4, y5, y6, y7, y8, y9, y10, y11]) ⟨Same.refl _, _, _, _, _, _, _, _, _, _, _, _, rfl⟩ (fun _ _ _ _ _ => True.intro) (fun i x σ Hx H1 hi p y => ?_) (fun σ H1 p => ?_)
    rotate_left
    · obtain ⟨s1, y1, y2, y3, y4, y5, y6, y7, y8, y9, y10, y11, rfl⟩ := p
      exact q _
    obtain ⟨s1, y1, y2, y3, y4, y5, y6, y7, y8, y9, y10, y11, rfl⟩ := p
    obtain ⟨rfl, hx⟩ := y
    have hx : x = .int (0 + (i : Int)) := hx
    rw [Int.zero_add] at hx
    subst hx
    have hi4 : i < 60 := by
      refine Nat.lt_of_lt_of_le hi ?_
      (repeat' split) <;> omega
    have hS1 : SqL K H1 sc (ns.map V.int) := s1.seq hS
    refine ⟨_, rfl, _, rfl, sc, ns, i, rfl, hS1, hl, by omega, fun r H2 s2 nr R2 => ?_⟩
    refine ⟨(by show 2 ≤ sizeLine; decide), fun P1 n1 => ⟨(by show 2 ≤ sizeLine; decide), fun P2 n2 => ⟨(by show 2 ≤ sizeLine; decide), fun PL nPL => ?_⟩⟩⟩
    have k1 := same_upd (o := .tup [.int 2, .int 5]) n1
    have k2 := same_upd (o := .tup [.int 3, .int 3]) n2
    have k3 := same_upd (o := .lst [.ref P1, .ref P2]) nPL
    have h1 := (k2.trans k3) _ _ (upd_same (H := H2) (a := P1) (o := .tup [.int 2, .int 5]))
    have h2 := k3 _ _ (upd_same (H := upd H2 P1 (.tup [.int 2, .int 5])) (a := P2) (o := .tup [.int 3, .int 3]))
    have h3 := upd_same (H := upd (upd H2 P1 (.tup [.int 2, .int 5])) P2 (.tup [.int 3, .int 3])) (a := PL) (o := .lst [.ref P1, .ref P2])
    have s3 := s2.trans (k1.trans (k2.trans k3))
    have R3 := ((R2.same k1).same k2).same k3
    have o23 : Rm.Off r H2 (upd (upd (upd H2 P1 (.tup [.int 2, .int 5])) P2 (.tup [.int 3, .int 3])) PL (.lst [.ref P1, .ref P2])) := Off.of (k1.trans (k2.trans k3))
    have p1r := R2.new n1
    have p2r := (R2.same k1).new n2
    have plr := ((R2.same k1).same k2).new nPL
    generalize upd (upd (upd H2 P1 (.tup [.int 2, .int 5])) P2 (.tup [.int 3, .int 3])) PL (.lst [.ref P1, .ref P2]) = H3 at h1 h2 h3 s3 R3 o23 ⊢
    clear k1 k2 k3
    have back : ∀ {H'}, Rm.Off r H3 H' → Same H1 H' := fun {H'} o b u hb => o _ _ (s3 _ _ hb) (ne_of_none hb nr)
    refine ⟨PL, rfl, ⟨_, SqL.of h3⟩, for_it (walk_list (xs := [.ref P1, .ref P2])) (fun u σ H' => Rm.Off r H3 H' ∧ Reel H' r (20000 * u) ∧ ∃ y3 y4 y5 y6 y7 y8 y9 y10 y11, σ = [some (.ref sc), some (.int (i : Int)), some (.ref r), y3, y4, y5, y6, y7, y8, y9, y10, y11] ∧ (0 < u → ∃ (c : Addr) (H0 : Hp) (rs : List Addr) (L : List (List Actn)) (m : Nat), y5 = some (.ref c) ∧ LW H0 H' r c rs L m ∧ Low4 L))
      ⟨Off.refl _, R3, _, _, _, _, _, _, _, _, _, rfl, fun h => by omega⟩ (fun u σ H' _ p => SqL.of (p.1 _ _ h3 plr)) (fun u x σ Hx H4 hu p y => ?_) (fun σ H4 p => ?_)⟩
    · obtain ⟨o4, R4, y3, y4, y5, y6, y7, y8, y9, y10, y11, rfl, _⟩ := p
      obtain ⟨rfl, hy⟩ := y
      have hu2 : u < 2 := hu
      obtain ⟨Pu, kk, lg, hPu, hPt, kk1, kk3, lg5⟩ : ∃ (Pu : Addr) (kk lg : Nat), x = .ref Pu ∧ H4 Pu = some (.tup [.int (kk : Int), .int (lg : Int)]) ∧ 1 ≤ kk ∧ kk ≤ 3 ∧ kk ^ lg ≤ 32 ∧ lg ≤ 5 := by
        rcases (by omega : u = 0 ∨ u = 1) with h | h <;> subst h
        · exact ⟨P1, 2, 5, (Option.some.inj hy).symm, o4 _ _ h1 p1r, by decide, by decide, by decide, by decide⟩
        · exact ⟨P2, 3, 3, (Option.some.inj hy).symm, o4 _ _ h2 p2r, by decide, by decide, by decide, by decide⟩
      subst hPu
      obtain ⟨pw, lg5⟩ := lg5
      refine ⟨Pu, _, rfl, SqT.of hPt, rfl, _, _, rfl, _, _, rfl, rfl, ?_⟩
      refine ⟨_, rfl, _, rfl, r, 3, 20000 * u, rfl, by decide, by decide, by show _ < 1000000000; omega, R4, fun d H5 d0 d1 R5 o5 => ⟨_, _, rfl, rfl, _, rfl, ?_⟩⟩
      obtain ⟨dn, rfl⟩ := Int.eq_ofNat_of_zero_le d0
      obtain ⟨_, _, _, hr5, _⟩ := id R5
      refine ⟨r, 20000 * u + 1, 1 + dn, kk, 4, congrArg (fun z => [V.ref r, V.int z, V.int (kk : Int), V.int 4]) (show (1 : Int) + (dn : Int) = ((1 + dn : Nat) : Int) by omega), R5, by show _ < 1000000000; omega, by omega, by omega, by omega, by omega, by decide, by decide, fun H6 c L o6 nc R6 fl hO hLn hLow => ?_⟩
      refine ⟨Nat.zero_le _, fun E0 nE => ⟨(by show 1 ≤ sizeLine; decide), fun Z nZ => ⟨(by show 2 ≤ sizeLine; decide), fun Tt nTt => ⟨Tt, _, rfl, SqT.of upd_same, rfl, _, _, rfl, _, _, rfl, rfl, ?_⟩⟩⟩⟩
      have kE := same_upd (o := .lst []) nE
      have kZ := same_upd (o := .lst [.ref E0]) nZ
      have kT := same_upd (o := .tup [.ref c, .ref Z]) nTt
      have hE0 := (kZ.trans kT) _ _ (upd_same (H := H6) (a := E0) (o := .lst []))
      have hZ0 := kT _ _ (upd_same (H := upd H6 E0 (.lst [])) (a := Z) (o := .lst [.ref E0]))
      obtain ⟨rs, hc, hR, nd, hn⟩ := fl
      have W6 : LW H5 H6 r c rs L kk := ⟨hc, hR, nd, fun x hx => ⟨(hn x hx).1, (hn x hx).2, (ne_of_none hr5 (hn x hx).1).symm⟩, (ne_of_none hr5 nc).symm, hO⟩
      have h4L : Low4 L := hLow
      have kA := kE.trans (kZ.trans kT)
      have W7 := W6.same kA
      have R7 := R6.same kA
      have o7 := ((o4.trans o5).trans o6).sameTrans kA
      have er := R6.new nE
      have zr := (R6.same kE).new nZ
      have EZ : E0 ≠ Z := ne_of_none (upd_same (H := H6) (a := E0) (o := .lst [])) nZ
      have O7 : Ords (upd (upd (upd H6 E0 (.lst [])) Z (.lst [.ref E0])) Tt (.tup [.ref c, .ref Z])) Z r (kk : Int) 0 1 := ⟨zr, [E0], hZ0, rfl, fun i' z' hz' => by
        have e : z' = E0 := List.mem_singleton.mp (List.mem_of_getElem? hz')
        subst e
        exact ⟨er, EZ, [], hE0, rfl, fun k hk => by simp at hk⟩⟩
      refine (fun (Gg : ∀ Hq : Hp, LW H5 Hq r c rs L kk → Reel Hq r (20000 * u + 1 + 10000) → Rm.Off r H3 Hq → Ords Hq Z r (kk : Int) 0 1 → _) => Gg _ W7 R7 o7 O7) (fun H7 W7 R7 o7 O7 => ?_)
      clear kE kZ kT hE0 hZ0 hc hR nd hn W6 kA R6 nE nZ nTt EZ
      refine ⟨_, rfl, (lg : Int), rfl, by omega, by omega, for_it walk_range (fun tt σ H' => ∃ (Z : Addr) (y7 y8 y9 y10 y11 : Option V), σ = [some (.ref sc), some (.int (i : Int)), some (.ref r), some (.int (kk : Int)), some (.int (lg : Int)), some (.ref c), some (.ref Z), y7, y8, y9, y10, y11] ∧ Rm.Off r H7 H' ∧ Reel H' r (20000 * u + 10100 + 1000 * tt) ∧ Ords H' Z r (kk : Int) tt (kk ^ tt))
        ⟨Z, _, _, _, _, _, rfl, Off.refl _, R7.mono (by omega), O7⟩ (fun _ _ _ _ _ => True.intro) (fun tt x σ Hx H8 htt p y => ?_) (fun σ H8 p => ?_)⟩
      · obtain ⟨Z, y7, y8, y9, y10, y11, rfl, o8, R8, O8⟩ := p
        obtain ⟨rfl, _⟩ := y
        have htt : tt < lg := by omega
        have pwt : kk ^ (tt + 1) ≤ 32 := Nat.le_trans (Nat.pow_le_pow_right kk1 htt) pw
        refine ⟨Nat.zero_le _, fun Y nY => ?_⟩
        have kY := same_upd (o := .lst []) nY
        obtain ⟨zr8, zs, hZ8, hzl, hzs⟩ := id O8
        have Yr : Y ≠ r := R8.new nY
        refine ⟨_, rfl, Z, rfl, ⟨_, SqL.of (kY _ _ hZ8)⟩, for_it (walk_list (xs := zs.map V.ref)) (fun a σ H' => ∃ (y7 y9 y10 y11 : Option V), σ = [some (.ref sc), some (.int (i : Int)), some (.ref r), some (.int (kk : Int)), some (.int (lg : Int)), some (.ref c), some (.ref Z), y7, some (.ref Y), y9, y10, y11] ∧ Same H8 H' ∧ Ords H' Y r (kk : Int) (tt + 1) (kk * a))
          ⟨_, _, _, _, rfl, kY, Yr, [], upd_same, rfl, fun i' z' hz' => by simp at hz'⟩ (fun a σ H' _ p => by obtain ⟨_, _, _, _, _, s, _⟩ := p; exact SqL.of (s _ _ hZ8)) (fun a x σ Hx H9 ha p y => ?_) (fun σ H9 p => ?_)⟩
        · obtain ⟨y7, y9, y10, y11, rfl, s9, O9⟩ := p
          obtain ⟨rfl, hy⟩ := y
          have ha' : a < zs.length := by rw [List.length_map] at ha; exact ha
          have hza : zs[a]? = some zs[a] := List.getElem?_eq_getElem ha'
          have ex : V.ref zs[a] = x := Option.some.inj ((get_map_ref hza).symm.trans hy)
          subst ex
          obtain ⟨zar, _, ks, hks, hksl, hkb⟩ := hzs a _ hza
          refine ⟨_, rfl, (kk : Int), rfl, by omega, by omega, for_it walk_range (fun b σ H' => ∃ (y7 y10 y11 : Option V), σ = [some (.ref sc), some (.int (i : Int)), some (.ref r), some (.int (kk : Int)), some (.int (lg : Int)), some (.ref c), some (.ref Z), y7, some (.ref Y), some (.ref zs[a]), y10, y11] ∧ Same H8 H' ∧ Ords H' Y r (kk : Int) (tt + 1) (kk * a + b))
            ⟨_, _, _, rfl, s9, O9⟩ (fun _ _ _ _ _ => True.intro) (fun b x σ Hx H10 hb p y => ?_) (fun σ H10 p => ?_)⟩
          · obtain ⟨y7, y10, y11, rfl, s10, O10⟩ := p
            obtain ⟨rfl, hx⟩ := y
            have hx : x = .int (0 + (b : Int)) := hx
            rw [Int.zero_add] at hx
            subst hx
            have hb : b < kk := by omega
            obtain ⟨_, ys0, hY0, _⟩ := id O10
            refine ⟨_, rfl, .inl ⟨rfl, _, SqL.of hY0⟩, _, rfl, _, rfl, (by show 1 ≤ sizeLine; decide), fun A0 nA => ?_⟩
            have kA := same_upd (o := .lst [.int (b : Int)]) nA
            refine ⟨zs[a], A0, _, _, rfl, rfl, (s10.trans kA) _ _ hks, upd_same, by rw [List.length_map, sizeLine_eq]; show _ + 1 ≤ _; omega, fun W nW => ?_⟩
            have ew : ks.map V.int ++ [.int (b : Int)] = (ks ++ [(b : Int)]).map V.int := by rw [List.map_append]; rfl
            rw [ew]
            have kW := same_upd (o := .lst ((ks ++ [(b : Int)]).map V.int)) nW
            have R11 := ((R8.same s10).same kA)
            have O11 := (O10.same kA).same kW
            have WY : W ≠ Y := (ne_of_none (kA _ _ hY0) nW).symm
            obtain ⟨ys, hY, hyl, O12⟩ := O11.add (ks := ks ++ [(b : Int)]) upd_same (R11.new nW) WY (by rw [List.length_append, hksl]; rfl) (fun k hk => by
              rcases List.mem_append.mp hk with h | h
              · exact hkb k h
              · rw [List.mem_singleton.mp h]; omega)
            have yb : kk * a + b < 1000 := by
              have : kk * a ≤ kk * zs.length := Nat.mul_le_mul_left _ (Nat.le_of_lt ha')
              have e2 : kk * zs.length = kk ^ (tt + 1) := by rw [hzl, Nat.pow_succ, Nat.mul_comm]
              omega
            exact ⟨Y, ys, .ref W, rfl, rfl, hY, small1000 (by omega), _, _, _, rfl, Same.off (s10.trans (kA.trans kW)) nY off_upd, O12⟩
          · obtain ⟨y7, y10, y11, rfl, s10, O10⟩ := p
            refine ⟨_, _, _, _, rfl, s10, ?_⟩
            have e : ((kk : Int)).toNat = kk := Int.toNat_natCast kk
            rw [e] at O10
            rw [Nat.mul_succ]
            exact O10
        · obtain ⟨y7, y9, y10, y11, rfl, s9, O9⟩ := p
          have eO : kk * (zs.map V.ref).length = kk ^ (tt + 1) := by rw [List.length_map, hzl, Nat.pow_succ, Nat.mul_comm]
          rw [eO] at O9
          refine ⟨_, rfl, ?_⟩
          have R9 := R8.same s9
          have W9 := (W7.go o8 R7).same s9
          obtain ⟨yr9, ws, hY9, hwl, hws⟩ := id O9
          obtain ⟨_, _, _, hr9, _⟩ := id R9
          refine ⟨_, rfl, Y, rfl, ⟨_, SqL.of hY9⟩, fun M nM => lc_it (walk_list (xs := ws.map V.ref)) (fun a H' => Rm.Off r H9 H' ∧ Reel H' r (20000 * u + 10100 + 1000 * tt + 20 * a) ∧ H' M = some (.lst [])) ⟨Off.of (same_upd nM), R9.same (same_upd nM), upd_same⟩ (fun a H' _ p => SqL.of (p.1 _ _ hY9 yr9)) (fun a x Hx Hy ha p y => ?_) (fun H10 p => ?_)⟩
          · obtain ⟨oa, Ra, hM⟩ := p
            obtain ⟨rfl, hy⟩ := y
            have ha' : a < ws.length := by rw [List.length_map] at ha; exact ha
            have hwa : ws[a]? = some ws[a] := List.getElem?_eq_getElem ha'
            have ex : V.ref ws[a] = x := Option.some.inj ((get_map_ref hwa).symm.trans hy)
            subst ex
            obtain ⟨war, _, ks, hks, hksl, hkb⟩ := hws a _ hwa
            have Wa := W9.go oa R9
            have Mr : M ≠ r := (ne_of_none hr9 nM).symm
            refine ⟨rfl, ⟨_, rfl, _, rfl, _, rfl, r, c, ws[a], 20000 * u + 10100 + 1000 * tt + 20 * a, L, kk, ks, rfl, Ra, by show _ < 1000000000; omega, Wa.lay, fun H' o t => (Wa.keep o t).lay, hO, h4L, oa _ _ hks war, war, by omega, hkb, fun H' o' R' => ⟨_, rfl, iteF ⟨oa.trans o', R'.mono (by omega), o' _ _ hM Mr⟩⟩⟩⟩
          · obtain ⟨oa, Ra, hM⟩ := p
            refine ⟨Nat.zero_le _, fun Te nTe => ⟨_, _, .lst (SqL.of ((same_upd nTe) _ _ hM)) .nil, .lst (SqL.of upd_same) .nil, by decide +kernel, by decide +kernel, false, rfl, iteF ⟨Y, _, _, _, _, _, rfl, (o8.sameTrans s9).trans (oa.sameTrans (same_upd nTe)), (Ra.same (same_upd nTe)).mono (by rw [List.length_map]; omega), (O9.off oa).same (same_upd nTe)⟩⟩⟩
      · obtain ⟨Z, y7, y8, y9, y10, y11, rfl, o8, R8, O8⟩ := p
        have R8 : Reel H8 r (20000 * u + 16000 + 50 * 0) := R8.mono (by omega)
        have W8 := W7.go o8 R7
        refine ⟨12, rfl, by decide, by decide, for_it walk_range (fun ww σ H' => ∃ (y7 y8 y9 y10 y11 : Option V), σ = [some (.ref sc), some (.int (i : Int)), some (.ref r), some (.int (kk : Int)), some (.int (lg : Int)), some (.ref c), some (.ref Z), y7, y8, y9, y10, y11] ∧ Rm.Off r H8 H' ∧ Reel H' r (20000 * u + 16000 + 50 * ww)) ⟨_, _, _, _, _, rfl, Off.refl _, R8⟩ (fun _ _ _ _ _ => True.intro) (fun ww x σ Hx H9 hww p y => ?_) (fun σ H9 p => ?_)⟩
        · obtain ⟨y7, y8, y9, y10, y11, rfl, o9, R9⟩ := p
          obtain ⟨rfl, _⟩ := y
          have hww : ww < 12 := hww
          obtain ⟨_, _, _, hr9, _⟩ := id R9
          refine ⟨8, rfl, by decide, by decide, fun M nM => lc_it walk_range (fun a H' => Rm.Off r H9 H' ∧ Reel H' r (20000 * u + 16000 + 50 * ww + a) ∧ ∃ ks : List Int, H' M = some (.lst (ks.map V.int)) ∧ ks.length = a ∧ ∀ k ∈ ks, 0 ≤ k ∧ k < (kk : Int)) ⟨Off.of (same_upd nM), R9.same (same_upd nM), [], upd_same, rfl, fun k hk => by simp at hk⟩ (fun _ _ _ _ => True.intro) (fun a x Hx Hy ha p y => ?_) (fun H10 p => ?_)⟩
          · obtain ⟨oa, Ra, ks, hM, hkl, hkb⟩ := p
            obtain ⟨rfl, _⟩ := y
            have ha : a < 8 := ha
            have Mr : M ≠ r := (ne_of_none hr9 nM).symm
            refine ⟨rfl, ⟨_, rfl, _, rfl, r, (kk : Int), 20000 * u + 16000 + 50 * ww + a, rfl, by omega, small40 (by omega), by show _ < 1000000000; omega, Ra, fun d H' d0 d1 R' o' => ?_⟩⟩
            have hM' := o' _ _ hM Mr
            refine ⟨_, hM', by rw [List.length_map]; exact small1000 (by omega), (oa.trans o').new nM, R'.upd Mr, ks ++ [d], by rw [upd_same, List.map_append]; rfl, by rw [List.length_append, hkl]; rfl, fun k hk => ?_⟩
            rcases List.mem_append.mp hk with h | h
            · exact hkb k h
            · rw [List.mem_singleton.mp h]; exact ⟨d0, d1⟩
          · obtain ⟨oa, Ra, ks, hM, hkl, hkb⟩ := p
            have hkl : ks.length = 8 := hkl
            have Mr : M ≠ r := (ne_of_none hr9 nM).symm
            refine ⟨_, rfl, _, rfl, _, rfl, _, rfl, r, 3, 20000 * u + 16000 + 50 * ww + 8, rfl, by decide, by decide, by show _ < 1000000000; omega, Ra, fun d H11 d0 d1 R11 o11 => ⟨_, _, rfl, rfl, 6 + d, rfl, M, _, rfl, SqL.of (o11 _ _ hM Mr), fun T nT => ?_⟩⟩
            obtain ⟨dn, rfl⟩ := Int.eq_ofNat_of_zero_le d0
            have ec : cutV (ks.map V.int) none (some (6 + (dn : Int))) = (ks.take (6 + dn)).map V.int := by
              rw [show (6 : Int) + (dn : Int) = ((6 + dn : Nat) : Int) by omega, cutTake, List.map_take]
            rw [ec]
            have kT := same_upd (o := .lst ((ks.take (6 + dn)).map V.int)) nT
            have oT := (oa.trans o11).sameTrans kT
            have WT := (W8.go o9 R8).go oT R9
            exact ⟨r, c, T, 20000 * u + 16000 + 50 * ww + 9, L, kk, ks.take (6 + dn), rfl, (R11.same kT).mono (by omega), by show _ < 1000000000; omega, WT.lay, fun H' o t => (WT.keep o t).lay, hO, h4L, upd_same, R11.new nT, by rw [List.length_take]; omega, fun k hk => hkb k (List.mem_of_mem_take hk), fun H' o' R' => ⟨_, rfl, iteF ⟨_, _, _, _, _, rfl, (o9.trans oT).trans o', R'.mono (by omega)⟩⟩⟩
        · obtain ⟨y7, y8, y9, y10, y11, rfl, o9, R9⟩ := p
          have oF := (o7.trans o8).trans o9
          refine ⟨oF, R9.mono (by show 20000 * u + 16000 + 50 * 12 ≤ _; omega), _, _, _, _, _, _, _, _, _, rfl, fun _ => ⟨c, H5, rs, L, kk, rfl, W8.go o9 R8, h4L⟩⟩
    · obtain ⟨o4, R4, y3, y4, y5, y6, y7, y8, y9, y10, y11, rfl, hlast⟩ := p
      obtain ⟨c, H0, rs, L, m, rfl, W, h4L⟩ := hlast (by show 0 < 2; decide)
      refine ⟨_, rfl, _, rfl, Nat.zero_le _, fun E0 nE => ?_⟩
      have kE := same_upd (o := .lst []) nE
      have W2 := W.same kE
      have m1 := W.ok.m1
      refine ⟨r, c, E0, 20000 * 2, L, m, [], rfl, R4.same kE, by decide, W2.lay, fun H' o t => (W2.keep o t).lay, W.ok, h4L, upd_same, R4.new nE, by decide, fun k hk => by simp at hk, fun H5 o5 R5 => ⟨_, rfl, iteF ⟨s1.trans (back ((o4.sameTrans kE).trans o5)), _, _, _, _, _, _, _, _, _, _, _, rfl⟩⟩⟩
end
end K74

set_option Elab.async false
set_option linter.all false
set_option maxRecDepth 100000
set_option maxHeartbeats 8000000
namespace K74
open PySem PySem.Spec PyProof.Rows L2 Gd Rm
theorem at_mk {K : PySem.W.Frag} {h : Heap} {mg : Str → Option Value} {x : Str} {st : Stmt} {ps : List Str} {f : Addr} {od an : Option Addr} {sl : Array (Option Value)} {oc kV dc pm cd ct : Value} (X : K.In h) (G : h.Ns mainGlobals mg)
    (a : PySem.W.nsIn K mainGlobals x = some (some (.ref f))) (l : K.lookup f = some ⟨oc, od, .func (PySem.W.fnOf x x (defArgs st) (defBody st) (defScope st) .none kV dc pm an cd ct), sl⟩) (c : PySem.W.codeIn K cd x = true) (k : PySem.W.keepIn K (.ref f) = true)
    (hb : ∀ (kV doc pm : Value) (an : Option Addr) (cdv ct : Value) (us : List Value), us.length = ps.length → bindArgs (PySem.W.fnOf x x (defArgs st) (defBody st) (defScope st) .none kV doc pm an cdv ct) ⟨us, []⟩ = pure (ps.zip us)) : At K mg x st ps :=
  ⟨_, _, fun_mk l c k, PySem.W.mg_of X G a, (fun_mk l c k).binds hb⟩
theorem all_mk {l : PySem.W.OpenLaw} {w : World} {K : PySem.W.Frag} {h : Heap} {mg : Str → Option Value} {fa : Addr} (X : K.In h) (G : h.Ns mainGlobals mg) (hfa : mg "law" = some (.ref fa))
    {f0 : Addr} {od0 an0 : Option Addr} {sl0 : Array (Option Value)} {oc0 kV0 dc0 pm0 cd0 ct0 : Value}
    {f1 : Addr} {od1 an1 : Option Addr} {sl1 : Array (Option Value)} {oc1 kV1 dc1 pm1 cd1 ct1 : Value}
    {f2 : Addr} {od2 an2 : Option Addr} {sl2 : Array (Option Value)} {oc2 kV2 dc2 pm2 cd2 ct2 : Value}
    {f3 : Addr} {od3 an3 : Option Addr} {sl3 : Array (Option Value)} {oc3 kV3 dc3 pm3 cd3 ct3 : Value}
    {f4 : Addr} {od4 an4 : Option Addr} {sl4 : Array (Option Value)} {oc4 kV4 dc4 pm4 cd4 ct4 : Value}
    {f5 : Addr} {od5 an5 : Option Addr} {sl5 : Array (Option Value)} {oc5 kV5 dc5 pm5 cd5 ct5 : Value}
    {f6 : Addr} {od6 an6 : Option Addr} {sl6 : Array (Option Value)} {oc6 kV6 dc6 pm6 cd6 ct6 : Value}
    {f7 : Addr} {od7 an7 : Option Addr} {sl7 : Array (Option Value)} {oc7 kV7 dc7 pm7 cd7 ct7 : Value}
    {f8 : Addr} {od8 an8 : Option Addr} {sl8 : Array (Option Value)} {oc8 kV8 dc8 pm8 cd8 ct8 : Value}
    {f9 : Addr} {od9 an9 : Option Addr} {sl9 : Array (Option Value)} {oc9 kV9 dc9 pm9 cd9 ct9 : Value}
    {f10 : Addr} {od10 an10 : Option Addr} {sl10 : Array (Option Value)} {oc10 kV10 dc10 pm10 cd10 ct10 : Value}
    {f11 : Addr} {od11 an11 : Option Addr} {sl11 : Array (Option Value)} {oc11 kV11 dc11 pm11 cd11 ct11 : Value}
    {f12 : Addr} {od12 an12 : Option Addr} {sl12 : Array (Option Value)} {oc12 kV12 dc12 pm12 cd12 ct12 : Value}
    {f13 : Addr} {od13 an13 : Option Addr} {sl13 : Array (Option Value)} {oc13 kV13 dc13 pm13 cd13 ct13 : Value}
    {f14 : Addr} {od14 an14 : Option Addr} {sl14 : Array (Option Value)} {oc14 kV14 dc14 pm14 cd14 ct14 : Value}
    {f15 : Addr} {od15 an15 : Option Addr} {sl15 : Array (Option Value)} {oc15 kV15 dc15 pm15 cd15 ct15 : Value}
    {f16 : Addr} {od16 an16 : Option Addr} {sl16 : Array (Option Value)} {oc16 kV16 dc16 pm16 cd16 ct16 : Value}
    {T16 : Addr} {td16 : Option Addr} {ts16 : Array (Option Value)} {tn16 : Nat}
    {f17 : Addr} {od17 an17 : Option Addr} {sl17 : Array (Option Value)} {oc17 kV17 dc17 pm17 cd17 ct17 : Value}
    {f18 : Addr} {od18 an18 : Option Addr} {sl18 : Array (Option Value)} {oc18 kV18 dc18 pm18 cd18 ct18 : Value}
    {f19 : Addr} {od19 an19 : Option Addr} {sl19 : Array (Option Value)} {oc19 kV19 dc19 pm19 cd19 ct19 : Value}
    {f20 : Addr} {od20 an20 : Option Addr} {sl20 : Array (Option Value)} {oc20 kV20 dc20 pm20 cd20 ct20 : Value}
    {f21 : Addr} {od21 an21 : Option Addr} {sl21 : Array (Option Value)} {oc21 kV21 dc21 pm21 cd21 ct21 : Value}
    {f22 : Addr} {od22 an22 : Option Addr} {sl22 : Array (Option Value)} {oc22 kV22 dc22 pm22 cd22 ct22 : Value}
    {f23 : Addr} {od23 an23 : Option Addr} {sl23 : Array (Option Value)} {oc23 kV23 dc23 pm23 cd23 ct23 : Value}
    {f24 : Addr} {od24 an24 : Option Addr} {sl24 : Array (Option Value)} {oc24 kV24 dc24 pm24 cd24 ct24 : Value}
    {f25 : Addr} {od25 an25 : Option Addr} {sl25 : Array (Option Value)} {oc25 kV25 dc25 pm25 cd25 ct25 : Value}
    {f26 : Addr} {od26 an26 : Option Addr} {sl26 : Array (Option Value)} {oc26 kV26 dc26 pm26 cd26 ct26 : Value}
    {f27 : Addr} {od27 an27 : Option Addr} {sl27 : Array (Option Value)} {oc27 kV27 dc27 pm27 cd27 ct27 : Value}
    {f28 : Addr} {od28 an28 : Option Addr} {sl28 : Array (Option Value)} {oc28 kV28 dc28 pm28 cd28 ct28 : Value}
    {f29 : Addr} {od29 an29 : Option Addr} {sl29 : Array (Option Value)} {oc29 kV29 dc29 pm29 cd29 ct29 : Value}
    {f30 : Addr} {od30 an30 : Option Addr} {sl30 : Array (Option Value)} {oc30 kV30 dc30 pm30 cd30 ct30 : Value}
    {f31 : Addr} {od31 an31 : Option Addr} {sl31 : Array (Option Value)} {oc31 kV31 dc31 pm31 cd31 ct31 : Value}
    {f32 : Addr} {od32 an32 : Option Addr} {sl32 : Array (Option Value)} {oc32 kV32 dc32 pm32 cd32 ct32 : Value}
    {f33 : Addr} {od33 an33 : Option Addr} {sl33 : Array (Option Value)} {oc33 kV33 dc33 pm33 cd33 ct33 : Value}
    {f34 : Addr} {od34 an34 : Option Addr} {sl34 : Array (Option Value)} {oc34 kV34 dc34 pm34 cd34 ct34 : Value}
    {f35 : Addr} {od35 an35 : Option Addr} {sl35 : Array (Option Value)} {oc35 kV35 dc35 pm35 cd35 ct35 : Value}
    {f36 : Addr} {od36 an36 : Option Addr} {sl36 : Array (Option Value)} {oc36 kV36 dc36 pm36 cd36 ct36 : Value}
    {f37 : Addr} {od37 an37 : Option Addr} {sl37 : Array (Option Value)} {oc37 kV37 dc37 pm37 cd37 ct37 : Value}
    {f38 : Addr} {od38 an38 : Option Addr} {sl38 : Array (Option Value)} {oc38 kV38 dc38 pm38 cd38 ct38 : Value}
    {f39 : Addr} {od39 an39 : Option Addr} {sl39 : Array (Option Value)} {oc39 kV39 dc39 pm39 cd39 ct39 : Value}
    {tk0 : Tok}
    {tk1 : Tok}
    {tk2 : Tok}
    {g3 : Addr} {gs3 : Array (Option Value)} {gn3 : Nat} {tk3_0 tk3_1 tk3_2 : Tok}
    {g4 : Addr} {gs4 : Array (Option Value)} {gn4 : Nat} {tk4_0 tk4_1 tk4_2 : Tok}
    {tk5 : Tok}
    {tk6 : Tok}
    {tk7 : Tok}
    {tk8 : Tok}
    {C : Addr}
    {mf0 : Addr} {mod0 man0 : Option Addr} {msl0 : Array (Option Value)} {moc0 mkV0 mdc0 mpm0 mcd0 mct0 : Value}
    {mf1 : Addr} {mod1 man1 : Option Addr} {msl1 : Array (Option Value)} {moc1 mkV1 mdc1 mpm1 mcd1 mct1 : Value}
    {mf2 : Addr} {mod2 man2 : Option Addr} {msl2 : Array (Option Value)} {moc2 mkV2 mdc2 mpm2 mcd2 mct2 : Value}
    {mf3 : Addr} {mod3 man3 : Option Addr} {msl3 : Array (Option Value)} {moc3 mkV3 mdc3 mpm3 mcd3 mct3 : Value}
    {mf4 : Addr} {mod4 man4 : Option Addr} {msl4 : Array (Option Value)} {moc4 mkV4 mdc4 mpm4 mcd4 mct4 : Value}
    (a0 : PySem.W.nsIn K mainGlobals "is_an_integer" = some (some (.ref f0))) (l0 : K.lookup f0 = some ⟨oc0, od0, .func (PySem.W.fnOf "is_an_integer" "is_an_integer" (defArgs s_is_an_integer) (defBody s_is_an_integer) (defScope s_is_an_integer) .none kV0 dc0 pm0 an0 cd0 ct0), sl0⟩) (c0 : PySem.W.codeIn K cd0 "is_an_integer" = true) (k0 : PySem.W.keepIn K (.ref f0) = true)
    (a1 : PySem.W.nsIn K mainGlobals "is_between" = some (some (.ref f1))) (l1 : K.lookup f1 = some ⟨oc1, od1, .func (PySem.W.fnOf "is_between" "is_between" (defArgs s_is_between) (defBody s_is_between) (defScope s_is_between) .none kV1 dc1 pm1 an1 cd1 ct1), sl1⟩) (c1 : PySem.W.codeIn K cd1 "is_between" = true) (k1 : PySem.W.keepIn K (.ref f1) = true)
    (a2 : PySem.W.nsIn K mainGlobals "is_code" = some (some (.ref f2))) (l2 : K.lookup f2 = some ⟨oc2, od2, .func (PySem.W.fnOf "is_code" "is_code" (defArgs s_is_code) (defBody s_is_code) (defScope s_is_code) .none kV2 dc2 pm2 an2 cd2 ct2), sl2⟩) (c2 : PySem.W.codeIn K cd2 "is_code" = true) (k2 : PySem.W.keepIn K (.ref f2) = true)
    (a3 : PySem.W.nsIn K mainGlobals "is_code_action" = some (some (.ref f3))) (l3 : K.lookup f3 = some ⟨oc3, od3, .func (PySem.W.fnOf "is_code_action" "is_code_action" (defArgs s_is_code_action) (defBody s_is_code_action) (defScope s_is_code_action) .none kV3 dc3 pm3 an3 cd3 ct3), sl3⟩) (c3 : PySem.W.codeIn K cd3 "is_code_action" = true) (k3 : PySem.W.keepIn K (.ref f3) = true)
    (a4 : PySem.W.nsIn K mainGlobals "is_layer_action" = some (some (.ref f4))) (l4 : K.lookup f4 = some ⟨oc4, od4, .func (PySem.W.fnOf "is_layer_action" "is_layer_action" (defArgs s_is_layer_action) (defBody s_is_layer_action) (defScope s_is_layer_action) .none kV4 dc4 pm4 an4 cd4 ct4), sl4⟩) (c4 : PySem.W.codeIn K cd4 "is_layer_action" = true) (k4 : PySem.W.keepIn K (.ref f4) = true)
    (a5 : PySem.W.nsIn K mainGlobals "is_hold" = some (some (.ref f5))) (l5 : K.lookup f5 = some ⟨oc5, od5, .func (PySem.W.fnOf "is_hold" "is_hold" (defArgs s_is_hold) (defBody s_is_hold) (defScope s_is_hold) .none kV5 dc5 pm5 an5 cd5 ct5), sl5⟩) (c5 : PySem.W.codeIn K cd5 "is_hold" = true) (k5 : PySem.W.keepIn K (.ref f5) = true)
    (a6 : PySem.W.nsIn K mainGlobals "is_dual_action" = some (some (.ref f6))) (l6 : K.lookup f6 = some ⟨oc6, od6, .func (PySem.W.fnOf "is_dual_action" "is_dual_action" (defArgs s_is_dual_action) (defBody s_is_dual_action) (defScope s_is_dual_action) .none kV6 dc6 pm6 an6 cd6 ct6), sl6⟩) (c6 : PySem.W.codeIn K cd6 "is_dual_action" = true) (k6 : PySem.W.keepIn K (.ref f6) = true)
    (a7 : PySem.W.nsIn K mainGlobals "can_stand" = some (some (.ref f7))) (l7 : K.lookup f7 = some ⟨oc7, od7, .func (PySem.W.fnOf "can_stand" "can_stand" (defArgs s_can_stand) (defBody s_can_stand) (defScope s_can_stand) .none kV7 dc7 pm7 an7 cd7 ct7), sl7⟩) (c7 : PySem.W.codeIn K cd7 "can_stand" = true) (k7 : PySem.W.keepIn K (.ref f7) = true)
    (a8 : PySem.W.nsIn K mainGlobals "has_layout_form" = some (some (.ref f8))) (l8 : K.lookup f8 = some ⟨oc8, od8, .func (PySem.W.fnOf "has_layout_form" "has_layout_form" (defArgs s_has_layout_form) (defBody s_has_layout_form) (defScope s_has_layout_form) .none kV8 dc8 pm8 an8 cd8 ct8), sl8⟩) (c8 : PySem.W.codeIn K cd8 "has_layout_form" = true) (k8 : PySem.W.keepIn K (.ref f8) = true)
    (a9 : PySem.W.nsIn K mainGlobals "check_layout" = some (some (.ref f9))) (l9 : K.lookup f9 = some ⟨oc9, od9, .func (PySem.W.fnOf "check_layout" "check_layout" (defArgs s_check_layout) (defBody s_check_layout) (defScope s_check_layout) .none kV9 dc9 pm9 an9 cd9 ct9), sl9⟩) (c9 : PySem.W.codeIn K cd9 "check_layout" = true) (k9 : PySem.W.keepIn K (.ref f9) = true)
    (a10 : PySem.W.nsIn K mainGlobals "is_step" = some (some (.ref f10))) (l10 : K.lookup f10 = some ⟨oc10, od10, .func (PySem.W.fnOf "is_step" "is_step" (defArgs s_is_step) (defBody s_is_step) (defScope s_is_step) .none kV10 dc10 pm10 an10 cd10 ct10), sl10⟩) (c10 : PySem.W.codeIn K cd10 "is_step" = true) (k10 : PySem.W.keepIn K (.ref f10) = true)
    (a11 : PySem.W.nsIn K mainGlobals "is_event" = some (some (.ref f11))) (l11 : K.lookup f11 = some ⟨oc11, od11, .func (PySem.W.fnOf "is_event" "is_event" (defArgs s_is_event) (defBody s_is_event) (defScope s_is_event) .none kV11 dc11 pm11 an11 cd11 ct11), sl11⟩) (c11 : PySem.W.codeIn K cd11 "is_event" = true) (k11 : PySem.W.keepIn K (.ref f11) = true)
    (a12 : PySem.W.nsIn K mainGlobals "is_short_list" = some (some (.ref f12))) (l12 : K.lookup f12 = some ⟨oc12, od12, .func (PySem.W.fnOf "is_short_list" "is_short_list" (defArgs s_is_short_list) (defBody s_is_short_list) (defScope s_is_short_list) .none kV12 dc12 pm12 an12 cd12 ct12), sl12⟩) (c12 : PySem.W.codeIn K cd12 "is_short_list" = true) (k12 : PySem.W.keepIn K (.ref f12) = true)
    (a13 : PySem.W.nsIn K mainGlobals "takes_turn" = some (some (.ref f13))) (l13 : K.lookup f13 = some ⟨oc13, od13, .func (PySem.W.fnOf "takes_turn" "takes_turn" (defArgs s_takes_turn) (defBody s_takes_turn) (defScope s_takes_turn) .none kV13 dc13 pm13 an13 cd13 ct13), sl13⟩) (c13 : PySem.W.codeIn K cd13 "takes_turn" = true) (k13 : PySem.W.keepIn K (.ref f13) = true)
    (a14 : PySem.W.nsIn K mainGlobals "is_below" = some (some (.ref f14))) (l14 : K.lookup f14 = some ⟨oc14, od14, .func (PySem.W.fnOf "is_below" "is_below" (defArgs s_is_below) (defBody s_is_below) (defScope s_is_below) .none kV14 dc14 pm14 an14 cd14 ct14), sl14⟩) (c14 : PySem.W.codeIn K cd14 "is_below" = true) (k14 : PySem.W.keepIn K (.ref f14) = true)
    (a15 : PySem.W.nsIn K mainGlobals "can_follow" = some (some (.ref f15))) (l15 : K.lookup f15 = some ⟨oc15, od15, .func (PySem.W.fnOf "can_follow" "can_follow" (defArgs s_can_follow) (defBody s_can_follow) (defScope s_can_follow) .none kV15 dc15 pm15 an15 cd15 ct15), sl15⟩) (c15 : PySem.W.codeIn K cd15 "can_follow" = true) (k15 : PySem.W.keepIn K (.ref f15) = true)
    (a16 : PySem.W.nsIn K mainGlobals "check_record" = some (some (.ref f16))) (l16 : K.lookup f16 = some ⟨oc16, od16, .func (PySem.W.fnOf "check_record" "check_record" (defArgs s_check_record) (defBody s_check_record) (defScope s_check_record) (.ref T16) kV16 dc16 pm16 an16 cd16 ct16), sl16⟩) (c16 : PySem.W.codeIn K cd16 "check_record" = true) (k16 : PySem.W.keepIn K (.ref f16) = true) (u_16 : K.lookup T16 = some ⟨.type "tuple", td16, .seq #[.none] tn16, ts16⟩)
    (a17 : PySem.W.nsIn K mainGlobals "is_dual" = some (some (.ref f17))) (l17 : K.lookup f17 = some ⟨oc17, od17, .func (PySem.W.fnOf "is_dual" "is_dual" (defArgs s_is_dual) (defBody s_is_dual) (defScope s_is_dual) .none kV17 dc17 pm17 an17 cd17 ct17), sl17⟩) (c17 : PySem.W.codeIn K cd17 "is_dual" = true) (k17 : PySem.W.keepIn K (.ref f17) = true)
    (a18 : PySem.W.nsIn K mainGlobals "deciding_event" = some (some (.ref f18))) (l18 : K.lookup f18 = some ⟨oc18, od18, .func (PySem.W.fnOf "deciding_event" "deciding_event" (defArgs s_deciding_event) (defBody s_deciding_event) (defScope s_deciding_event) .none kV18 dc18 pm18 an18 cd18 ct18), sl18⟩) (c18 : PySem.W.codeIn K cd18 "deciding_event" = true) (k18 : PySem.W.keepIn K (.ref f18) = true)
    (a19 : PySem.W.nsIn K mainGlobals "sure_event" = some (some (.ref f19))) (l19 : K.lookup f19 = some ⟨oc19, od19, .func (PySem.W.fnOf "sure_event" "sure_event" (defArgs s_sure_event) (defBody s_sure_event) (defScope s_sure_event) .none kV19 dc19 pm19 an19 cd19 ct19), sl19⟩) (c19 : PySem.W.codeIn K cd19 "sure_event" = true) (k19 : PySem.W.keepIn K (.ref f19) = true)
    (a20 : PySem.W.nsIn K mainGlobals "dual_kind" = some (some (.ref f20))) (l20 : K.lookup f20 = some ⟨oc20, od20, .func (PySem.W.fnOf "dual_kind" "dual_kind" (defArgs s_dual_kind) (defBody s_dual_kind) (defScope s_dual_kind) .none kV20 dc20 pm20 an20 cd20 ct20), sl20⟩) (c20 : PySem.W.codeIn K cd20 "dual_kind" = true) (k20 : PySem.W.keepIn K (.ref f20) = true)
    (a21 : PySem.W.nsIn K mainGlobals "what_is_done" = some (some (.ref f21))) (l21 : K.lookup f21 = some ⟨oc21, od21, .func (PySem.W.fnOf "what_is_done" "what_is_done" (defArgs s_what_is_done) (defBody s_what_is_done) (defScope s_what_is_done) .none kV21 dc21 pm21 an21 cd21 ct21), sl21⟩) (c21 : PySem.W.codeIn K cd21 "what_is_done" = true) (k21 : PySem.W.keepIn K (.ref f21) = true)
    (a22 : PySem.W.nsIn K mainGlobals "play" = some (some (.ref f22))) (l22 : K.lookup f22 = some ⟨oc22, od22, .func (PySem.W.fnOf "play" "play" (defArgs s_play) (defBody s_play) (defScope s_play) .none kV22 dc22 pm22 an22 cd22 ct22), sl22⟩) (c22 : PySem.W.codeIn K cd22 "play" = true) (k22 : PySem.W.keepIn K (.ref f22) = true)
    (a23 : PySem.W.nsIn K mainGlobals "check_playable" = some (some (.ref f23))) (l23 : K.lookup f23 = some ⟨oc23, od23, .func (PySem.W.fnOf "check_playable" "check_playable" (defArgs s_check_playable) (defBody s_check_playable) (defScope s_check_playable) .none kV23 dc23 pm23 an23 cd23 ct23), sl23⟩) (c23 : PySem.W.codeIn K cd23 "check_playable" = true) (k23 : PySem.W.keepIn K (.ref f23) = true)
    (a24 : PySem.W.nsIn K mainGlobals "outputs_alone" = some (some (.ref f24))) (l24 : K.lookup f24 = some ⟨oc24, od24, .func (PySem.W.fnOf "outputs_alone" "outputs_alone" (defArgs s_outputs_alone) (defBody s_outputs_alone) (defScope s_outputs_alone) .none kV24 dc24 pm24 an24 cd24 ct24), sl24⟩) (c24 : PySem.W.codeIn K cd24 "outputs_alone" = true) (k24 : PySem.W.keepIn K (.ref f24) = true)
    (a25 : PySem.W.nsIn K mainGlobals "played" = some (some (.ref f25))) (l25 : K.lookup f25 = some ⟨oc25, od25, .func (PySem.W.fnOf "played" "played" (defArgs s_played) (defBody s_played) (defScope s_played) .none kV25 dc25 pm25 an25 cd25 ct25), sl25⟩) (c25 : PySem.W.codeIn K cd25 "played" = true) (k25 : PySem.W.keepIn K (.ref f25) = true)
    (a26 : PySem.W.nsIn K mainGlobals "flat" = some (some (.ref f26))) (l26 : K.lookup f26 = some ⟨oc26, od26, .func (PySem.W.fnOf "flat" "flat" (defArgs s_flat) (defBody s_flat) (defScope s_flat) .none kV26 dc26 pm26 an26 cd26 ct26), sl26⟩) (c26 : PySem.W.codeIn K cd26 "flat" = true) (k26 : PySem.W.keepIn K (.ref f26) = true)
    (a27 : PySem.W.nsIn K mainGlobals "_law_reel" = some (some (.ref f27))) (l27 : K.lookup f27 = some ⟨oc27, od27, .func (PySem.W.fnOf "_law_reel" "_law_reel" (defArgs s__law_reel) (defBody s__law_reel) (defScope s__law_reel) .none kV27 dc27 pm27 an27 cd27 ct27), sl27⟩) (c27 : PySem.W.codeIn K cd27 "_law_reel" = true) (k27 : PySem.W.keepIn K (.ref f27) = true)
    (a28 : PySem.W.nsIn K mainGlobals "_law_spin" = some (some (.ref f28))) (l28 : K.lookup f28 = some ⟨oc28, od28, .func (PySem.W.fnOf "_law_spin" "_law_spin" (defArgs s__law_spin) (defBody s__law_spin) (defScope s__law_spin) .none kV28 dc28 pm28 an28 cd28 ct28), sl28⟩) (c28 : PySem.W.codeIn K cd28 "_law_spin" = true) (k28 : PySem.W.keepIn K (.ref f28) = true)
    (a29 : PySem.W.nsIn K mainGlobals "_law_code" = some (some (.ref f29))) (l29 : K.lookup f29 = some ⟨oc29, od29, .func (PySem.W.fnOf "_law_code" "_law_code" (defArgs s__law_code) (defBody s__law_code) (defScope s__law_code) .none kV29 dc29 pm29 an29 cd29 ct29), sl29⟩) (c29 : PySem.W.codeIn K cd29 "_law_code" = true) (k29 : PySem.W.keepIn K (.ref f29) = true)
    (a30 : PySem.W.nsIn K mainGlobals "_law_action" = some (some (.ref f30))) (l30 : K.lookup f30 = some ⟨oc30, od30, .func (PySem.W.fnOf "_law_action" "_law_action" (defArgs s__law_action) (defBody s__law_action) (defScope s__law_action) .none kV30 dc30 pm30 an30 cd30 ct30), sl30⟩) (c30 : PySem.W.codeIn K cd30 "_law_action" = true) (k30 : PySem.W.keepIn K (.ref f30) = true)
    (a31 : PySem.W.nsIn K mainGlobals "_law_layout" = some (some (.ref f31))) (l31 : K.lookup f31 = some ⟨oc31, od31, .func (PySem.W.fnOf "_law_layout" "_law_layout" (defArgs s__law_layout) (defBody s__law_layout) (defScope s__law_layout) .none kV31 dc31 pm31 an31 cd31 ct31), sl31⟩) (c31 : PySem.W.codeIn K cd31 "_law_layout" = true) (k31 : PySem.W.keepIn K (.ref f31) = true)
    (a32 : PySem.W.nsIn K mainGlobals "_law_is_on" = some (some (.ref f32))) (l32 : K.lookup f32 = some ⟨oc32, od32, .func (PySem.W.fnOf "_law_is_on" "_law_is_on" (defArgs s__law_is_on) (defBody s__law_is_on) (defScope s__law_is_on) .none kV32 dc32 pm32 an32 cd32 ct32), sl32⟩) (c32 : PySem.W.codeIn K cd32 "_law_is_on" = true) (k32 : PySem.W.keepIn K (.ref f32) = true)
    (a33 : PySem.W.nsIn K mainGlobals "_law_look" = some (some (.ref f33))) (l33 : K.lookup f33 = some ⟨oc33, od33, .func (PySem.W.fnOf "_law_look" "_law_look" (defArgs s__law_look) (defBody s__law_look) (defScope s__law_look) .none kV33 dc33 pm33 an33 cd33 ct33), sl33⟩) (c33 : PySem.W.codeIn K cd33 "_law_look" = true) (k33 : PySem.W.keepIn K (.ref f33) = true)
    (a34 : PySem.W.nsIn K mainGlobals "_law_press" = some (some (.ref f34))) (l34 : K.lookup f34 = some ⟨oc34, od34, .func (PySem.W.fnOf "_law_press" "_law_press" (defArgs s__law_press) (defBody s__law_press) (defScope s__law_press) .none kV34 dc34 pm34 an34 cd34 ct34), sl34⟩) (c34 : PySem.W.codeIn K cd34 "_law_press" = true) (k34 : PySem.W.keepIn K (.ref f34) = true)
    (a35 : PySem.W.nsIn K mainGlobals "_law_first_known" = some (some (.ref f35))) (l35 : K.lookup f35 = some ⟨oc35, od35, .func (PySem.W.fnOf "_law_first_known" "_law_first_known" (defArgs s__law_first_known) (defBody s__law_first_known) (defScope s__law_first_known) .none kV35 dc35 pm35 an35 cd35 ct35), sl35⟩) (c35 : PySem.W.codeIn K cd35 "_law_first_known" = true) (k35 : PySem.W.keepIn K (.ref f35) = true)
    (a36 : PySem.W.nsIn K mainGlobals "_law_worked" = some (some (.ref f36))) (l36 : K.lookup f36 = some ⟨oc36, od36, .func (PySem.W.fnOf "_law_worked" "_law_worked" (defArgs s__law_worked) (defBody s__law_worked) (defScope s__law_worked) .none kV36 dc36 pm36 an36 cd36 ct36), sl36⟩) (c36 : PySem.W.codeIn K cd36 "_law_worked" = true) (k36 : PySem.W.keepIn K (.ref f36) = true)
    (a37 : PySem.W.nsIn K mainGlobals "_law_machine" = some (some (.ref f37))) (l37 : K.lookup f37 = some ⟨oc37, od37, .func (PySem.W.fnOf "_law_machine" "_law_machine" (defArgs s__law_machine) (defBody s__law_machine) (defScope s__law_machine) .none kV37 dc37 pm37 an37 cd37 ct37), sl37⟩) (c37 : PySem.W.codeIn K cd37 "_law_machine" = true) (k37 : PySem.W.keepIn K (.ref f37) = true)
    (a38 : PySem.W.nsIn K mainGlobals "_law_right" = some (some (.ref f38))) (l38 : K.lookup f38 = some ⟨oc38, od38, .func (PySem.W.fnOf "_law_right" "_law_right" (defArgs s__law_right) (defBody s__law_right) (defScope s__law_right) .none kV38 dc38 pm38 an38 cd38 ct38), sl38⟩) (c38 : PySem.W.codeIn K cd38 "_law_right" = true) (k38 : PySem.W.keepIn K (.ref f38) = true)
    (a39 : PySem.W.nsIn K mainGlobals "law" = some (some (.ref f39))) (l39 : K.lookup f39 = some ⟨oc39, od39, .func (PySem.W.fnOf "law" "law" (defArgs s_law) (defBody s_law) (defScope s_law) .none kV39 dc39 pm39 an39 cd39 ct39), sl39⟩) (c39 : PySem.W.codeIn K cd39 "law" = true) (k39 : PySem.W.keepIn K (.ref f39) = true)
    (v0 : PySem.W.nsIn K mainGlobals "MOST_SIGNS" = some (some (.int 8 tk0)))
    (v1 : PySem.W.nsIn K mainGlobals "CODE_SIGNS" = some (some (.str "abcdefghijklmnopqrstuvwxyz0123456789" tk1)))
    (v2 : PySem.W.nsIn K mainGlobals "GREATEST_TIME" = some (some (.int 1000000000 tk2)))
    (v3 : PySem.W.nsIn K mainGlobals "RULES" = some (some (.ref g3))) (u3 : K.lookup g3 = some ⟨.type "tuple", none, .seq #[.str "time" tk3_0, .str "other" tk3_1, .str "within" tk3_2] gn3, gs3⟩)
    (v4 : PySem.W.nsIn K mainGlobals "LAYER_WORDS" = some (some (.ref g4))) (u4 : K.lookup g4 = some ⟨.type "tuple", none, .seq #[.str "layer" tk4_0, .str "lock" tk4_1, .str "once" tk4_2] gn4, gs4⟩)
    (v5 : PySem.W.nsIn K mainGlobals "MOST_LAYERS" = some (some (.int 6 tk5)))
    (v6 : PySem.W.nsIn K mainGlobals "MOST_KEYS" = some (some (.int 16 tk6)))
    (v7 : PySem.W.nsIn K mainGlobals "MOST_EVENTS" = some (some (.int 400 tk7)))
    (v8 : PySem.W.nsIn K mainGlobals "NO_LAYER" = some (some (.int 0 tk8)))
    (z0 : PySem.W.nsIn K mainGlobals "len" = some none)
    (z1 : PySem.W.nsIn K mainGlobals "abs" = some none)
    (z2 : PySem.W.nsIn K mainGlobals "max" = some none)
    (z3 : PySem.W.nsIn K mainGlobals "min" = some none)
    (z4 : PySem.W.nsIn K mainGlobals "sum" = some none)
    (z5 : PySem.W.nsIn K mainGlobals "repr" = some none)
    (z6 : PySem.W.nsIn K mainGlobals "isinstance" = some none)
    (z7 : PySem.W.nsIn K mainGlobals "all" = some none)
    (z8 : PySem.W.nsIn K mainGlobals "list" = some none)
    (z9 : PySem.W.nsIn K mainGlobals "tuple" = some none)
    (z10 : PySem.W.nsIn K mainGlobals "int" = some none)
    (z11 : PySem.W.nsIn K mainGlobals "bool" = some none)
    (z12 : PySem.W.nsIn K mainGlobals "str" = some none)
    (z13 : PySem.W.nsIn K mainGlobals "range" = some none)
    (z14 : PySem.W.nsIn K mainGlobals "enumerate" = some none)
    (z15 : PySem.W.nsIn K mainGlobals "sorted" = some none)
    (z16 : PySem.W.nsIn K mainGlobals "zip" = some none)
    (z17 : PySem.W.nsIn K mainGlobals "set" = some none)
    (aC : PySem.W.nsIn K mainGlobals "Player" = some (some (.ref C)))
    (ma0 : PySem.W.findIn K (.ref C) "__init__" = some (some (.ref mf0))) (mi0 : PySem.W.isFn K (.ref mf0) = true) (ml0 : K.lookup mf0 = some ⟨moc0, mod0, .func (PySem.W.fnOf "__init__" "Player.__init__" (defArgs s_Player_init) (defBody s_Player_init) (defScope s_Player_init) .none mkV0 mdc0 mpm0 man0 mcd0 mct0), msl0⟩) (mc0 : PySem.W.codeIn K mcd0 "Player.__init__" = true) (mk0 : PySem.W.keepIn K (.ref mf0) = true)
    (ma1 : PySem.W.findIn K (.ref C) "is_on" = some (some (.ref mf1))) (mi1 : PySem.W.isFn K (.ref mf1) = true) (ml1 : K.lookup mf1 = some ⟨moc1, mod1, .func (PySem.W.fnOf "is_on" "Player.is_on" (defArgs s_is_on) (defBody s_is_on) (defScope s_is_on) .none mkV1 mdc1 mpm1 man1 mcd1 mct1), msl1⟩) (mc1 : PySem.W.codeIn K mcd1 "Player.is_on" = true) (mk1 : PySem.W.keepIn K (.ref mf1) = true)
    (ma2 : PySem.W.findIn K (.ref C) "taken" = some (some (.ref mf2))) (mi2 : PySem.W.isFn K (.ref mf2) = true) (ml2 : K.lookup mf2 = some ⟨moc2, mod2, .func (PySem.W.fnOf "taken" "Player.taken" (defArgs s_taken) (defBody s_taken) (defScope s_taken) .none mkV2 mdc2 mpm2 man2 mcd2 mct2), msl2⟩) (mc2 : PySem.W.codeIn K mcd2 "Player.taken" = true) (mk2 : PySem.W.keepIn K (.ref mf2) = true)
    (ma3 : PySem.W.findIn K (.ref C) "press" = some (some (.ref mf3))) (mi3 : PySem.W.isFn K (.ref mf3) = true) (ml3 : K.lookup mf3 = some ⟨moc3, mod3, .func (PySem.W.fnOf "press" "Player.press" (defArgs s_press) (defBody s_press) (defScope s_press) .none mkV3 mdc3 mpm3 man3 mcd3 mct3), msl3⟩) (mc3 : PySem.W.codeIn K mcd3 "Player.press" = true) (mk3 : PySem.W.keepIn K (.ref mf3) = true)
    (ma4 : PySem.W.findIn K (.ref C) "release" = some (some (.ref mf4))) (mi4 : PySem.W.isFn K (.ref mf4) = true) (ml4 : K.lookup mf4 = some ⟨moc4, mod4, .func (PySem.W.fnOf "release" "Player.release" (defArgs s_release) (defBody s_release) (defScope s_release) .none mkV4 mdc4 mpm4 man4 mcd4 mct4), msl4⟩) (mc4 : PySem.W.codeIn K mcd4 "Player.release" = true) (mk4 : PySem.W.keepIn K (.ref mf4) = true)
    (pg : PySem.W.plainGet K C Str.empty = true) (hd : PySem.W.hasDictIn K C = true) (po : PySem.W.plainOver K C = true) (sa : PySem.W.findIn K (.ref C) "__setattr__" = some (some (.builtin "object.__setattr__"))) (mkC : PySem.W.makesIn K C = true) (kc : PySem.W.keepIn K (.ref C) = true)
    (nn0 : PySem.W.findIn K (.ref C) "layout" = some none)
    (nn1 : PySem.W.findIn K (.ref C) "locked" = some none)
    (nn2 : PySem.W.findIn K (.ref C) "once" = some none)
    (nn3 : PySem.W.findIn K (.ref C) "bound" = some none)
    (nn4 : PySem.W.findIn K (.ref C) "pressed" = some none) :
    ∃ fd : FuncData, (∀ (s : Shared) (u : Value), BindsTo s fd ⟨[u], []⟩ [("_law_script", u)]) ∧ ∀ base : Heap, K.In base → base.Ns mainGlobals mg → FnG l.prog w K mg base 12 fa fd ["_law_script"] (spLaw K) := by
  have e := hfa.symm.trans (PySem.W.mg_of X G a39)
  cases e
  have A_is_an_integer : At K mg "is_an_integer" s_is_an_integer ["value"] := at_mk X G a0 l0 c0 k0 fun _ _ _ _ _ _ us hl => match us, hl with | [_], _ => rfl
  have A_is_between : At K mg "is_between" s_is_between ["value", "low", "high"] := at_mk X G a1 l1 c1 k1 fun _ _ _ _ _ _ us hl => match us, hl with | [_, _, _], _ => rfl
  have A_is_code : At K mg "is_code" s_is_code ["value"] := at_mk X G a2 l2 c2 k2 fun _ _ _ _ _ _ us hl => match us, hl with | [_], _ => rfl
  have A_is_code_action : At K mg "is_code_action" s_is_code_action ["action"] := at_mk X G a3 l3 c3 k3 fun _ _ _ _ _ _ us hl => match us, hl with | [_], _ => rfl
  have A_is_layer_action : At K mg "is_layer_action" s_is_layer_action ["action", "words", "layer_count"] := at_mk X G a4 l4 c4 k4 fun _ _ _ _ _ _ us hl => match us, hl with | [_, _, _], _ => rfl
  have A_is_hold : At K mg "is_hold" s_is_hold ["value", "layer_count"] := at_mk X G a5 l5 c5 k5 fun _ _ _ _ _ _ us hl => match us, hl with | [_, _], _ => rfl
  have A_is_dual_action : At K mg "is_dual_action" s_is_dual_action ["action", "layer_count"] := at_mk X G a6 l6 c6 k6 fun _ _ _ _ _ _ us hl => match us, hl with | [_, _], _ => rfl
  have A_can_stand : At K mg "can_stand" s_can_stand ["action", "layer", "layer_count"] := at_mk X G a7 l7 c7 k7 fun _ _ _ _ _ _ us hl => match us, hl with | [_, _, _], _ => rfl
  have A_has_layout_form : At K mg "has_layout_form" s_has_layout_form ["value"] := at_mk X G a8 l8 c8 k8 fun _ _ _ _ _ _ us hl => match us, hl with | [_], _ => rfl
  have A_check_layout : At K mg "check_layout" s_check_layout ["value"] := at_mk X G a9 l9 c9 k9 fun _ _ _ _ _ _ us hl => match us, hl with | [_], _ => rfl
  have A_is_step : At K mg "is_step" s_is_step ["value"] := at_mk X G a10 l10 c10 k10 fun _ _ _ _ _ _ us hl => match us, hl with | [_], _ => rfl
  have A_is_event : At K mg "is_event" s_is_event ["value"] := at_mk X G a11 l11 c11 k11 fun _ _ _ _ _ _ us hl => match us, hl with | [_], _ => rfl
  have A_is_short_list : At K mg "is_short_list" s_is_short_list ["value"] := at_mk X G a12 l12 c12 k12 fun _ _ _ _ _ _ us hl => match us, hl with | [_], _ => rfl
  have A_takes_turn : At K mg "takes_turn" s_takes_turn ["held", "key", "way"] := at_mk X G a13 l13 c13 k13 fun _ _ _ _ _ _ us hl => match us, hl with | [_, _, _], _ => rfl
  have A_is_below : At K mg "is_below" s_is_below ["key", "many"] := at_mk X G a14 l14 c14 k14 fun _ _ _ _ _ _ us hl => match us, hl with | [_, _], _ => rfl
  have A_can_follow : At K mg "can_follow" s_can_follow ["event", "last", "held"] := at_mk X G a15 l15 c15 k15 fun _ _ _ _ _ _ us hl => match us, hl with | [_, _, _], _ => rfl
  have A_check_record : AtX K mg "check_record" s_check_record ["value", "many"] [] := atX_all X G a16 l16 c16 k16 u_16 fun _ _ _ _ _ _ _ us its hl hi => match us, its, hl, hi with | [_, _], [_], _, _ => ⟨_, rfl, rfl⟩
  have A_is_dual : At K mg "is_dual" s_is_dual ["action"] := at_mk X G a17 l17 c17 k17 fun _ _ _ _ _ _ us hl => match us, hl with | [_], _ => rfl
  have A_deciding_event : At K mg "deciding_event" s_deciding_event ["record", "at", "rule"] := at_mk X G a18 l18 c18 k18 fun _ _ _ _ _ _ us hl => match us, hl with | [_, _, _], _ => rfl
  have A_sure_event : At K mg "sure_event" s_sure_event ["record", "at", "dual"] := at_mk X G a19 l19 c19 k19 fun _ _ _ _ _ _ us hl => match us, hl with | [_, _, _], _ => rfl
  have A_dual_kind : At K mg "dual_kind" s_dual_kind ["record", "at", "sure"] := at_mk X G a20 l20 c20 k20 fun _ _ _ _ _ _ us hl => match us, hl with | [_, _, _], _ => rfl
  have A_what_is_done : At K mg "what_is_done" s_what_is_done ["action", "kind"] := at_mk X G a21 l21 c21 k21 fun _ _ _ _ _ _ us hl => match us, hl with | [_, _], _ => rfl
  have A_play : At K mg "play" s_play ["layout", "record"] := at_mk X G a22 l22 c22 k22 fun _ _ _ _ _ _ us hl => match us, hl with | [_, _], _ => rfl
  have A_check_playable : At K mg "check_playable" s_check_playable ["layout", "record"] := at_mk X G a23 l23 c23 k23 fun _ _ _ _ _ _ us hl => match us, hl with | [_, _], _ => rfl
  have A_outputs_alone : At K mg "outputs_alone" s_outputs_alone ["result"] := at_mk X G a24 l24 c24 k24 fun _ _ _ _ _ _ us hl => match us, hl with | [_], _ => rfl
  have A_played : At K mg "played" s_played ["layout", "record"] := at_mk X G a25 l25 c25 k25 fun _ _ _ _ _ _ us hl => match us, hl with | [_, _], _ => rfl
  have A_flat : At K mg "flat" s_flat ["layout", "record"] := at_mk X G a26 l26 c26 k26 fun _ _ _ _ _ _ us hl => match us, hl with | [_, _], _ => rfl
  have A__law_reel : At K mg "_law_reel" s__law_reel ["_law_script", "_law_index"] := at_mk X G a27 l27 c27 k27 fun _ _ _ _ _ _ us hl => match us, hl with | [_, _], _ => rfl
  have A__law_spin : At K mg "_law_spin" s__law_spin ["_law_reel_here", "_law_size"] := at_mk X G a28 l28 c28 k28 fun _ _ _ _ _ _ us hl => match us, hl with | [_, _], _ => rfl
  have A__law_code : At K mg "_law_code" s__law_code ["_law_reel_here"] := at_mk X G a29 l29 c29 k29 fun _ _ _ _ _ _ us hl => match us, hl with | [_], _ => rfl
  have A__law_action : At K mg "_law_action" s__law_action ["_law_reel_here", "_law_layer", "_law_layers", "_law_longest"] := at_mk X G a30 l30 c30 k30 fun _ _ _ _ _ _ us hl => match us, hl with | [_, _, _, _], _ => rfl
  have A__law_layout : At K mg "_law_layout" s__law_layout ["_law_reel_here", "_law_layers", "_law_keys", "_law_longest"] := at_mk X G a31 l31 c31 k31 fun _ _ _ _ _ _ us hl => match us, hl with | [_, _, _, _], _ => rfl
  have A__law_is_on : At K mg "_law_is_on" s__law_is_on ["_law_state", "_law_layer"] := at_mk X G a32 l32 c32 k32 fun _ _ _ _ _ _ us hl => match us, hl with | [_, _], _ => rfl
  have A__law_look : At K mg "_law_look" s__law_look ["_law_layout_here", "_law_state", "_law_key"] := at_mk X G a33 l33 c33 k33 fun _ _ _ _ _ _ us hl => match us, hl with | [_, _, _], _ => rfl
  have A__law_press : At K mg "_law_press" s__law_press ["_law_state", "_law_key", "_law_what"] := at_mk X G a34 l34 c34 k34 fun _ _ _ _ _ _ us hl => match us, hl with | [_, _, _], _ => rfl
  have A__law_first_known : At K mg "_law_first_known" s__law_first_known ["_law_record", "_law_row", "_law_tick", "_law_action_here"] := at_mk X G a35 l35 c35 k35 fun _ _ _ _ _ _ us hl => match us, hl with | [_, _, _, _], _ => rfl
  have A__law_worked : At K mg "_law_worked" s__law_worked ["_law_layout_here", "_law_record", "_law_row", "_law_state", "_law_found", "_law_tick"] := at_mk X G a36 l36 c36 k36 fun _ _ _ _ _ _ us hl => match us, hl with | [_, _, _, _, _, _], _ => rfl
  have A__law_machine : At K mg "_law_machine" s__law_machine ["_law_layout_here", "_law_record"] := at_mk X G a37 l37 c37 k37 fun _ _ _ _ _ _ us hl => match us, hl with | [_, _], _ => rfl
  have A__law_right : At K mg "_law_right" s__law_right ["_law_reel_here", "_law_layout_here", "_law_keys"] := at_mk X G a38 l38 c38 k38 fun _ _ _ _ _ _ us hl => match us, hl with | [_, _, _], _ => rfl
  have A_law : At K mg "law" s_law ["_law_script"] := at_mk X G a39 l39 c39 k39 fun _ _ _ _ _ _ us hl => match us, hl with | [_], _ => rfl
  have m_MOST_SIGNS := PySem.W.mg_of X G v0
  have m_CODE_SIGNS := PySem.W.mg_of X G v1
  have m_GREATEST_TIME := PySem.W.mg_of X G v2
  have m_RULES := PySem.W.mg_of X G v3
  have t_RULES : ∀ H, SqT K H g3 ((["time", "other", "within"] : List Str).map V.str) := fun H => .inr ⟨_, _, _, u3, rfl, rfl, (by show 3 ≤ sizeLine; decide), .cons ⟨_, rfl⟩ (.cons ⟨_, rfl⟩ (.cons ⟨_, rfl⟩ (.nil)))⟩
  have n_RULES : ∃ o : Obj, K.lookup g3 = some o ∧ o.cls = .type "tuple" ∧ o.dict = none := ⟨_, u3, rfl, rfl⟩
  have m_LAYER_WORDS := PySem.W.mg_of X G v4
  have t_LAYER_WORDS : ∀ H, SqT K H g4 ((["layer", "lock", "once"] : List Str).map V.str) := fun H => .inr ⟨_, _, _, u4, rfl, rfl, (by show 3 ≤ sizeLine; decide), .cons ⟨_, rfl⟩ (.cons ⟨_, rfl⟩ (.cons ⟨_, rfl⟩ (.nil)))⟩
  have n_LAYER_WORDS : ∃ o : Obj, K.lookup g4 = some o ∧ o.cls = .type "tuple" ∧ o.dict = none := ⟨_, u4, rfl, rfl⟩
  have m_MOST_LAYERS := PySem.W.mg_of X G v5
  have m_MOST_KEYS := PySem.W.mg_of X G v6
  have m_MOST_EVENTS := PySem.W.mg_of X G v7
  have m_NO_LAYER := PySem.W.mg_of X G v8
  have bt : Bt mg := ⟨PySem.W.mg_none_of X G z0, PySem.W.mg_none_of X G z1, PySem.W.mg_none_of X G z2, PySem.W.mg_none_of X G z3, PySem.W.mg_none_of X G z4, PySem.W.mg_none_of X G z5, PySem.W.mg_none_of X G z6, PySem.W.mg_none_of X G z7, PySem.W.mg_none_of X G z8, PySem.W.mg_none_of X G z9, PySem.W.mg_none_of X G z10, PySem.W.mg_none_of X G z11, PySem.W.mg_none_of X G z12, PySem.W.mg_none_of X G z13, PySem.W.mg_none_of X G z14, PySem.W.mg_none_of X G z15, PySem.W.mg_none_of X G z16, PySem.W.mg_none_of X G z17⟩
  have cp : Cp K C := ⟨⟨pg, hd, po, sa⟩, nn0, nn1, nn2, nn3, nn4⟩
  have A_Player : AtI K mg C "Player" "Player.__init__" s_Player_init ["self", "layout"] := ⟨⟨_, _, fun_mk ml0 mc0 mk0, ⟨mkC, ma0, mi0, kc⟩, PySem.W.mg_of X G aC, (fun_mk ml0 mc0 mk0).binds (ps := ["self", "layout"]) fun _ _ _ _ _ _ us hl => match us, hl with | [_, _], _ => rfl⟩⟩
  have A_is_on : AtM K C "is_on" "Player.is_on" s_is_on ["self", "layer"] := ⟨⟨_, _, fun_mk ml1 mc1 mk1, ⟨ma1, mi1, mk1⟩, (fun_mk ml1 mc1 mk1).binds (ps := ["self", "layer"]) fun _ _ _ _ _ _ us hl => match us, hl with | [_, _], _ => rfl⟩⟩
  have A_taken : AtM K C "taken" "Player.taken" s_taken ["self", "key"] := ⟨⟨_, _, fun_mk ml2 mc2 mk2, ⟨ma2, mi2, mk2⟩, (fun_mk ml2 mc2 mk2).binds (ps := ["self", "key"]) fun _ _ _ _ _ _ us hl => match us, hl with | [_, _], _ => rfl⟩⟩
  have A_press : AtM K C "press" "Player.press" s_press ["self", "key", "what"] := ⟨⟨_, _, fun_mk ml3 mc3 mk3, ⟨ma3, mi3, mk3⟩, (fun_mk ml3 mc3 mk3).binds (ps := ["self", "key", "what"]) fun _ _ _ _ _ _ us hl => match us, hl with | [_, _, _], _ => rfl⟩⟩
  have A_release : AtM K C "release" "Player.release" s_release ["self", "key"] := ⟨⟨_, _, fun_mk ml4 mc4 mk4, ⟨ma4, mi4, mk4⟩, (fun_mk ml4 mc4 mk4).binds (ps := ["self", "key"]) fun _ _ _ _ _ _ us hl => match us, hl with | [_, _], _ => rfl⟩⟩
  refine ⟨PySem.W.fnOf "law" "law" (defArgs s_law) (defBody s_law) (defScope s_law) .none kV39 dc39 pm39 an39 cd39 ct39, fun s u => .of_eq rfl, fun base _ _ => ?_⟩
  have C1 := ok_is_an_integer (P := l.prog) (w := w) (base := base) bt A_is_an_integer
  have C2 := ok_is_between bt A_is_between C1
  have C3 := ok_is_code (P := l.prog) (w := w) (base := base) bt m_MOST_SIGNS m_CODE_SIGNS A_is_code
  have C4 := ok_is_code_action bt A_is_code_action C3
  have C5 := ok_is_layer_action bt A_is_layer_action C2
  have C6 := ok_is_hold bt A_is_hold C4 C5
  have C7 := ok_is_dual_action bt m_GREATEST_TIME m_RULES t_RULES A_is_dual_action C3 C6 C2
  have C8 := ok_can_stand bt m_LAYER_WORDS t_LAYER_WORDS A_can_stand C4 C5 C7
  have C9 := ok_has_layout_form (P := l.prog) (w := w) (base := base) bt m_MOST_LAYERS m_MOST_KEYS A_has_layout_form
  have C10 := ok_check_layout bt A_check_layout C9 C8
  have E3 := ok_is_step bt A_is_step C1
  have E4 := ok_is_event bt A_is_event C1 E3
  have E5 := ok_is_short_list (P := l.prog) (w := w) (base := base) bt _ m_MOST_EVENTS A_is_short_list
  have E6 := ok_takes_turn (P := l.prog) (w := w) (base := base) A_takes_turn
  have E7 := ok_is_below (P := l.prog) (w := w) (base := base) A_is_below
  have E8 := ok_can_follow A_can_follow E6
  have E9 := ok_check_record bt A_check_record E5 E4 E8 E7
  have P1 := ok_Player_init (P := l.prog) (w := w) (base := base) bt cp m_NO_LAYER A_Player
  have P2 := ok_is_on (P := l.prog) (w := w) (mg := mg) (base := base) bt cp A_is_on
  have P3 := ok_taken bt cp A_taken P2
  have P4 := ok_press (P := l.prog) (w := w) (base := base) bt cp m_NO_LAYER A_press
  have P5 := ok_release (P := l.prog) (w := w) (base := base) bt cp m_NO_LAYER A_release
  have Q1 := ok_is_dual (P := l.prog) (w := w) (base := base) bt A_is_dual
  have Q2 := ok_deciding_event (P := l.prog) (w := w) (base := base) bt A_deciding_event
  have Q3 := ok_sure_event bt A_sure_event Q2
  have Q4 := ok_dual_kind (P := l.prog) (w := w) (base := base) bt A_dual_kind
  have Q5 := ok_what_is_done (P := l.prog) (w := w) (base := base) A_what_is_done
  have Q6 := ok_play bt cp A_play P1 P5 P3 P4 Q1 Q3 Q4 Q5
  have Q7 := ok_check_playable bt A_check_playable C10 E9
  have S1 := ok_outputs_alone (P := l.prog) (w := w) (base := base) bt A_outputs_alone
  have S2 := ok_played bt A_played Q7 Q6
  have S3 := ok_flat bt A_flat S2 S1
  have D1 := ok__law_spin (P := l.prog) (w := w) (base := base) A__law_spin
  have D2 := ok__law_reel (P := l.prog) (w := w) (base := base) bt A__law_reel
  have D4 := ok__law_code bt A__law_code D1
  have D6 := ok__law_action bt A__law_action D1 D4
  have D7 := ok__law_layout bt A__law_layout D6
  have D11 := ok__law_is_on (P := l.prog) (w := w) (base := base) bt A__law_is_on
  have D12 := ok__law_look bt A__law_look D11
  have D14 := ok__law_press (P := l.prog) (w := w) (base := base) bt A__law_press
  have D13 := ok__law_first_known (P := l.prog) (w := w) (base := base) bt A__law_first_known
  have D15 := ok__law_worked bt A__law_worked D12 D13 D14
  have D16 := ok__law_machine bt A__law_machine D15
  have D17 := ok__law_right bt A__law_right D1 D16 S2 S3
  exact ok_law bt (fun_mk l39 c39 k39) D2 D1 D7 D17
end K74
open PySem PySem.W PyProof.Rows
set_option maxHeartbeats 0 in
theorem PySem.Challenge.cw_holdtap_k74_whole_played_tick_by_tick_holds : PySem.Challenge.rw_holdtap_k74_whole_played_tick_by_tick.Holds := by
  w_on; o_law; k_head; (case hw => w_witness2)
  k_fill
  refine Gd.walkG (l := PySem.Challenge.rw_holdtap_k74_whole_played_tick_by_tick) (n := 63) (k := 12) (x := "_law_script") (sp := fun K => K74.spLaw K) rfl (by decide) rfl ⟨rfl, by decide, by decide⟩ (fun w h Y => PySem.W.kIn_of Y) ?F (fun _ _ a ns hl hS => ⟨a, ns, rfl, hS, hl, fun _ => rfl⟩)
  case F =>
    intro w mg fa h KX G hmg
    refine' K74.all_mk KX G hmg ?a0 ?l0 ?c0 ?k0 ?a1 ?l1 ?c1 ?k1 ?a2 ?l2 ?c2 ?k2 ?a3 ?l3 ?c3 ?k3 ?a4 ?l4 ?c4 ?k4 ?a5 ?l5 ?c5 ?k5 ?a6 ?l6 ?c6 ?k6 ?a7 ?l7 ?c7 ?k7 ?a8 ?l8 ?c8 ?k8 ?a9 ?l9 ?c9 ?k9 ?a10 ?l10 ?c10 ?k10 ?a11 ?l11 ?c11 ?k11 ?a12 ?l12 ?c12 ?k12 ?a13 ?l13 ?c13 ?k13 ?a14 ?l14 ?c14 ?k14 ?a15 ?l15 ?c15 ?k15 ?a16 ?l16 ?c16 ?k16 ?u_16 ?a17 ?l17 ?c17 ?k17 ?a18 ?l18 ?c18 ?k18 ?a19 ?l19 ?c19 ?k19 ?a20 ?l20 ?c20 ?k20 ?a21 ?l21 ?c21 ?k21 ?a22 ?l22 ?c22 ?k22 ?a23 ?l23 ?c23 ?k23 ?a24 ?l24 ?c24 ?k24 ?a25 ?l25 ?c25 ?k25 ?a26 ?l26 ?c26 ?k26 ?a27 ?l27 ?c27 ?k27 ?a28 ?l28 ?c28 ?k28 ?a29 ?l29 ?c29 ?k29 ?a30 ?l30 ?c30 ?k30 ?a31 ?l31 ?c31 ?k31 ?a32 ?l32 ?c32 ?k32 ?a33 ?l33 ?c33 ?k33 ?a34 ?l34 ?c34 ?k34 ?a35 ?l35 ?c35 ?k35 ?a36 ?l36 ?c36 ?k36 ?a37 ?l37 ?c37 ?k37 ?a38 ?l38 ?c38 ?k38 ?a39 ?l39 ?c39 ?k39 ?v0 ?v1 ?v2 ?v3 ?u3 ?v4 ?u4 ?v5 ?v6 ?v7 ?v8 ?z0 ?z1 ?z2 ?z3 ?z4 ?z5 ?z6 ?z7 ?z8 ?z9 ?z10 ?z11 ?z12 ?z13 ?z14 ?z15 ?z16 ?z17 ?aC ?ma0 ?mi0 ?ml0 ?mc0 ?mk0 ?ma1 ?mi1 ?ml1 ?mc1 ?mk1 ?ma2 ?mi2 ?ml2 ?mc2 ?mk2 ?ma3 ?mi3 ?ml3 ?mc3 ?mk3 ?ma4 ?mi4 ?ml4 ?mc4 ?mk4 ?pg ?hd ?po ?sa ?mkC ?kc ?nn0 ?nn1 ?nn2 ?nn3 ?nn4
    (case a0 => k_is); (case l0 => k_is); (case c0 => k_is); (case k0 => k_is); (case a1 => k_is); (case l1 => k_is); (case c1 => k_is); (case k1 => k_is); (case a2 => k_is); (case l2 => k_is); (case c2 => k_is); (case k2 => k_is); (case a3 => k_is); (case l3 => k_is); (case c3 => k_is); (case k3 => k_is); (case a4 => k_is); (case l4 => k_is); (case c4 => k_is); (case k4 => k_is); (case a5 => k_is); (case l5 => k_is); (case c5 => k_is); (case k5 => k_is); (case a6 => k_is); (case l6 => k_is); (case c6 => k_is); (case k6 => k_is); (case a7 => k_is); (case l7 => k_is); (case c7 => k_is); (case k7 => k_is); (case a8 => k_is); (case l8 => k_is); (case c8 => k_is); (case k8 => k_is); (case a9 => k_is); (case l9 => k_is); (case c9 => k_is); (case k9 => k_is); (case a10 => k_is); (case l10 => k_is); (case c10 => k_is); (case k10 => k_is); (case a11 => k_is); (case l11 => k_is); (case c11 => k_is); (case k11 => k_is); (case a12 => k_is); (case l12 => k_is); (case c12 => k_is); (case k12 => k_is); (case a13 => k_is); (case l13 => k_is); (case c13 => k_is); (case k13 => k_is); (case a14 => k_is); (case l14 => k_is); (case c14 => k_is); (case k14 => k_is); (case a15 => k_is); (case l15 => k_is); (case c15 => k_is); (case k15 => k_is); (case a16 => k_is); (case l16 => k_is); (case c16 => k_is); (case k16 => k_is); (case u_16 => k_is); (case a17 => k_is); (case l17 => k_is); (case c17 => k_is); (case k17 => k_is); (case a18 => k_is); (case l18 => k_is); (case c18 => k_is); (case k18 => k_is); (case a19 => k_is); (case l19 => k_is); (case c19 => k_is); (case k19 => k_is); (case a20 => k_is); (case l20 => k_is); (case c20 => k_is); (case k20 => k_is); (case a21 => k_is); (case l21 => k_is); (case c21 => k_is); (case k21 => k_is); (case a22 => k_is); (case l22 => k_is); (case c22 => k_is); (case k22 => k_is); (case a23 => k_is); (case l23 => k_is); (case c23 => k_is); (case k23 => k_is); (case a24 => k_is); (case l24 => k_is); (case c24 => k_is); (case k24 => k_is); (case a25 => k_is); (case l25 => k_is); (case c25 => k_is); (case k25 => k_is); (case a26 => k_is); (case l26 => k_is); (case c26 => k_is); (case k26 => k_is); (case a27 => k_is); (case l27 => k_is); (case c27 => k_is); (case k27 => k_is); (case a28 => k_is); (case l28 => k_is); (case c28 => k_is); (case k28 => k_is); (case a29 => k_is); (case l29 => k_is); (case c29 => k_is); (case k29 => k_is); (case a30 => k_is); (case l30 => k_is); (case c30 => k_is); (case k30 => k_is); (case a31 => k_is); (case l31 => k_is); (case c31 => k_is); (case k31 => k_is); (case a32 => k_is); (case l32 => k_is); (case c32 => k_is); (case k32 => k_is); (case a33 => k_is); (case l33 => k_is); (case c33 => k_is); (case k33 => k_is); (case a34 => k_is); (case l34 => k_is); (case c34 => k_is); (case k34 => k_is); (case a35 => k_is); (case l35 => k_is); (case c35 => k_is); (case k35 => k_is); (case a36 => k_is); (case l36 => k_is); (case c36 => k_is); (case k36 => k_is); (case a37 => k_is); (case l37 => k_is); (case c37 => k_is); (case k37 => k_is); (case a38 => k_is); (case l38 => k_is); (case c38 => k_is); (case k38 => k_is); (case a39 => k_is); (case l39 => k_is); (case c39 => k_is); (case k39 => k_is); (case v0 => k_is); (case v1 => k_is); (case v2 => k_is); (case v3 => k_is); (case u3 => k_is); (case v4 => k_is); (case u4 => k_is); (case v5 => k_is); (case v6 => k_is); (case v7 => k_is); (case v8 => k_is); (case z0 => k_is); (case z1 => k_is); (case z2 => k_is); (case z3 => k_is); (case z4 => k_is); (case z5 => k_is); (case z6 => k_is); (case z7 => k_is); (case z8 => k_is); (case z9 => k_is); (case z10 => k_is); (case z11 => k_is); (case z12 => k_is); (case z13 => k_is); (case z14 => k_is); (case z15 => k_is); (case z16 => k_is); (case z17 => k_is); (case aC => k_is); (case ma0 => k_is); (case mi0 => k_is); (case ml0 => k_is); (case mc0 => k_is); (case mk0 => k_is); (case ma1 => k_is); (case mi1 => k_is); (case ml1 => k_is); (case mc1 => k_is); (case mk1 => k_is); (case ma2 => k_is); (case mi2 => k_is); (case ml2 => k_is); (case mc2 => k_is); (case mk2 => k_is); (case ma3 => k_is); (case mi3 => k_is); (case ml3 => k_is); (case mc3 => k_is); (case mk3 => k_is); (case ma4 => k_is); (case mi4 => k_is); (case ml4 => k_is); (case mc4 => k_is); (case mk4 => k_is); (case pg => k_is); (case hd => k_is); (case po => k_is); (case sa => k_is); (case mkC => k_is); (case kc => k_is); (case nn0 => k_is); (case nn1 => k_is); (case nn2 => k_is); (case nn3 => k_is); (case nn4 => k_is)

