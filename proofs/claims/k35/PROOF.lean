import PyProof.Rows.All
import Wide.All
import OpenK.AllK
import Wide.FinOn
import HandS.ForMost
import HandS.Walk
import HandS.Wide
import HandS.Style
import HandS.More
import HandS.SetFor
import HandS.SortInts
import HandS.IsInst
import HandS.Codes
import PyProof.ReprRoads
import HandS.Conv
import PySem.Challenge.RW_holdtap_k35_least_numbers
set_option Elab.async false
set_option linter.all false
set_option maxRecDepth 100000
set_option maxHeartbeats 4000000
/-! A layer over the hand layer in which a def knows that no display is being shown (A.guards): repr needs it. -/
namespace Gd
open PySem PySem.Spec PyProof.Rows L2

/-- what a def promises where no guard stands -/
structure FnG (P : Program) (w : World) (K : PySem.W.Frag) (mg : Str → Option Value) (base : Heap)
    (k : Nat) (f : Addr) (fd : FuncData) (ps : List Str) (sp : Sp) : Prop where
  len : ∀ vs H Q E, sp vs H Q E → vs.length = ps.length
  go : ∀ (A : Around) (outer : List Env) (s : Shared) (H : Hp) (args : Args) (us : List Value) (vs : List V) (Q : VK),
    A.guards = some [] → Room k A → Env0 P w K mg base A outer s H → BindsTo s fd args (ps.zip us) →
    Vals vs us → sp vs H Q E0 →
    codeAny (model P w) A (.call (.ref f) args) (CR CX0 outer P w H s Q E0) s

theorem deep_guards {A : Around} {e : Env} (h : A.guards = some []) : (A.deeper e).guards = some [] := h

section
variable {P : Program} {w : World} {K : PySem.W.Frag} {mg : Str → Option Value} {base : Heap}
theorem fnG {x qual : Str} {st : Stmt} {f : Addr} {fd : FuncData} {N ps : List Str} {k : Nat} {sp : Sp}
    (F : Fun K x qual st f fd) (S : FnScope N ps (defScope st))
    (len : ∀ vs H Q E, sp vs H Q E → vs.length = ps.length)
    (hb : ∀ (cdv : Value) (A : Around) (outer : List Env) (s : Shared) (H : Hp) (vs : List V) (Q : VK),
      A.guards = some [] → Room k (A.deeper (envOfC qual (defScope st) s.heap.objs.size f cdv)) → sp vs H Q E0 →
      ∃ t, PSs (cxOf CX0 P w K mg base N qual (defScope st) f cdv A outer s H E0).nox (defBody st) t ∧
        t { nx := fun _ H' => Q .non H', rt := Q } (start N vs) H) :
    FnG P w K mg base (k + 1) f fd ps sp := by
  obtain ⟨oc, od, kV, doc, pm, an, cdv, ct, osl, rfl, lk, hcd⟩ := F.ex
  refine ⟨len, fun A outer s H args us vs Q hg hr e0 bt rv hsp => ?_⟩
  have kin : K.In s.heap := e0.mod.kin.keeps (fun b o e => (e0.bs b o e).1)
  have nol : s.heap.NoLimit := e0.mod.nolimit.keeps (fun b o e => (e0.bs b o e).1)
  have pk : ((ps.zip us).all fun y => (defScope st).names.lookup y.1 == some NameKind.local ||
      (defScope st).names.lookup y.1 == some NameKind.cell) = true := by
    rw [List.all_eq_true]
    rintro ⟨n, v⟩ hm
    have hp := S.par n (List.of_mem_zip hm).1
    rcases hp with e | e <;> simp [e]
  refine Att.call_fn kin nol lk hcd hr.depth bt pk (fun s1 ic => ?_) S.co S.gen S.kind
  obtain ⟨t, ht, hq⟩ := hb cdv A outer s H vs Q hg (hr.deeper _) hsp
  have J := inv_start (CX := CX0) (E := E0) (P := P) (w := w) (mg := mg) (base := base) S hr.hd e0 (len _ _ _ _ hsp) rv ic
  have J' := J.wish (fun _ _ => False)
  refine wpAny_mono (ht.run [] s1 (start N vs) H _ J' hq) (fun fl s' sp' => ?_) (fun _ _ z => z.elim)
  match fl, sp' with
  | .next, ⟨σ', H', L, q⟩ => exact ⟨.non, H', L.os, L.bare, L.base, L.hok, rfl, q⟩
  | .ret u, ⟨v, σ', H', L, rr, q⟩ => exact ⟨v, H', L.os, L.bare, L.base, L.hok, rr, q⟩
  | .brk, ⟨_, _, _, q⟩ => exact False.elim q
  | .cont, ⟨_, _, _, q⟩ => exact False.elim q
end

/-- a def that may be called by its name -/
structure Cl (P : Program) (w : World) (K : PySem.W.Frag) (mg : Str → Option Value) (base : Heap) (k : Nat) (x : Str) (sp : Sp) : Prop where
  ex : ∃ (f : Addr) (fd : FuncData) (ps : List Str), FnG P w K mg base k f fd ps sp ∧ mg x = some (.ref f) ∧
    PySem.W.keepIn K (.ref f) = true ∧ Binds K fd ps []
/-- where a def stands: its text, its name in the module -/
structure At (K : PySem.W.Frag) (mg : Str → Option Value) (x : Str) (st : Stmt) (ps : List Str) : Prop where
  ex : ∃ (f : Addr) (fd : FuncData), Fun K x x st f fd ∧ mg x = some (.ref f) ∧ Binds K fd ps []
section
variable {P : Program} {w : World} {K : PySem.W.Frag} {mg : Str → Option Value} {base : Heap}
theorem clG {x : Str} {st : Stmt} {N ps : List Str} {k : Nat} {sp : Sp} (a : At K mg x st ps) (S : FnScope N ps (defScope st))
    (len : ∀ vs H Q E, sp vs H Q E → vs.length = ps.length)
    (hb : ∀ (f : Addr) (cdv : Value) (A : Around) (outer : List Env) (s : Shared) (H : Hp) (vs : List V) (Q : VK),
      A.guards = some [] → Room k (A.deeper (envOfC x (defScope st) s.heap.objs.size f cdv)) → sp vs H Q E0 →
      ∃ t, PSs (cxOf CX0 P w K mg base N x (defScope st) f cdv A outer s H E0).nox (defBody st) t ∧
        t { nx := fun _ H' => Q .non H', rt := Q } (start N vs) H) : Cl P w K mg base (k + 1) x sp := by
  obtain ⟨f, fd, F, hm, b⟩ := a.ex
  exact ⟨f, fd, ps, fnG F S len (hb f), hm, F.kp, b⟩
theorem Cl.imp {x : Str} {k : Nat} {sp sp' : Sp} (c : Cl P w K mg base k x sp) (h : ∀ vs H Q E, sp' vs H Q E → sp vs H Q E) :
    Cl P w K mg base k x sp' := by
  obtain ⟨f, fd, ps, F, hm, kp, b⟩ := c.ex
  exact ⟨f, fd, ps, ⟨fun vs H Q E z => F.len vs H Q E (h _ _ _ _ z), fun A o s H as us vs Q g r e bt rv z => F.go A o s H as us vs Q g r e bt rv (h _ _ _ _ z)⟩, hm, kp, b⟩
end
section
variable {X : Cx} {k j : Nat} {x : Str} {sp : Sp} {p pos : Pos} {e : Expr} {es : List Expr} {t : TA}
theorem run_cl {f : Addr} {fd : FuncData} {ps : List Str} {pins : List (Addr × Obj)} {σ : L2.St} {H : Hp} {s : Shared} {Q : VK} {us : List Value} {vs : List V}
    (F : FnG X.prog X.w X.K X.mg X.base k f fd ps sp) (hg : X.A.guards = some []) (hr : Room k X.A) (b : Binds X.K fd ps [])
    (I : Inv X pins σ H s) (rv : Vals vs us) (h : sp vs H Q E0) : wpAny (model X.prog X.w) X.A (call (.ref f) us) (EP X pins σ Q) X.xe s := by
  have hl : us.length = ps.length := rv.length.symm.trans (F.len _ _ _ _ h)
  have bt := b s us I.kIn (by simpa using hl)
  rw [List.append_nil] at bt
  refine wpAny_call (codeAny_mono (F.go X.A X.stack s H ⟨us, []⟩ us vs Q hg hr I.env0 bt rv h) (fun r s' hq => ?_))
  match r, hq with
  | .ok (.ret u), hq => exact I.after hq
  | .ok .next, hq => exact False.elim hq
  | .ok .brk, hq => exact False.elim hq
  | .ok .cont, hq => exact False.elim hq
  | .error _, hq => exact False.elim hq
/-- f(e, ..) -/
theorem pe_cl (c : Cl X.prog X.w X.K X.mg X.base k x sp) (hg : X.A.guards = some []) (hr : Room j X.A) (hk : k ≤ j) (gl : Gl X x) (ha : PA X (e :: es) t)
    (hd : (x == ("__debug__" : Str)) = false := by decide)
    (he : starEach (e :: es) X.env = (false, eval e X.env) :: starEach es X.env := by rfl)
    (hp : (backTo pos (starEach es X.env)).any (·.1) = false := by rfl) :
    PE X (.Call (.Name x p) (e :: es) [] pos) (tCall sp [] E0 t) := by
  obtain ⟨f, fd, ps, F, hm, kp, b⟩ := c.ex
  refine ⟨fun pins s σ H Q I h => wpAny_Call_Name_kw (ld_glob I gl hm (PySem.W.callWith_K (h₀ := X.base) I.ok.mod.kin kp ?_ he hp) hd)⟩
  refine thn (ha.run pos pins s σ H _ I h) (fun us s1 z => ?_)
  obtain ⟨vs, H1, I1, rv, q⟩ := z
  exact ⟨I1.kIn, run_cl F hg (hr.mono hk) b I1 rv (by simpa using q)⟩
/-- f() -/
theorem pe_cl0 (c : Cl X.prog X.w X.K X.mg X.base k x sp) (hg : X.A.guards = some []) (hr : Room j X.A) (hk : k ≤ j) (gl : Gl X x)
    (hd : (x == ("__debug__" : Str)) = false := by decide) :
    PE X (.Call (.Name x p) [] [] pos) (tCall sp [] E0 tNil) := by
  obtain ⟨f, fd, ps, F, hm, kp, b⟩ := c.ex
  refine ⟨fun pins s σ H Q I h => wpAny_Call_Name_kw (ld_glob I gl hm (PySem.W.callWith_K0 I.kIn kp ?_) hd)⟩
  exact run_cl (us := []) F hg (hr.mono hk) b I .nil h
end

/-! ### rules that lack: a great power, repr of data -/
def CPowW (i j : Int) : Prop := 0 ≤ j ∧ (Builtin.Int.intBits i : Int) * j ≤ 2 ^ 27
theorem op_powW {X : Cx} : OpR X (binaryOp .Pow) (rI CPowW fun i j => .int (i ^ j.toNat)) := opI fun _ _ _ _ _ _ _ hc q => pow_int hc.1 hc.2 q
theorem bits_le {i : Int} {n : Nat} (h : i.natAbs < 2 ^ n) : Builtin.Int.intBits i ≤ n := by
  unfold Builtin.Int.intBits
  split
  · exact Nat.zero_le _
  · rename_i hz
    have h0 : i.natAbs ≠ 0 := by
      intro z
      apply hz
      have : i = 0 := Int.natAbs_eq_zero.mp z
      simp [this]
    have := (Nat.log2_lt h0).mpr h
    omega
theorem powW {i : Int} {n k : Nat} (h : i.natAbs < 2 ^ n) (hs : n * k ≤ 2 ^ 27) : CPowW i (k : Int) := by
  refine ⟨by omega, ?_⟩
  have b := bits_le h
  have m : Builtin.Int.intBits i * k ≤ 2 ^ 27 := Nat.le_trans (Nat.mul_le_mul_right k b) hs
  exact_mod_cast m

/-- repr(x), x a list or a tuple of data -/
def rRep (K : PySem.W.Frag) : List V → Hp → VK → Prop := fun xs H Q => ∃ (a : Addr) (d : PyData), xs = [.ref a] ∧ Dp K H (.ref a) d ∧
  d.showable = true ∧ d.depth ≤ 50 ∧ d.shown.length ≤ sizeLine ∧ Q (.str d.shown) H
mutual
theorem dp_nodict {K : PySem.W.Frag} {H : Hp} : ∀ (d : PyData) (v : V), Dp K H v d → d.hasDict = false
  | .none, _, _ => rfl
  | .bool _, _, _ => rfl
  | .int _, _, _ => rfl
  | .str _, _, _ => rfl
  | .list ds, _, h => by
    cases h with
    | lst _ ha => exact dps_nodict ds _ ha
  | .tuple ds, _, h => by
    cases h with
    | tup _ ha => exact dps_nodict ds _ ha
  | .dict _, _, h => by cases h
theorem dps_nodict {K : PySem.W.Frag} {H : Hp} : ∀ (ds : List PyData) (vs : List V), DpAll K H vs ds → PyData.hasDictAll ds = false
  | [], _, _ => rfl
  | d :: ds, _, h => by
    cases h with
    | cons h1 h2 =>
      show (d.hasDict || PyData.hasDictAll ds) = false
      rw [dp_nodict d _ h1, dps_nodict ds _ h2]
      rfl
end
theorem call_rep {X : Cx} {k : Nat} (hg : X.A.guards = some []) (hr : Room k X.A) : CallR X (.builtin "repr") (rRep X.K) := by
  intro pins s σ H xs us Q I r h
  obtain ⟨a, d, rfl, hd, hs, hdp, hz, q⟩ := h
  obtain ⟨u, rfl, ru⟩ := vals1 r
  obtain ⟨as, rd⟩ := Dp.reads I d (.ref a) u hd ru
  cases ru
  have hu := hr.un
  exact repr_of_reads' rd hs (PyData.noDict_hsm (dp_nodict d _ hd)) hg (by omega) (fun _ _ e => e)
    (fun h' t tk hk => ⟨.str d.shown, H, I.kept (t' := tk) hk, ⟨t, rfl⟩, q⟩) hz

/-! ### the law's own call -/
section
variable {P : Program} {w : World} {K : PySem.W.Frag} {mg mb : Str → Option Value} {k : Nat} {fa a : Addr} {fd : FuncData} {x : Str} {sp : Sp} {s₁ : Shared} {vs : List Value} {ns : List Int}
/-- the heap as the caller has it, H what is tracked of it: at most the script -/
theorem top_run (KX : K.In s₁.heap) (gl : s₁.heap.Ns mainGlobals mg) (bl : s₁.heap.Ns builtinsNs mb) (bb : ∀ y : Str, y ≠ "__name__" → mb y = bootBuiltins y)
    (nol : s₁.heap.NoLimit) (ng : s₁.gens = #[]) (oa : s₁.heap.get? a = some { cls := .type "list", data := .seq vs.toArray }) (hr : Room k callerA)
    (F : ∀ base : Heap, K.In base → base.Ns mainGlobals mg → FnG P w K mg base k fa fd [x] sp)
    (bt : ∀ (s : Shared) (u : Value), BindsTo s fd ⟨[u], []⟩ [(x, u)]) {H : Hp} (only : Only H) (hok : HOk P w H s₁.heap)
    (at_a : ∀ b, H b ≠ none → b = a ∧ K.lookup a = none) (h : sp [.ref a] H (fun v _ => v = .bl true) E0) :
    codeAny (model P w) callerA (.call (.ref fa) ⟨[.ref a], []⟩)
      (fun r s' => r = .ok (.ret (.bool true)) ∧ OldK s₁.heap s'.heap ∧ s'.os = s₁.os ∧ AllBare s'.gens) s₁ := by
  have free : ∀ {b : Addr} {o : Obj}, s₁.heap.get? b = some o → (b = a → ∃ es ep, o.data = .dict es ep) → H b = none := by
    intro b o e d
    rcases Classical.em (H b = none) with z | z
    · exact z
    · obtain ⟨rfl, _⟩ := at_a b z
      obtain ⟨es, ep, hd⟩ := d rfl
      rw [oa] at e
      cases e
      cases hd
  have nsAt : ∀ {b : Addr} {m : Str → Option Value}, s₁.heap.Ns b m → (hidT s₁.heap H).Ns b m := by
    intro b m z
    obtain ⟨o, es, ep, e, d, r⟩ := z
    exact ⟨o, es, ep, hidT_get e (free e fun _ => ⟨es, ep, d⟩), d, r⟩
  have KB : K.In (hidT s₁.heap H) := by
    intro b o e
    refine hidT_get (KX b o e) ?_
    rcases Classical.em (H b = none) with z | z
    · exact z
    · obtain ⟨rfl, q⟩ := at_a b z
      rw [q] at e
      cases e
  obtain ⟨ml, l1, l2⟩ := nol
  have M : Mod K mg (hidT s₁.heap H) := ⟨KB, nsAt gl, ⟨mb, nsAt bl, bb⟩, ⟨ml, nsAt l1, l2⟩⟩
  have E : Env0 P w K mg (hidT s₁.heap H) callerA [] s₁ H := by
    refine ⟨rfl, M, fun b o e => of_hidT e, Nat.le_of_eq (hidT_size _ _), True.intro, fun b hb => ?_, hok, .of_eq ng⟩
    exact nomatch (show b ∈ ([] : List Addr) from hb)
  refine codeAny_mono ((F _ KB (nsAt gl)).go callerA [] s₁ H ⟨[.ref a], []⟩ [.ref a] [.ref a] _ rfl hr E (bt s₁ (.ref a)) (.cons rfl .nil) h) ?_
  intro r s' z
  match r, z with
  | .ok .next, z => exact False.elim z
  | .ok .brk, z => exact False.elim z
  | .ok .cont, z => exact False.elim z
  | .error _, z => exact False.elim z
  | .ok (.ret u), ⟨v, H', os, bare, un, hok', rv, q⟩ =>
    have q : v = .bl true := q
    subst q
    have ru : u = Value.bool true := rv
    subst ru
    refine ⟨rfl, OldK.of_keep fun b o e => ?_, os, bare⟩
    rcases only b with n | ⟨ob, xs, n⟩
    · exact un.keep b o e n (fun m => nomatch (show b ∈ ([] : List Addr) from m)) (fun m => nomatch m)
    · have f1 := hok b _ n
      have f2 := hok' b _ (un.frzs b ob _ n)
      have g1 : s₁.heap.get? b = some ob := f1.1
      have g2 : s'.heap.get? b = some ob := f2.1
      rw [e] at g1
      cases g1
      exact g2
theorem law_callG (KX : K.In s₁.heap) (gl : s₁.heap.Ns mainGlobals mg) (bl : s₁.heap.Ns builtinsNs mb) (bb : ∀ y : Str, y ≠ "__name__" → mb y = bootBuiltins y)
    (nol : s₁.heap.NoLimit) (ng : s₁.gens = #[]) (oa : s₁.heap.get? a = some { cls := .type "list", data := .seq vs.toArray }) (hi : IntsAre vs ns) (hl : ns.length ≤ sizeLine) (hr : Room k callerA)
    (F : ∀ base : Heap, K.In base → base.Ns mainGlobals mg → FnG P w K mg base k fa fd [x] sp)
    (bt : ∀ (s : Shared) (u : Value), BindsTo s fd ⟨[u], []⟩ [(x, u)])
    (hsp : ∀ H : Hp, Only H → SqL K H a (ns.map V.int) → sp [.ref a] H (fun v _ => v = .bl true) E0) :
    codeAny (model P w) callerA (.call (.ref fa) ⟨[.ref a], []⟩)
      (fun r s' => r = .ok (.ret (.bool true)) ∧ OldK s₁.heap s'.heap ∧ s'.os = s₁.os ∧ AllBare s'.gens) s₁ := by
  have rv := vals_ints hi
  have lenV := hi.length
  by_cases hk : K.lookup a = none
  · let H : Hp := fun b => if b = a then some (.frz { cls := .type "list", data := .seq vs.toArray } (.lst (ns.map V.int))) else none
    have Ha : H a = some (.frz { cls := .type "list", data := .seq vs.toArray } (.lst (ns.map V.int))) := if_pos rfl
    have Hn : ∀ {b : Addr}, b ≠ a → H b = none := fun h => if_neg h
    have only : Only H := by
      intro b
      by_cases e : b = a
      · subst e; exact .inr ⟨_, _, Ha⟩
      · exact .inl (Hn e)
    refine top_run KX gl bl bb nol ng oa hr F bt (H := H) only ?_ ?_ (hsp H only (.inl (.inr ⟨_, Ha⟩)))
    · intro b u z
      by_cases e : b = a
      · subst e
        rw [Ha] at z
        cases z
        exact ⟨oa, by rw [List.length_map]; exact hl, vs, _, rv, oa⟩
      · rw [Hn e] at z; cases z
    · intro b z
      by_cases e : b = a
      · exact ⟨e, hk⟩
      · exact absurd (Hn e) z
  · obtain ⟨o, ho⟩ := Option.ne_none_iff_exists'.mp hk
    have e := KX a o ho
    rw [oa] at e
    cases e
    have only : Only (fun _ => none) := fun _ => .inl rfl
    refine top_run KX gl bl bb nol ng oa hr F bt (H := fun _ => none) only (fun b u z => nomatch z) (fun b z => absurd rfl z) (hsp _ only (.inr ?_))
    exact ⟨_, vs.toArray, _, ho, rfl, rfl, rfl, by rw [List.size_toArray, lenV]; exact hl, by simpa using rv⟩
end
/-- what k_head leaves, from the promise of the law's def -/
theorem walkG {l : PySem.W.OpenLaw} {n k : Nat} {q : Program} {loose : List Str} {XP : (Str → Option Value) → Heap → Prop} {YP : World → Heap → Prop} {d : DefRec} {K : Params → PySem.W.Frag} {sp : PySem.W.Frag → Sp} {x : Str}
    (hn : l.most = some n) (hn2 : n ≤ sizeLine) (hdf : d.params.defaults = []) (hr : Room k callerA)
    (hY : ∀ (w : World) (h : Heap), YP w h → (K w.params).In h)
    (F : ∀ (w : World) (mg : Str → Option Value) (fa : Addr) (h : Heap), (K w.params).In h → h.Ns mainGlobals mg → mg d.name = some (.ref fa) →
      ∃ fd : FuncData, (∀ (s : Shared) (u : Value), BindsTo s fd ⟨[u], []⟩ [(x, u)]) ∧
        ∀ base : Heap, (K w.params).In base → base.Ns mainGlobals mg → FnG l.prog w (K w.params) mg base k fa fd [x] (sp (K w.params)))
    (hsp : ∀ (K : PySem.W.Frag) (H : Hp) (a : Addr) (ns : List Int), ns.length ≤ n → SqL K H a (ns.map V.int) →
      sp K [.ref a] H (fun v _ => v = .bl true) E0) :
    PySem.W.WalkO q loose XP YP l.row.toRowW d [] (fun f vs => PySem.call f vs) := by
  refine Att.attach_call hn hdf ?_
  intro w s₀ s₁ mg mb fa o pm cd doc a vs ns G Y ho hd hcd hmg oa hi hlen ng
  have KX := hY w _ Y
  obtain ⟨fd, bt, hF⟩ := F w mg fa _ KX G.T.g hmg
  exact law_callG KX G.T.g G.T.b G.T.builtins G.T.nolimit ng oa hi (Nat.le_trans hlen hn2) hr hF bt (fun H _ hS => hsp _ H a ns hlen hS)
end Gd

set_option Elab.async false
set_option linter.all false
set_option maxRecDepth 100000
set_option maxHeartbeats 4000000
namespace Rm
open PySem PySem.Spec PyProof.Rows L2 Gd

/-! ### how long a display is -/
structure Fit (L n : Nat) (d : PyData) : Prop where
  sh : d.showable = true
  dp : d.depth ≤ n
  ln : d.shown.length ≤ L
theorem Fit.mono {L n L' n' : Nat} {d : PyData} (f : Fit L n d) (h : L ≤ L') (h' : n ≤ n') : Fit L' n' d := ⟨f.sh, by have := f.dp; omega, by have := f.ln; omega⟩
theorem allSh {L n : Nat} : ∀ {ds : List PyData}, (∀ d ∈ ds, Fit L n d) → PyData.showableAll ds = true ∧ PyData.depthAll ds ≤ n ∧ piled (PyData.shownAll ds) ≤ ds.length * (L + 2)
  | [], _ => ⟨rfl, Nat.zero_le _, Nat.zero_le _⟩
  | d :: ds, h => by
    obtain ⟨a, b, c⟩ := allSh (ds := ds) fun x hx => h x (List.mem_cons_of_mem _ hx)
    have f := h d List.mem_cons_self
    refine ⟨?_, ?_, ?_⟩
    · show (d.showable && PyData.showableAll ds) = true
      rw [f.sh, a]; rfl
    · show max d.depth (PyData.depthAll ds) ≤ n
      have := f.dp
      omega
    · show piled (d.shown :: PyData.shownAll ds) ≤ _
      rw [piled_cons, List.length_cons]
      have := f.ln
      have e : (ds.length + 1) * (L + 2) = ds.length * (L + 2) + (L + 2) := Nat.succ_mul _ _
      omega
theorem listText_le (ts : List Str) : (listText ts).length ≤ piled ts + 2 := by
  cases ts with
  | nil => decide
  | cons t r =>
    have h := textFrom_length_pos r 1 (("[" : Str) ++ (if (0 : Nat) > 0 then ", " else "" : String) ++ t) (Nat.succ_pos 0)
    have e : ((("[" : Str) ++ (if (0 : Nat) > 0 then ", " else "" : String) ++ t)).length = 1 + t.length := by
      rw [strLen_append, strLen_append]; rfl
    have x : (listText (t :: r)).length = (textFrom 1 (("[" : Str) ++ (if (0 : Nat) > 0 then ", " else "" : String) ++ t) r).length + 1 := by
      show (textFrom 1 (("[" : Str) ++ (if (0 : Nat) > 0 then ", " else "" : String) ++ t) r ++ "]").length = _
      rw [strLen_append]; rfl
    rw [x, h, e, piled_cons]
    omega
theorem tupleText_le (ts : List Str) : (tupleText ts).length ≤ piled ts + 3 := by
  unfold tupleText
  rw [strLen_append, strLen_append]
  have e1 : ((("(" : String) : Str)).length = 1 := rfl
  have e3 : (((if ts.length == 1 then ",)" else ")" : String) : Str)).length ≤ 2 := by split <;> decide
  rw [e1]
  cases ts with
  | nil =>
    have : (Str.join ", " []).length = 0 := by decide
    omega
  | cons t r =>
    have := join_length_add (t :: r) (by simp)
    omega
theorem fit_list {L n : Nat} {ds : List PyData} (h : ∀ d ∈ ds, Fit L n d) : Fit (ds.length * (L + 2) + 3) (n + 1) (.list ds) := by
  obtain ⟨a, b, c⟩ := allSh h
  have := listText_le (PyData.shownAll ds)
  exact ⟨a, by show PyData.depthAll ds + 1 ≤ _; omega, by show (listText (PyData.shownAll ds)).length ≤ _; omega⟩
theorem fit_tup {L n : Nat} {ds : List PyData} (h : ∀ d ∈ ds, Fit L n d) : Fit (ds.length * (L + 2) + 3) (n + 1) (.tuple ds) := by
  obtain ⟨a, b, c⟩ := allSh h
  have := tupleText_le (PyData.shownAll ds)
  exact ⟨a, by show PyData.depthAll ds + 1 ≤ _; omega, by show (tupleText (PyData.shownAll ds)).length ≤ _; omega⟩
theorem fit_int {i : Int} (h : i.natAbs < 2 ^ 200) : Fit 210 0 (.int i) := by
  have hl : i.natAbs.log2 < 200 := PySem.Flt.log2_lt_of (by decide) h
  refine ⟨?_, Nat.le_refl _, ?_⟩
  · show decide (i.natAbs.log2 < 1920) = true
    exact decide_eq_true (by omega)
  · show (Str.ofString (toString i)).length ≤ 210
    rw [PySem.ofString_length]
    have := int_text_length_le (k := 200) (by decide) hl
    omega
theorem fit_none : Fit 210 0 .none := ⟨rfl, Nat.le_refl _, by decide +kernel⟩
theorem fit_bool (b : Bool) : Fit 210 0 (.bool b) := ⟨rfl, Nat.le_refl _, by cases b <;> decide +kernel⟩

/-! ### records -/
structure Ev where
  t : Int
  k : Int
  d : Bool
def wayS (d : Bool) : Str := if d then "down" else "up"
theorem wayS_inj {a b : Bool} : wayS a = wayS b ↔ a = b := by cases a <;> cases b <;> decide +kernel
theorem wayS_down (d : Bool) : decide (V.str (wayS d) = V.str "down") = d := by cases d <;> decide +kernel
def evD (e : Ev) : PyData := .tuple [.int e.t, .int e.k, .str (wayS e.d)]
def stD (e : Ev) : PyData := .tuple [.int e.k, .str (wayS e.d)]
def evV (e : Ev) : List V := [.int e.t, .int e.k, .str (wayS e.d)]
def stV (e : Ev) : List V := [.int e.k, .str (wayS e.d)]
def recD (es : List Ev) : PyData := .list (es.map evD)
def ordD (es : List Ev) : PyData := .list (es.map stD)
def after (h : Int → Bool) (e : Ev) : Int → Bool := fun k => if k = e.k then e.d else h k
def heldB (es : List Ev) : Int → Bool := es.foldl after fun _ => false
theorem heldB_snoc (es : List Ev) (e : Ev) : heldB (es ++ [e]) = after (heldB es) e := by unfold heldB; rw [List.foldl_append]; rfl
theorem heldB_take {es : List Ev} {i : Nat} {e : Ev} (h : es[i]? = some e) : heldB (es.take (i + 1)) = after (heldB (es.take i)) e := by
  rw [List.take_add_one, h]
  exact heldB_snoc _ _
/-- a record as the document has it -/
def Valid (es : List Ev) : Prop := ∀ (i : Nat) (e : Ev), es[i]? = some e → 0 ≤ e.k ∧ heldB (es.take i) e.k = !e.d ∧ ∀ (j : Nat) (e' : Ev), j < i → es[j]? = some e' → e'.t ≤ e.t
/-- an order: the same without ticks -/
def ValidO (es : List Ev) : Prop := ∀ (i : Nat) (e : Ev), es[i]? = some e → 0 ≤ e.k ∧ heldB (es.take i) e.k = !e.d
theorem Valid.o {es : List Ev} (h : Valid es) : ValidO es := fun i e x => ⟨(h i e x).1, (h i e x).2.1⟩
theorem Valid.nil : Valid [] := fun _ _ h => by simp at h
theorem Valid.take {es : List Ev} (h : Valid es) (n : Nat) : Valid (es.take n) := fun i e x => by
  have hi : i < n := by
    rcases Nat.lt_or_ge i n with q | q
    · exact q
    · rw [List.getElem?_eq_none (by rw [List.length_take]; omega)] at x; cases x
  rw [List.getElem?_take_of_lt hi] at x
  obtain ⟨a, b, c⟩ := h i e x
  refine ⟨a, ?_, fun j e' hj y => ?_⟩
  · rw [List.take_take, Nat.min_eq_left (by omega)]; exact b
  · rw [List.getElem?_take_of_lt (by omega)] at y
    exact c j e' hj y
theorem ValidO.take {es : List Ev} (h : ValidO es) (n : Nat) : ValidO (es.take n) := fun i e x => by
  have hi : i < n := by
    rcases Nat.lt_or_ge i n with q | q
    · exact q
    · rw [List.getElem?_eq_none (by rw [List.length_take]; omega)] at x; cases x
  rw [List.getElem?_take_of_lt hi] at x
  obtain ⟨a, b⟩ := h i e x
  exact ⟨a, by rw [List.take_take, Nat.min_eq_left (by omega)]; exact b⟩
theorem Valid.snoc {es : List Ev} {e : Ev} (h : Valid es) (h0 : 0 ≤ e.k) (hb : heldB es e.k = !e.d) (ht : ∀ e' ∈ es, e'.t ≤ e.t) : Valid (es ++ [e]) := fun i x hx => by
  rcases Nat.lt_or_ge i es.length with q | q
  · rw [List.getElem?_append_left q] at hx
    obtain ⟨a, b, c⟩ := h i x hx
    refine ⟨a, ?_, fun j e' hj y => ?_⟩
    · rw [List.take_append_of_le_length (by omega)]; exact b
    · rw [List.getElem?_append_left (by omega)] at y
      exact c j e' hj y
  · have hi : i = es.length := by
      have := (List.getElem?_eq_some_iff.mp hx).1
      rw [List.length_append] at this
      simp at this
      omega
    subst hi
    rw [List.getElem?_append_right (Nat.le_refl _), Nat.sub_self] at hx
    have ex : e = x := Option.some.inj hx
    subst ex
    refine ⟨h0, ?_, fun j e' hj y => ?_⟩
    · rw [List.take_append_of_le_length (Nat.le_refl _), List.take_length]; exact hb
    · rw [List.getElem?_append_left hj] at y
      exact ht e' (List.mem_of_getElem? y)
/-- the ticks and keys are not too great to be shown -/
def Small (es : List Ev) : Prop := ∀ e ∈ es, e.t.natAbs < 2 ^ 200 ∧ e.k.natAbs < 2 ^ 200
theorem fit_ev {e : Ev} (h : e.t.natAbs < 2 ^ 200 ∧ e.k.natAbs < 2 ^ 200) : Fit 1000 1 (evD e) := by
  refine Fit.mono (fit_tup (L := 210) (n := 0) fun d hd => ?_) (by show 3 * 212 + 3 ≤ 1000; decide) (Nat.le_refl _)
  simp only [List.mem_cons, List.mem_nil_iff, or_false] at hd
  rcases hd with rfl | rfl | rfl
  · exact fit_int h.1
  · exact fit_int h.2
  · exact ⟨rfl, Nat.le_refl _, by cases e.d <;> decide +kernel⟩
theorem fit_st {e : Ev} (h : e.k.natAbs < 2 ^ 200) : Fit 1000 1 (stD e) := by
  refine Fit.mono (fit_tup (L := 210) (n := 0) fun d hd => ?_) (by show 2 * 212 + 3 ≤ 1000; decide) (Nat.le_refl _)
  simp only [List.mem_cons, List.mem_nil_iff, or_false] at hd
  rcases hd with rfl | rfl
  · exact fit_int h
  · exact ⟨rfl, Nat.le_refl _, by cases e.d <;> decide +kernel⟩
theorem fit_rec {es : List Ev} (h : Small es) (hl : es.length ≤ 1000) : Fit 1100000 2 (recD es) := by
  refine Fit.mono (fit_list (L := 1000) (n := 1) fun d hd => ?_) (by rw [List.length_map]; omega) (Nat.le_refl _)
  obtain ⟨e, he, rfl⟩ := List.mem_map.mp hd
  exact fit_ev (h e he)
theorem fit_ord {es : List Ev} (h : Small es) (hl : es.length ≤ 1000) : Fit 1100000 2 (ordD es) := by
  refine Fit.mono (fit_list (L := 1000) (n := 1) fun d hd => ?_) (by rw [List.length_map]; omega) (Nat.le_refl _)
  obtain ⟨e, he, rfl⟩ := List.mem_map.mp hd
  exact fit_st (h e he).2

/-! ### the dict of what is held -/
structure HeldK (kvs : List (Key × V)) (h : Int → Bool) : Prop where
  fm : ∀ p ∈ kvs, ∃ (k : Int) (b : Bool), p = (Sum.inl k, V.bl b)
  nd : (kvs.map (·.1)).Nodup
  at_ : ∀ k : Int, (valV kvs (Sum.inl k)).getD (.bl false) = .bl (h k)
theorem HeldK.nil : HeldK [] fun _ => false := ⟨fun _ h => by simp at h, List.nodup_nil, fun _ => rfl⟩
theorem put_len (kvs : List (Key × V)) (k : Key) (v : V) : (putK kvs k v).length ≤ kvs.length + 1 := by
  unfold putK
  split
  · rw [List.length_map]; omega
  · rw [List.length_append]; exact Nat.le_refl _
theorem put_keys (kvs : List (Key × V)) (k : Key) (v : V) (h : (kvs.map (·.1)).Nodup) : ((putK kvs k v).map (·.1)).Nodup := by
  cases e : valV kvs k with
  | none => exact nd_putK v h e
  | some x =>
    have a : (kvs.any fun kv => decide (kv.1 = k)) = true := by rw [valV_any, e]; rfl
    unfold putK
    rw [if_pos a, List.map_map]
    have : ((fun p : Key × V => p.1) ∘ fun kv => if kv.1 = k then (kv.1, v) else kv) = (·.1) := by
      funext p
      show (if p.1 = k then (p.1, v) else p).1 = p.1
      split <;> rfl
    rw [this]
    exact h
theorem HeldK.put {kvs : List (Key × V)} {es : List Ev} {e : Ev} (h : HeldK kvs (heldB es)) : HeldK (putK kvs (Sum.inl e.k) (.bl e.d)) (heldB (es ++ [e])) := by
  refine ⟨fun p hp => ?_, put_keys _ _ _ h.nd, fun k => ?_⟩
  · unfold putK at hp
    split at hp
    · obtain ⟨q, hq, rfl⟩ := List.mem_map.mp hp
      obtain ⟨k, b, rfl⟩ := h.fm q hq
      by_cases z : (Sum.inl k : Key) = Sum.inl e.k
      · exact ⟨k, e.d, by simp [z]⟩
      · exact ⟨k, b, by simp [z]⟩
    · rcases List.mem_append.mp hp with hp | hp
      · exact h.fm p hp
      · exact ⟨e.k, e.d, List.mem_singleton.mp hp⟩
  · rw [valV_put, heldB_snoc]
    unfold after
    by_cases z : k = e.k
    · subst z; simp
    · rw [if_neg (fun q => z (Sum.inl.inj q)), if_neg z]
      exact h.at_ k
def downs (kvs : List (Key × V)) : List Int := kvs.filterMap fun p => match p with
  | (Sum.inl k, .bl true) => some k
  | _ => none
theorem downs_cons (k : Int) (b : Bool) (r : List (Key × V)) : downs ((Sum.inl k, .bl b) :: r) = if b then k :: downs r else downs r := by
  cases b <;> simp [downs, List.filterMap_cons]
theorem downs_sub : ∀ {kvs : List (Key × V)} {k : Int}, k ∈ downs kvs → (Sum.inl k : Key) ∈ kvs.map (·.1)
  | kvs, k, h => by
    obtain ⟨p, hp, e⟩ := List.mem_filterMap.mp h
    refine List.mem_map.mpr ⟨p, hp, ?_⟩
    obtain ⟨a, b⟩ := p
    cases a with
    | inr _ => cases e
    | inl k' =>
      cases b with
      | bl c => cases c <;> simp at e; rw [e]
      | non => cases e
      | int _ => cases e
      | str _ => cases e
      | byt _ => cases e
      | flt _ => cases e
      | ref _ => cases e
      | ty _ => cases e
theorem downs_nd : ∀ {kvs : List (Key × V)}, (∀ p ∈ kvs, ∃ (k : Int) (b : Bool), p = (Sum.inl k, V.bl b)) → (kvs.map (·.1)).Nodup → (downs kvs).Nodup
  | [], _, _ => List.nodup_nil
  | p :: r, fm, nd => by
    obtain ⟨k, b, rfl⟩ := fm p List.mem_cons_self
    have nd' : ((Sum.inl k : Key) :: r.map (·.1)).Nodup := nd
    obtain ⟨n1, n2⟩ := List.nodup_cons.mp nd'
    have ih := downs_nd (fun q hq => fm q (List.mem_cons_of_mem _ hq)) n2
    rw [downs_cons]
    split
    · exact List.nodup_cons.mpr ⟨fun m => n1 (downs_sub m), ih⟩
    · exact ih
theorem downs_mem : ∀ {kvs : List (Key × V)}, (∀ p ∈ kvs, ∃ (k : Int) (b : Bool), p = (Sum.inl k, V.bl b)) → (kvs.map (·.1)).Nodup → ∀ k : Int, k ∈ downs kvs ↔ valV kvs (Sum.inl k) = some (.bl true)
  | [], _, _, k => by simp [downs, valV]
  | p :: r, fm, nd, k => by
    obtain ⟨k', b, rfl⟩ := fm p List.mem_cons_self
    have nd' : ((Sum.inl k' : Key) :: r.map (·.1)).Nodup := nd
    obtain ⟨n1, n2⟩ := List.nodup_cons.mp nd'
    have ih := downs_mem (fun q hq => fm q (List.mem_cons_of_mem _ hq)) n2 k
    rw [downs_cons]
    by_cases z : k' = k
    · subst z
      rw [valV_pos rfl]
      cases b with
      | true => simp
      | false =>
        simp only [Bool.false_eq_true, if_false]
        constructor
        · intro m; exact absurd (downs_sub m) n1
        · intro m; cases m
    · rw [valV_neg (fun q => z (Sum.inl.inj q))]
      rw [← ih]
      split
      · rw [List.mem_cons]
        exact ⟨fun q => q.resolve_left fun e => z e.symm, .inr⟩
      · exact Iff.rfl
theorem HeldK.mem {kvs : List (Key × V)} {h : Int → Bool} (x : HeldK kvs h) (k : Int) : k ∈ downs kvs ↔ h k = true := by
  rw [downs_mem x.fm x.nd k]
  have q := x.at_ k
  cases e : valV kvs (Sum.inl k) with
  | none =>
    rw [e] at q
    have q : V.bl false = .bl (h k) := q
    have : h k = false := (V.bl.inj q).symm
    simp [this]
  | some v =>
    rw [e] at q
    have q : v = .bl (h k) := q
    subst q
    constructor
    · intro z
      exact V.bl.inj (Option.some.inj z)
    · intro z
      rw [z]
/-- two ascending lists of the same keys -/
theorem same_sorted {a b c d : List Int} (h : ∀ k, k ∈ a ↔ k ∈ b) (na : a.Nodup) (nb : b.Nodup) (pa : c.Perm a) (pb : d.Perm b) (sa : c.Pairwise (· ≤ ·)) (sb : d.Pairwise (· ≤ ·)) : c = d := by
  have p : a.Perm b := (List.perm_ext_iff_of_nodup na nb).mpr h
  exact List.Perm.eq_of_pairwise (fun x y _ _ h1 h2 => Int.le_antisymm h1 h2) sa sb ((pa.trans p).trans pb.symm)

/-! ### heaps that change at one address alone -/
def Off (r : Addr) (H H' : Hp) : Prop := ∀ b o, H b = some o → b ≠ r → H' b = some o
theorem Off.refl {r : Addr} (H : Hp) : Off r H H := fun _ _ h _ => h
theorem Off.trans {r : Addr} {H H1 H2 : Hp} (a : Off r H H1) (b : Off r H1 H2) : Off r H H2 := fun c o h n => b c o (a c o h n) n
theorem Off.of {r : Addr} {H H1 : Hp} (a : Same H H1) : Off r H H1 := fun c o h _ => a c o h
theorem off_upd {r : Addr} {H : Hp} {o : HO} : Off r H (upd H r o) := fun b _ h n => by rw [upd_ne n]; exact h
theorem same_upd {H : Hp} {p : Addr} {o : HO} (h : H p = none) : Same H (upd H p o) := fun b x e => by
  rw [upd_ne (ne_of_none e h)]
  exact e
/-- what is new may change -/
theorem Same.off {H H1 H2 : Hp} {p : Addr} (s : Same H H1) (h : H p = none) (o : Off p H1 H2) : Same H H2 := fun b x e => o b x (s b x e) (ne_of_none e h)

/-! ### lists of tuples -/
def Tups {α : Type} (H : Hp) (f : α → List V) (as : List Addr) (es : List α) : Prop := as.length = es.length ∧ ∀ (i : Nat) (a : Addr) (e : α), as[i]? = some a → es[i]? = some e → H a = some (.tup (f e))
def Lst {α : Type} (f : α → List V) (H : Hp) (c : Addr) (es : List α) : Prop := ∃ as : List Addr, H c = some (.lst (as.map V.ref)) ∧ Tups H f as es
section
variable {α : Type} {f : α → List V} {H H' : Hp} {c r : Addr} {as : List Addr} {es : List α}
theorem Tups.nil : Tups H f [] ([] : List α) := ⟨rfl, fun i a e h _ => by simp at h⟩
theorem Tups.same (h : Tups H f as es) (s : Same H H') : Tups H' f as es := ⟨h.1, fun i a e x y => s _ _ (h.2 i a e x y)⟩
theorem Tups.off {ys : List V} (h : Tups H f as es) (hr : H r = some (.lst ys)) (o : Off r H H') : Tups H' f as es :=
  ⟨h.1, fun i a e x y => o _ _ (h.2 i a e x y) (ne_of (h.2 i a e x y) hr (by intro z; cases z))⟩
theorem Tups.snoc {a : Addr} {e : α} (h : Tups H f as es) (ha : H a = some (.tup (f e))) : Tups H f (as ++ [a]) (es ++ [e]) := by
  refine ⟨by rw [List.length_append, List.length_append, h.1]; rfl, fun i b x hb hx => ?_⟩
  rcases Nat.lt_or_ge i as.length with q | q
  · rw [List.getElem?_append_left q] at hb
    rw [List.getElem?_append_left (by rw [← h.1]; exact q)] at hx
    exact h.2 i b x hb hx
  · have hl := h.1
    have hi : i = as.length := by
      have := (List.getElem?_eq_some_iff.mp hb).1
      rw [List.length_append] at this
      simp at this
      omega
    subst hi
    rw [List.getElem?_append_right (Nat.le_refl _), Nat.sub_self] at hb
    rw [List.getElem?_append_right (by omega), show as.length - es.length = 0 by omega] at hx
    have e1 : a = b := Option.some.inj hb
    have e2 : e = x := Option.some.inj hx
    subst e1 e2
    exact ha
theorem Tups.take (h : Tups H f as es) (n : Nat) : Tups H f (as.take n) (es.take n) := by
  refine ⟨by rw [List.length_take, List.length_take, h.1], fun i b x hb hx => ?_⟩
  have hi : i < n := by
    rcases Nat.lt_or_ge i n with q | q
    · exact q
    · rw [List.getElem?_eq_none (by rw [List.length_take]; omega)] at hb; cases hb
  rw [List.getElem?_take_of_lt hi] at hb hx
  exact h.2 i b x hb hx
theorem Tups.append {bs : List Addr} {gs : List α} (h : Tups H f as es) (h' : Tups H f bs gs) : Tups H f (as ++ bs) (es ++ gs) := by
  refine ⟨by rw [List.length_append, List.length_append, h.1, h'.1], fun i b x hb hx => ?_⟩
  have hl := h.1
  rcases Nat.lt_or_ge i as.length with q | q
  · rw [List.getElem?_append_left q] at hb
    rw [List.getElem?_append_left (by omega)] at hx
    exact h.2 i b x hb hx
  · rw [List.getElem?_append_right q] at hb
    rw [List.getElem?_append_right (by omega), ← hl] at hx
    exact h'.2 _ b x hb hx
theorem Tups.at_ (h : Tups H f as es) {i : Nat} (hi : i < es.length) : ∃ a, as[i]? = some a ∧ H a = some (.tup (f es[i])) := by
  have hl := h.1
  exact ⟨as[i], List.getElem?_eq_getElem (by omega), h.2 i _ _ (List.getElem?_eq_getElem (by omega)) (List.getElem?_eq_getElem hi)⟩
theorem Tups.map {β : Type} {g : β → α} {bs : List β} (h : Tups H f as (bs.map g)) : Tups H (fun b => f (g b)) as bs := by
  refine ⟨by rw [h.1, List.length_map], fun i a b x y => h.2 i a (g b) x (by rw [List.getElem?_map, y]; rfl)⟩
theorem Tups.map' {β : Type} {g : β → α} {bs : List β} (h : Tups H (fun b => f (g b)) as bs) : Tups H f as (bs.map g) := by
  refine ⟨by rw [h.1, List.length_map], fun i a e x y => ?_⟩
  rw [List.getElem?_map] at y
  cases z : bs[i]? with
  | none => rw [z] at y; cases y
  | some b =>
    rw [z] at y
    have y : g b = e := Option.some.inj y
    subst y
    exact h.2 i a b x z
theorem Lst.same (h : Lst f H c es) (s : Same H H') : Lst f H' c es := by
  obtain ⟨as, a, b⟩ := h
  exact ⟨as, s _ _ a, b.same s⟩
theorem Lst.off {ys : List V} (h : Lst f H c es) (hr : H r = some (.lst ys)) (n : c ≠ r) (o : Off r H H') : Lst f H' c es := by
  obtain ⟨as, a, b⟩ := h
  exact ⟨as, o _ _ a n, b.off hr o⟩
end
theorem dp_int {K : PySem.W.Frag} {H : Hp} {i : Int} : Dp K H (.int i) (.int i) := .int i
theorem dpAll_of {K : PySem.W.Frag} {H : Hp} {α : Type} {f : α → List V} {g : α → PyData} (hg : ∀ (a : Addr) (e : α), H a = some (.tup (f e)) → Dp K H (.ref a) (g e)) :
    ∀ (as : List Addr) (es : List α), Tups H f as es → DpAll K H (as.map V.ref) (es.map g)
  | [], [], _ => .nil
  | [], _ :: _, h => by have := h.1; simp at this
  | _ :: _, [], h => by have := h.1; simp at this
  | a :: as, e :: es, h => .cons (hg a e (h.2 0 a e rfl rfl)) (dpAll_of hg as es ⟨by have := h.1; simpa using this, fun i b x hb hx => h.2 (i + 1) b x (by simpa using hb) (by simpa using hx)⟩)
theorem Lst.dp {K : PySem.W.Frag} {H : Hp} {c : Addr} {es : List Ev} (h : Lst evV H c es) : Dp K H (.ref c) (recD es) := by
  obtain ⟨as, a, b⟩ := h
  refine .lst (SqL.of a) (dpAll_of (fun a e ha => ?_) as es b)
  exact .tup (SqT.of ha) (.cons (.int _) (.cons (.int _) (.cons (.str _) .nil)))
theorem Lst.dpO {K : PySem.W.Frag} {H : Hp} {c : Addr} {es : List Ev} (h : Lst stV H c es) : Dp K H (.ref c) (ordD es) := by
  obtain ⟨as, a, b⟩ := h
  refine .lst (SqL.of a) (dpAll_of (fun a e ha => ?_) as es b)
  exact .tup (SqT.of ha) (.cons (.int _) (.cons (.str _) .nil))
theorem dpInts {K : PySem.W.Frag} {H : Hp} : ∀ ns : List Int, DpAll K H (ns.map V.int) (ns.map PyData.int)
  | [] => .nil
  | n :: ns => .cons (.int n) (dpInts ns)
theorem Lst.sql {K : PySem.W.Frag} {α : Type} {f : α → List V} {H : Hp} {c : Addr} {es : List α} (h : Lst f H c es) : ∃ xs : List V, SqL K H c xs ∧ xs.length = es.length := by
  obtain ⟨as, a, b⟩ := h
  exact ⟨_, SqL.of a, by rw [List.length_map]; exact b.1⟩

theorem val_at : ∀ {kvs : List (Key × V)} {i : Nat} {k : Key} {v : V}, (kvs.map (·.1)).Nodup → kvs[i]? = some (k, v) → valV kvs k = some v
  | [], _, _, _, _, h => by simp at h
  | p :: r, 0, k, v, _, h => by
    have e : p = (k, v) := Option.some.inj h
    subst e
    exact valV_pos rfl
  | p :: r, i + 1, k, v, nd, h => by
    have nd' : (p.1 :: r.map (·.1)).Nodup := nd
    obtain ⟨n1, n2⟩ := List.nodup_cons.mp nd'
    have h' : r[i]? = some (k, v) := by simpa using h
    have m : k ∈ r.map (·.1) := List.mem_map.mpr ⟨(k, v), List.mem_of_getElem? h', rfl⟩
    rw [valV_neg (fun e => n1 (e ▸ m))]
    exact val_at n2 h'
theorem downs_append (a b : List (Key × V)) : downs (a ++ b) = downs a ++ downs b := by unfold downs; rw [List.filterMap_append]
theorem downs_take {kvs : List (Key × V)} {i : Nat} {k : Int} {b : Bool} (h : kvs[i]? = some (Sum.inl k, .bl b)) : downs (kvs.take (i + 1)) = if b then downs (kvs.take i) ++ [k] else downs (kvs.take i) := by
  rw [List.take_add_one, h, downs_append]
  cases b <;> simp [downs]
theorem downs_len (kvs : List (Key × V)) : (downs kvs).length ≤ kvs.length := by unfold downs; exact List.length_filterMap_le _ _
end Rm

set_option Elab.async false
set_option linter.all false
set_option maxRecDepth 100000
set_option maxHeartbeats 4000000
namespace Rm
open PySem PySem.Spec PyProof.Rows L2 Gd

theorem Off.new {r p : Addr} {H H1 : Hp} {o : HO} (a : Off r H H1) (n : H p = none) : Off r H (upd H1 p o) := fun b x e ne => by
  rw [upd_ne (ne_of_none e n)]
  exact a b x e ne
theorem Off.at_ {r : Addr} {H H1 : Hp} {o : HO} (a : Off r H H1) : Off r H (upd H1 r o) := a.trans off_upd
theorem Off.sameTrans {r : Addr} {H H1 H2 : Hp} (a : Off r H H1) (b : Same H1 H2) : Off r H H2 := a.trans (Off.of b)
/-- what was free stays free of it: a new address of a later heap is new for the earlier one too -/
theorem Off.free {r p : Addr} {H H1 : Hp} {o : HO} (a : Off r H H1) (hr : H1 r = some o) (n : H1 p = none) : H p = none := by
  cases e : H p with
  | none => rfl
  | some x =>
    have h : p ≠ r := fun z => by rw [z, hr] at n; cases n
    rw [a p x e h] at n
    cases n

theorem getI {ns : List Int} {d : Int} (h0 : 0 ≤ d) (h1 : d < (ns.length : Int)) : ∃ (v : Int), atI (ns.map V.int) d = some (.int v) ∧ ns[d.toNat]? = some v := by
  have hd : d.toNat < ns.length := by omega
  refine ⟨ns[d.toNat], ?_, List.getElem?_eq_getElem hd⟩
  refine at_of (j := d.toNat) (by omega) ?_
  rw [List.getElem?_map, List.getElem?_eq_getElem hd]
  rfl
theorem inv_int (k : Int) : ∀ ns : List Int, inV (.int k) (ns.map V.int) = decide (k ∈ ns)
  | [] => rfl
  | n :: ns => by
    show (eqV (.int n) (.int k) || inV (.int k) (ns.map V.int)) = _
    rw [inv_int k ns]
    have e : eqV (.int n) (.int k) = decide (n = k) := by
      by_cases z : n = k <;> simp [eqV, z]
    rw [e]
    by_cases z : n = k
    · subst z; simp
    · have z' : ¬ k = n := fun q => z q.symm
      simp [z, z']
theorem flat_ints : ∀ ns : List Int, (ns.map V.int).all flatV = true
  | [] => rfl
  | n :: ns => by
    show (flatV (.int n) && (ns.map V.int).all flatV) = true
    rw [flat_ints ns]
    rfl
theorem lay_ints : ∀ ns : List Int, PyData.canLayAll0 (ns.map PyData.int) = true ∧ PyData.depthAll (ns.map PyData.int) = 0
  | [] => ⟨rfl, rfl⟩
  | n :: ns => by
    obtain ⟨a, b⟩ := lay_ints ns
    refine ⟨?_, ?_⟩
    · show (PyData.canLay0 (.int n) && PyData.canLayAll0 (ns.map PyData.int)) = true
      rw [a]
      rfl
    · show max (PyData.depth (.int n)) (PyData.depthAll (ns.map PyData.int)) = 0
      rw [b]
      rfl
theorem shaped_ints (ns : List Int) : SeqAt.shaped (.list (ns.map PyData.int)) = true := by
  obtain ⟨a, b⟩ := lay_ints ns
  show (PyData.canLayAll0 (ns.map PyData.int) && decide (PyData.depthAll (ns.map PyData.int) + 1 ≤ 64)) = true
  rw [a, b]
  rfl
theorem eqv_nil (ds : List PyData) : PyData.eqv (.list ds) (.list []) = ds.isEmpty := by
  cases ds <;> rfl
theorem mem_eraseIdx {ns : List Int} {j : Nat} {k : Int} (nd : ns.Nodup) (h : ns[j]? = some k) (x : Int) : x ∈ ns.eraseIdx j ↔ x ≠ k ∧ x ∈ ns := by
  rw [List.mem_eraseIdx_iff_getElem?]
  constructor
  · rintro ⟨i, hi, e⟩
    refine ⟨fun z => ?_, List.mem_of_getElem? e⟩
    subst z
    exact hi (nd_ix nd e h)
  · rintro ⟨hx, hm⟩
    obtain ⟨i, e⟩ := List.getElem?_of_mem hm
    refine ⟨i, fun z => ?_, e⟩
    subst z
    rw [h] at e
    exact hx (Option.some.inj e).symm
theorem first_ix {ns : List Int} {j : Nat} {k : Int} (nd : ns.Nodup) (h : ns[j]? = some k) : ∀ m : Nat, m < j → ns[m]? ≠ some k := fun m hm e => by
  have := nd_ix nd e h
  omega

/-! ### the keys that are down, as a list -/
structure DownOk (ns : List Int) (es : List Ev) : Prop where
  nd : ns.Nodup
  mem : ∀ k, k ∈ ns ↔ heldB es k = true
theorem DownOk.nil : DownOk [] [] := ⟨List.nodup_nil, fun k => by simp [heldB]⟩
theorem DownOk.down {ns : List Int} {es : List Ev} {t k : Int} (h : DownOk ns es) (n : ¬ k ∈ ns) : DownOk (ns ++ [k]) (es ++ [⟨t, k, true⟩]) := by
  refine ⟨nd_snoc h.nd n, fun x => ?_⟩
  rw [heldB_snoc]
  unfold after
  rw [List.mem_append, List.mem_singleton, h.mem]
  by_cases z : x = k
  · subst z; simp
  · simp [z]
theorem DownOk.up {ns : List Int} {es : List Ev} {t k : Int} {j : Nat} (h : DownOk ns es) (e : ns[j]? = some k) : DownOk (ns.eraseIdx j) (es ++ [⟨t, k, false⟩]) := by
  refine ⟨h.nd.eraseIdx j, fun x => ?_⟩
  rw [heldB_snoc, mem_eraseIdx h.nd e, h.mem]
  unfold after
  by_cases z : x = k
  · subst z; simp
  · simp [z]
theorem DownOk.not {ns : List Int} {es : List Ev} {k : Int} (h : DownOk ns es) (n : ¬ k ∈ ns) : heldB es k = false := by
  cases e : heldB es k with
  | false => rfl
  | true => exact absurd ((h.mem k).mpr e) n
/-- other keys for the same -/
theorem heldB_map {f : Int → Int} (hf : ∀ a b, f a = f b → a = b) : ∀ (es : List Ev) (k : Int), heldB (es.map fun e => ⟨e.t, f e.k, e.d⟩) (f k) = heldB es k := by
  intro es k
  suffices h : ∀ (es : List Ev) (g g' : Int → Bool), (∀ k, g' (f k) = g k) → ∀ k, (es.map fun e => (⟨e.t, f e.k, e.d⟩ : Ev)).foldl after g' (f k) = es.foldl after g k from h es _ _ (fun _ => rfl) k
  intro es
  induction es with
  | nil => intro g g' h k; exact h k
  | cons e es ih =>
    intro g g' h k
    refine ih (after g e) (after g' ⟨e.t, f e.k, e.d⟩) (fun x => ?_) k
    unfold after
    by_cases z : x = e.k
    · subst z; simp
    · have z' : ¬ f x = f e.k := fun q => z (hf _ _ q)
      show (if f x = f e.k then e.d else g' (f x)) = if x = e.k then e.d else g x
      rw [if_neg z, if_neg z', h]
theorem Valid.rekey {f : Int → Int} (hf : ∀ a b, f a = f b → a = b) {es : List Ev} (h : Valid es) (h0 : ∀ e ∈ es, 0 ≤ f e.k) : Valid (es.map fun e => ⟨e.t, f e.k, e.d⟩) := fun i e x => by
  rw [List.getElem?_map] at x
  cases y : es[i]? with
  | none => rw [y] at x; cases x
  | some e' =>
    rw [y] at x
    have x : (⟨e'.t, f e'.k, e'.d⟩ : Ev) = e := Option.some.inj x
    subst x
    obtain ⟨a, b, c⟩ := h i e' y
    refine ⟨h0 e' (List.mem_of_getElem? y), ?_, fun j g hj z => ?_⟩
    · rw [← List.map_take]
      show heldB _ (f e'.k) = !e'.d
      rw [heldB_map hf]
      exact b
    · rw [List.getElem?_map] at z
      cases y2 : es[j]? with
      | none => rw [y2] at z; cases z
      | some g' =>
        rw [y2] at z
        have z : (⟨g'.t, f g'.k, g'.d⟩ : Ev) = g := Option.some.inj z
        subst z
        exact c j g' hj y2
/-- ups behind all for keys that are down -/
theorem Valid.ups {t : Int} : ∀ (ns : List Int) {es : List Ev}, Valid es → ns.Nodup → (∀ k ∈ ns, heldB es k = true ∧ 0 ≤ k) → (∀ e ∈ es, e.t ≤ t) → Valid (es ++ ns.map fun k => ⟨t, k, false⟩)
  | [], es, h, _, _, _ => by simpa using h
  | k :: ns, es, h, nd, hb, ht => by
    obtain ⟨n1, n2⟩ := List.nodup_cons.mp nd
    have h1 : Valid (es ++ [⟨t, k, false⟩]) := h.snoc (hb k List.mem_cons_self).2 (by have := (hb k List.mem_cons_self).1; simpa using this) ht
    have := Valid.ups ns h1 n2 (fun x hx => ⟨by
        rw [heldB_snoc]
        unfold after
        have z : x ≠ k := fun q => n1 (q ▸ hx)
        rw [if_neg z]
        exact (hb x (List.mem_cons_of_mem _ hx)).1, (hb x (List.mem_cons_of_mem _ hx)).2⟩) (fun e he => by
        rcases List.mem_append.mp he with he | he
        · exact ht e he
        · rw [List.mem_singleton.mp he]; exact Int.le_refl _)
    simpa using this
theorem heldB_ups {t : Int} : ∀ (ns : List Int) (es : List Ev) (k : Int), heldB (es ++ ns.map fun k => ⟨t, k, false⟩) k = (heldB es k && !decide (k ∈ ns))
  | [], es, k => by simp
  | n :: ns, es, k => by
    have e : es ++ (n :: ns).map (fun k => (⟨t, k, false⟩ : Ev)) = (es ++ [⟨t, n, false⟩]) ++ ns.map fun k => ⟨t, k, false⟩ := by simp
    rw [e, heldB_ups ns, heldB_snoc]
    unfold after
    by_cases z : k = n
    · subst z; simp
    · have : (k ∈ n :: ns) ↔ k ∈ ns := by simp [z]
      simp [z]
/-- who is down is a key of the record -/
theorem held_mem : ∀ {es : List Ev} {k : Int}, heldB es k = true → ∃ e ∈ es, e.k = k := by
  intro es k
  suffices h : ∀ (es : List Ev) (g : Int → Bool), es.foldl after g k = true → g k = true ∨ ∃ e ∈ es, e.k = k by
    intro z
    rcases h es _ z with q | q
    · cases q
    · exact q
  intro es
  induction es with
  | nil => intro g h; exact .inl h
  | cons e es ih =>
    intro g h
    rcases ih (after g e) h with q | ⟨e', he, hk⟩
    · unfold after at q
      by_cases z : k = e.k
      · exact .inr ⟨e, List.mem_cons_self, z.symm⟩
      · rw [if_neg z] at q
        exact .inl q
    · exact .inr ⟨e', List.mem_cons_of_mem _ he, hk⟩
theorem Valid.mono {es : List Ev} (h : Valid es) : ∀ (i j : Nat) (a b : Ev), i < j → es[i]? = some a → es[j]? = some b → a.t ≤ b.t := fun i j a b hij ha hb => (h j b hb).2.2 i a hij ha
theorem lay_st : ∀ es : List Ev, PyData.canLayAll0 (es.map stD) = true ∧ PyData.depthAll (es.map stD) ≤ 1
  | [] => ⟨rfl, Nat.zero_le _⟩
  | e :: es => by
    obtain ⟨a, b⟩ := lay_st es
    refine ⟨?_, ?_⟩
    · have h : PyData.canLay0 (.str (wayS e.d)) = true := by cases e.d <;> decide +kernel
      show ((true && (PyData.canLay0 (.str (wayS e.d)) && true)) && PyData.canLayAll0 (es.map stD)) = true
      rw [a, h]
      rfl
    · show max (PyData.depth (stD e)) (PyData.depthAll (es.map stD)) ≤ 1
      have : PyData.depth (stD e) = 1 := rfl
      omega
theorem shaped_ord (es : List Ev) : SeqAt.shaped (ordD es) = true := by
  obtain ⟨a, b⟩ := lay_st es
  show (PyData.canLayAll0 (es.map stD) && decide (PyData.depthAll (es.map stD) + 1 ≤ 64)) = true
  rw [a, decide_eq_true (by omega)]
  rfl
theorem shaped_nil : SeqAt.shaped (.list []) = true := rfl
end Rm

set_option Elab.async false
set_option linter.all false
set_option maxRecDepth 100000
set_option maxHeartbeats 4000000
/-! repr of any data; bounds in the heap -/
namespace Gd
open PySem PySem.Spec PyProof.Rows L2
def rRepA (K : PySem.W.Frag) : List V → Hp → VK → Prop := fun xs H Q => ∃ (v : V) (d : PyData), xs = [v] ∧ Dp K H v d ∧
  d.showable = true ∧ d.depth ≤ 50 ∧ d.shown.length ≤ sizeLine ∧ Q (.str d.shown) H
theorem call_repA {X : Cx} {k : Nat} (hg : X.A.guards = some []) (hr : Room k X.A) : CallR X (.builtin "repr") (rRepA X.K) := by
  intro pins s σ H xs us Q I r h
  obtain ⟨v, d, rfl, hd, hs, hdp, hz, q⟩ := h
  cases d with
  | list ds =>
    cases hd with
    | lst h1 h2 => exact call_rep hg hr pins s σ H _ us Q I r ⟨_, _, rfl, .lst h1 h2, hs, hdp, hz, q⟩
  | tuple ds =>
    cases hd with
    | tup h1 h2 => exact call_rep hg hr pins s σ H _ us Q I r ⟨_, _, rfl, .tup h1 h2, hs, hdp, hz, q⟩
  | dict ds => cases hd
  | none =>
    cases hd
    obtain ⟨u, rfl, ru⟩ := vals1 r
    cases ru
    exact PySem.P.repr_of_none ⟨.str _, H, I.tok _, ⟨_, rfl⟩, q⟩
  | bool b =>
    cases hd
    obtain ⟨u, rfl, ru⟩ := vals1 r
    cases ru
    exact PySem.P.repr_of_bool ⟨.str _, H, I.tok _, ⟨_, rfl⟩, q⟩
  | int i =>
    cases hd
    obtain ⟨u, rfl, ⟨t, rfl⟩⟩ := vals1 r
    exact PySem.P.repr_of_int (of_decide_eq_true hs) ⟨.str _, H, I.tok _, ⟨_, rfl⟩, q⟩
  | str z =>
    cases hd
    obtain ⟨u, rfl, ⟨t, rfl⟩⟩ := vals1 r
    exact PySem.P.repr_of_str ⟨.str _, H, I.tok _, ⟨_, rfl⟩, q⟩ hz
end Gd

set_option linter.all false
/-! bounds on differences: passes over them, and what they come to -/
namespace Bm
structure Bnd where
  i : Nat
  j : Nat
  d : Int
deriving DecidableEq
def up (o p : Option Int) (d : Int) : Option Int := match p, o with
  | some u, some v => if u + d > v then some (u + d) else some v
  | some u, none => some (u + d)
  | none, o => o
abbrev Fn := Nat → Option Int
def relaxF (f : Fn) (b : Bnd) : Fn := fun k => if k = b.j then up (f b.j) (f b.i) b.d else f k
def passF (bs : List Bnd) (f : Fn) : Fn := bs.foldl relaxF f
theorem passF_cons (b : Bnd) (bs : List Bnd) (f : Fn) : passF (b :: bs) f = passF bs (relaxF f b) := rfl
/-- what it holds stays or grows -/
def Grows (f g : Fn) : Prop := ∀ k v, f k = some v → ∃ v', g k = some v' ∧ v ≤ v'
theorem Grows.refl (f : Fn) : Grows f f := fun k v h => ⟨v, h, Int.le_refl _⟩
theorem Grows.trans {f g h : Fn} (a : Grows f g) (b : Grows g h) : Grows f h := fun k v e => by
  obtain ⟨v', e', l⟩ := a k v e
  obtain ⟨v2, e2, l2⟩ := b k v' e'
  exact ⟨v2, e2, Int.le_trans l l2⟩
theorem up_ge {o p : Option Int} {d v : Int} (h : o = some v) : ∃ v', up o p d = some v' ∧ v ≤ v' := by
  subst h
  cases p with
  | none => exact ⟨v, rfl, Int.le_refl _⟩
  | some u =>
    show ∃ v', (if u + d > v then some (u + d) else some v) = some v' ∧ v ≤ v'
    split
    · exact ⟨_, rfl, by omega⟩
    · exact ⟨_, rfl, Int.le_refl _⟩
theorem up_from {o p : Option Int} {d u : Int} (h : p = some u) : ∃ v', up o p d = some v' ∧ u + d ≤ v' := by
  subst h
  cases o with
  | none => exact ⟨_, rfl, Int.le_refl _⟩
  | some v =>
    show ∃ v', (if u + d > v then some (u + d) else some v) = some v' ∧ u + d ≤ v'
    split
    · exact ⟨_, rfl, Int.le_refl _⟩
    · exact ⟨_, rfl, by omega⟩
theorem up_cases {o p : Option Int} {d v : Int} (h : up o p d = some v) : o = some v ∨ ∃ u, p = some u ∧ v = u + d := by
  cases p with
  | none => exact .inl h
  | some u =>
    cases o with
    | none => exact .inr ⟨u, rfl, (Option.some.inj h).symm⟩
    | some w =>
      have h : (if u + d > w then some (u + d) else some w) = some v := h
      split at h
      · exact .inr ⟨u, rfl, (Option.some.inj h).symm⟩
      · exact .inl h
theorem relax_grows (f : Fn) (b : Bnd) : Grows f (relaxF f b) := fun k v h => by
  unfold relaxF
  by_cases e : k = b.j
  · subst e
    rw [if_pos rfl]
    exact up_ge h
  · rw [if_neg e]
    exact ⟨v, h, Int.le_refl _⟩
theorem pass_grows : ∀ (bs : List Bnd) (f : Fn), Grows f (passF bs f)
  | [], f => Grows.refl f
  | b :: bs, f => (relax_grows f b).trans (pass_grows bs _)
theorem pass_hit : ∀ {bs : List Bnd} {f : Fn} {b : Bnd} {u : Int}, b ∈ bs → f b.i = some u → ∃ v, passF bs f b.j = some v ∧ u + b.d ≤ v
  | [], _, _, _, h, _ => by simp at h
  | c :: bs, f, b, u, h, e => by
    rw [passF_cons]
    rcases List.mem_cons.mp h with rfl | h
    · obtain ⟨v, e1, l1⟩ := up_from (o := f b.j) (d := b.d) e
      have e2 : relaxF f b b.j = some v := by unfold relaxF; rw [if_pos rfl]; exact e1
      obtain ⟨v2, e3, l3⟩ := pass_grows bs (relaxF f b) b.j v e2
      exact ⟨v2, e3, by omega⟩
    · obtain ⟨u', e1, l1⟩ := relax_grows f c b.i u e
      obtain ⟨v, e2, l2⟩ := pass_hit (bs := bs) h e1
      exact ⟨v, e2, by omega⟩
/-- a fixed one fulfils the bounds -/
theorem fixed {bs : List Bnd} {f : Fn} (h : passF bs f = f) {b : Bnd} (hb : b ∈ bs) {u : Int} (e : f b.i = some u) : ∃ v, f b.j = some v ∧ u + b.d ≤ v := by
  obtain ⟨v, e1, l⟩ := pass_hit hb e
  rw [h] at e1
  exact ⟨v, e1, l⟩
theorem pass_at {bs : List Bnd} {k : Nat} : ∀ {f : Fn}, (∀ b ∈ bs, b.j ≠ k) → passF bs f k = f k := by
  induction bs with
  | nil => intro f _; rfl
  | cons b bs ih =>
    intro f h
    rw [passF_cons, ih fun c hc => h c (List.mem_cons_of_mem _ hc)]
    unfold relaxF
    rw [if_neg (fun z => h b List.mem_cons_self z.symm)]
/-- all passes of a kind of thing that relaxing keeps -/
theorem pass_keep {bs : List Bnd} {I : Fn → Prop} (hr : ∀ f b, b ∈ bs → I f → I (relaxF f b)) : ∀ {f : Fn}, I f → I (passF bs f) := by
  induction bs with
  | nil => intro f h; exact h
  | cons b bs ih =>
    intro f h
    rw [passF_cons]
    exact ih (fun f c hc => hr f c (List.mem_cons_of_mem _ hc)) (hr f b List.mem_cons_self h)
def passes (bs : List Bnd) : Nat → Fn → Fn
  | 0, f => f
  | n + 1, f => passes bs n (passF bs f)
theorem passes_succ (bs : List Bnd) : ∀ (n : Nat) (f : Fn), passes bs (n + 1) f = passF bs (passes bs n f)
  | 0, _ => rfl
  | n + 1, f => passes_succ bs n (passF bs f)
theorem passes_fixed {bs : List Bnd} {f : Fn} (h : passF bs f = f) : ∀ n, passes bs n f = f
  | 0 => rfl
  | n + 1 => by show passes bs n (passF bs f) = f; rw [h]; exact passes_fixed h n

/-! ### the least numbers -/
structure Sol (bs : List Bnd) (P : Nat → Prop) (base : Fn) (y : Nat → Int) : Prop where
  bound : ∀ b ∈ bs, P b.i → y b.i + b.d ≤ y b.j
  base : ∀ k v, base k = some v → v ≤ y k
structure Frame (n : Nat) (bs : List Bnd) (P : Nat → Prop) (base : Fn) : Prop where
  ix : ∀ b ∈ bs, b.i < n ∧ b.j < n
  closed : ∀ b ∈ bs, P b.i → P b.j
  inP : ∀ k v, base k = some v → P k ∧ k < n
def Below (P : Nat → Prop) (y : Nat → Int) (f : Fn) : Prop := ∀ k v, f k = some v → P k ∧ v ≤ y k
section
variable {n : Nat} {bs : List Bnd} {P : Nat → Prop} {base : Fn} {y L : Nat → Int} {f : Fn}
theorem below_relax (F : Frame n bs P base) (S : Sol bs P base y) {b : Bnd} (hb : b ∈ bs) (h : Below P y f) : Below P y (relaxF f b) := fun k v e => by
  unfold relaxF at e
  by_cases z : k = b.j
  · subst z
    rw [if_pos rfl] at e
    rcases up_cases e with e' | ⟨u, e', rfl⟩
    · exact h _ _ e'
    · obtain ⟨p, l⟩ := h _ _ e'
      have := S.bound b hb p
      exact ⟨F.closed b hb p, by omega⟩
  · rw [if_neg z] at e
    exact h _ _ e
theorem below_pass (F : Frame n bs P base) (S : Sol bs P base y) (h : Below P y f) : Below P y (passF bs f) :=
  pass_keep (I := Below P y) (fun f b hb => below_relax F S hb) h
open Classical in
noncomputable def tot (P : Nat → Prop) (w : Nat → Int) (y : Nat → Int) : Nat → Nat
  | 0 => 0
  | n + 1 => tot P w y n + if P n then (y n - w n).toNat else 0
theorem tot_le {w y z : Nat → Int} (h : ∀ k, z k ≤ y k) : ∀ n, tot P w z n ≤ tot P w y n
  | 0 => Nat.le_refl _
  | n + 1 => by
    unfold tot
    have := tot_le (w := w) h n
    have := h n
    split <;> omega
theorem tot_lt {w y z : Nat → Int} (h : ∀ k, z k ≤ y k) {u : Nat} (p : P u) (hw : w u ≤ z u) (hz : z u < y u) : ∀ n, u < n → tot P w z n < tot P w y n
  | 0, q => by omega
  | n + 1, q => by
    unfold tot
    have a := tot_le (P := P) (w := w) h n
    have b := h n
    by_cases e : u = n
    · subst e
      rw [if_pos p, if_pos p]
      omega
    · have := tot_lt h p hw hz n (by omega)
      split <;> omega
/-- a solution of which nothing can be lowered -/
structure Least (n : Nat) (bs : List Bnd) (P : Nat → Prop) (base : Fn) (L : Nat → Int) : Prop where
  sol : Sol bs P base L
  low : ∀ (U : Nat → Prop) [DecidablePred U], (∃ u, U u ∧ P u ∧ u < n) → ¬ Sol bs P base (fun k => if U k then L k - 1 else L k)
theorem least_ex {w : Nat → Int} (hw : ∀ y, Sol bs P base y → ∀ k, P k → k < n → w k ≤ y k) : ∀ (m : Nat) (y : Nat → Int), Sol bs P base y → tot P w y n ≤ m → ∃ L, Least n bs P base L := by
  intro m
  induction m with
  | zero =>
    intro y S h
    refine ⟨y, S, fun U _ hu S' => ?_⟩
    obtain ⟨u, hU, p, hn⟩ := hu
    have l : ∀ k, (if U k then y k - 1 else y k) ≤ y k := fun k => by split <;> omega
    have := tot_lt (P := P) (w := w) l p (hw _ S' u p hn) (by rw [if_pos hU]; omega) n hn
    omega
  | succ m ih =>
    intro y S h
    by_cases q : ∃ (U : Nat → Prop) (d : DecidablePred U), (∃ u, U u ∧ P u ∧ u < n) ∧ Sol bs P base (fun k => if U k then y k - 1 else y k)
    · obtain ⟨U, d, ⟨u, hU, p, hn⟩, S'⟩ := q
      have l : ∀ k, (if U k then y k - 1 else y k) ≤ y k := fun k => by split <;> omega
      have := tot_lt (P := P) (w := w) l p (hw _ S' u p hn) (by rw [if_pos hU]; omega) n hn
      exact ih _ S' (by omega)
    · exact ⟨y, S, fun U d hu S' => q ⟨U, d, hu, S'⟩⟩
theorem least_of {w : Nat → Int} (hw : ∀ y, Sol bs P base y → ∀ k, P k → k < n → w k ≤ y k) (S : Sol bs P base y) : ∃ L, Least n bs P base L := least_ex hw _ y S (Nat.le_refl _)
/-- where something is not yet what it will be, a bound leads to it from what is -/
theorem progress (F : Frame n bs P base) (M : Least n bs P base L) (hf : Below P L f) (hg : Grows base f) {u : Nat} (hu : P u) (hn : u < n) (hne : f u ≠ some (L u)) :
    ∃ b ∈ bs, P b.i ∧ f b.i = some (L b.i) ∧ f b.j ≠ some (L b.j) ∧ L b.j = L b.i + b.d := by
  apply Classical.byContradiction
  intro no
  haveI : DecidablePred (fun k => P k ∧ k < n ∧ f k ≠ some (L k)) := fun k => Classical.propDecidable _
  refine M.low (fun k => P k ∧ k < n ∧ f k ≠ some (L k)) ⟨u, ⟨hu, hn, hne⟩, hu, hn⟩ ⟨fun b hb p => ?_, fun k v e => ?_⟩
  · have hS := M.sol.bound b hb p
    have hx := F.ix b hb
    have hp := F.closed b hb p
    by_cases zj : f b.j = some (L b.j)
    · rw [if_neg (fun (q : P b.j ∧ b.j < n ∧ f b.j ≠ some (L b.j)) => q.2.2 zj)]
      split <;> omega
    · rw [if_pos (show P b.j ∧ b.j < n ∧ f b.j ≠ some (L b.j) from ⟨hp, hx.2, zj⟩)]
      by_cases zi : f b.i = some (L b.i)
      · rw [if_neg (fun (q : P b.i ∧ b.i < n ∧ f b.i ≠ some (L b.i)) => q.2.2 zi)]
        have : L b.j ≠ L b.i + b.d := fun e => no ⟨b, hb, p, zi, zj, e⟩
        omega
      · rw [if_pos (show P b.i ∧ b.i < n ∧ f b.i ≠ some (L b.i) from ⟨p, hx.1, zi⟩)]
        omega
  · have hb := M.sol.base k v e
    split
    · rename_i q
      obtain ⟨v', e', l⟩ := hg k v e
      obtain ⟨_, l2⟩ := hf k v' e'
      have : v' ≠ L k := fun z => q.2.2 (by rw [e', z])
      omega
    · exact hb
open Classical in
noncomputable def cnt (P : Nat → Prop) (L : Nat → Int) (f : Fn) : Nat → Nat
  | 0 => 0
  | n + 1 => cnt P L f n + if P n ∧ f n ≠ some (L n) then 1 else 0
theorem cnt_zero {m : Nat} (h : cnt P L f m = 0) : ∀ k, k < m → P k → f k = some (L k) := by
  induction m with
  | zero => intro k hk; omega
  | succ m ih =>
    unfold cnt at h
    intro k hk p
    by_cases e : k = m
    · subst e
      apply Classical.byContradiction
      intro z
      rw [if_pos ⟨p, z⟩] at h
      omega
    · exact ih (by omega) k (by omega) p
theorem cnt_pos {m : Nat} (h : 0 < cnt P L f m) : ∃ k, k < m ∧ P k ∧ f k ≠ some (L k) := by
  induction m with
  | zero => exact absurd h (by unfold cnt; omega)
  | succ m ih =>
    unfold cnt at h
    split at h
    · rename_i q
      exact ⟨m, by omega, q⟩
    · obtain ⟨k, a, b⟩ := ih (by omega)
      exact ⟨k, by omega, b⟩
theorem cnt_le {g : Fn} (h : ∀ k, P k → f k = some (L k) → g k = some (L k)) : ∀ m, cnt P L g m ≤ cnt P L f m
  | 0 => Nat.le_refl _
  | m + 1 => by
    unfold cnt
    have := cnt_le h m
    by_cases a : P m ∧ g m ≠ some (L m)
    · rw [if_pos a, if_pos ⟨a.1, fun z => a.2 (h m a.1 z)⟩]; omega
    · rw [if_neg a]; omega
theorem cnt_lt {g : Fn} (h : ∀ k, P k → f k = some (L k) → g k = some (L k)) {u : Nat} (p : P u) (a : f u ≠ some (L u)) (b : g u = some (L u)) : ∀ m, u < m → cnt P L g m < cnt P L f m
  | 0, q => by omega
  | m + 1, q => by
    unfold cnt
    have hl := cnt_le h m
    by_cases e : u = m
    · subst e
      rw [if_neg (fun z : P u ∧ g u ≠ some (L u) => z.2 b), if_pos ⟨p, a⟩]
      omega
    · have := cnt_lt h p a b m (by omega)
      by_cases c : P m ∧ g m ≠ some (L m)
      · rw [if_pos c, if_pos ⟨c.1, fun z => c.2 (h m c.1 z)⟩]; omega
      · rw [if_neg c]; omega
theorem cnt_max (P : Nat → Prop) (L : Nat → Int) (f : Fn) : ∀ m, cnt P L f m ≤ m
  | 0 => Nat.le_refl _
  | m + 1 => by
    unfold cnt
    have := cnt_max P L f m
    split <;> omega
theorem cnt_less {m k : Nat} (hk : k < m) (h : ¬ (P k ∧ f k ≠ some (L k))) : cnt P L f m < m := by
  induction m with
  | zero => omega
  | succ m ih =>
    unfold cnt
    by_cases e : k = m
    · subst e
      rw [if_neg h]
      have := cnt_max P L f k
      omega
    · have := ih (by omega)
      split <;> omega
theorem final_stays (F : Frame n bs P base) (M : Least n bs P base L) (hf : Below P L f) {k : Nat} (h : f k = some (L k)) : passF bs f k = some (L k) := by
  obtain ⟨v, e, l⟩ := pass_grows bs f k _ h
  obtain ⟨_, l2⟩ := below_pass F M.sol hf k v e
  rw [e, show v = L k by omega]
theorem cnt_step (F : Frame n bs P base) (M : Least n bs P base L) (hf : Below P L f) (hg : Grows base f) (h : 0 < cnt P L f n) : cnt P L (passF bs f) n < cnt P L f n := by
  obtain ⟨u, hn, hu, hne⟩ := cnt_pos h
  obtain ⟨b, hb, p, ei, ej, eL⟩ := progress F M hf hg hu hn hne
  have hx := F.ix b hb
  refine cnt_lt (P := P) (L := L) (f := f) (g := passF bs f) (u := b.j) (fun k _ e => final_stays F M hf e) (F.closed b hb p) ej ?_ n hx.2
  obtain ⟨v, e, l⟩ := pass_hit hb ei
  obtain ⟨_, l2⟩ := below_pass F M.sol hf _ v e
  rw [e, show v = L b.j by omega]
theorem cnt_first (F : Frame n bs P base) (M : Least n bs P base L) (hf : Below P L f) (hg : Grows base f) (hn : 0 < n) : cnt P L f n < n := by
  by_cases q : ∃ k, k < n ∧ ¬ (P k ∧ f k ≠ some (L k))
  · obtain ⟨k, a, b⟩ := q
    exact cnt_less a b
  · have h0 : P 0 ∧ f 0 ≠ some (L 0) := Classical.byContradiction fun z => q ⟨0, hn, z⟩
    obtain ⟨b, hb, p, ei, _⟩ := progress F M hf hg h0.1 hn h0.2
    exact absurd ⟨b.i, (F.ix b hb).1, fun z => z.2 ei⟩ q
theorem passes_cnt (F : Frame n bs P base) (M : Least n bs P base L) : ∀ (t : Nat) (f : Fn), Below P L f → Grows base f → Below P L (passes bs t f) ∧ Grows base (passes bs t f) ∧ cnt P L (passes bs t f) n ≤ cnt P L f n - t
  | 0, f, hf, hg => ⟨hf, hg, Nat.le_refl _⟩
  | t + 1, f, hf, hg => by
    obtain ⟨a, b, c⟩ := passes_cnt F M t (passF bs f) (below_pass F M.sol hf) (hg.trans (pass_grows bs f))
    refine ⟨a, b, Nat.le_trans c ?_⟩
    rcases Nat.eq_zero_or_pos (cnt P L f n) with z | z
    · have := cnt_le (P := P) (L := L) (g := passF bs f) (f := f) (fun k _ e => final_stays F M hf e) n
      omega
    · have := cnt_step F M hf hg z
      omega
/-- behind one pass fewer than there are numbers, all is what it will be -/
theorem settled (F : Frame n bs P base) (M : Least n bs P base L) (hf : Below P L f) (hg : Grows base f) (hn : 0 < n) {t : Nat} (ht : n ≤ t + 1) :
    (∀ k, k < n → P k → passes bs t f k = some (L k)) ∧ Below P L (passes bs t f) ∧ passF bs (passes bs t f) = passes bs t f := by
  obtain ⟨a, b, c⟩ := passes_cnt F M t f hf hg
  have h1 := cnt_first F M hf hg hn
  have h2 := cnt_zero (m := n) (f := passes bs t f) (P := P) (L := L) (by omega)
  refine ⟨h2, a, funext fun k => ?_⟩
  have hbel := below_pass F M.sol a
  by_cases hk : k < n ∧ P k
  · rw [h2 k hk.1 hk.2]
    exact final_stays F M a (h2 k hk.1 hk.2)
  · by_cases q : k < n
    · have hp : ¬ P k := fun p => hk ⟨q, p⟩
      cases e1 : passF bs (passes bs t f) k with
      | some v => exact absurd (hbel k v e1).1 hp
      | none =>
        cases e2 : passes bs t f k with
        | some v => exact absurd (a k v e2).1 hp
        | none => rfl
    · exact pass_at fun b hb z => q (z ▸ (F.ix b hb).2)
end
/-! ### chains -/
inductive Chain (bs : List Bnd) (s : Nat) : Nat → Int → Prop
  | nil : Chain bs s s 0
  | step {v : Int} {b : Bnd} : Chain bs s b.i v → b ∈ bs → Chain bs s b.j (v + b.d)
theorem Chain.trans {bs : List Bnd} {s t k : Nat} {v u : Int} (a : Chain bs s t v) (b : Chain bs t k u) : Chain bs s k (v + u) := by
  induction b with
  | nil => rw [Int.add_zero]; exact a
  | step _ hb ih => rw [← Int.add_assoc]; exact ih.step hb
theorem Chain.le {bs : List Bnd} {s k : Nat} {v : Int} {y : Nat → Int} (c : Chain bs s k v) (h : ∀ b ∈ bs, y b.i + b.d ≤ y b.j) : y s + v ≤ y k := by
  induction c with
  | nil => omega
  | step _ hb ih => have := h _ hb; omega
theorem Chain.lt {bs : List Bnd} {s k n : Nat} {v : Int} (c : Chain bs s k v) (hx : ∀ b ∈ bs, b.i < n ∧ b.j < n) (hs : s < n) : k < n := by
  cases c with
  | nil => exact hs
  | step _ hb => exact (hx _ hb).2
def one (s : Nat) : Fn := fun k => if k = s then some 0 else none
def Reach (bs : List Bnd) (s k : Nat) : Prop := ∃ v, Chain bs s k v
/-- what the passes from one number come to: the greatest sums of chains -/
structure Great (bs : List Bnd) (s : Nat) (f : Fn) : Prop where
  is : ∀ k v, f k = some v → Chain bs s k v
  max : ∀ k v, Chain bs s k v → ∃ c, f k = some c ∧ v ≤ c
theorem chain_relax {bs : List Bnd} {s : Nat} {f : Fn} {b : Bnd} (hb : b ∈ bs) (h : ∀ k v, f k = some v → Chain bs s k v) : ∀ k v, relaxF f b k = some v → Chain bs s k v := fun k v e => by
  unfold relaxF at e
  by_cases z : k = b.j
  · subst z
    rw [if_pos rfl] at e
    rcases up_cases e with e' | ⟨u, e', rfl⟩
    · exact h _ _ e'
    · exact (h _ _ e').step hb
  · rw [if_neg z] at e
    exact h _ _ e
theorem chain_passes {bs : List Bnd} {s : Nat} : ∀ (t : Nat) (f : Fn), (∀ k v, f k = some v → Chain bs s k v) → ∀ k v, passes bs t f k = some v → Chain bs s k v
  | 0, _, h => h
  | t + 1, f, h => chain_passes t _ (pass_keep (bs := bs) (I := fun f => ∀ k v, f k = some v → Chain bs s k v) (fun f b hb => chain_relax hb) h)
open Classical in
theorem great {n : Nat} {bs : List Bnd} {s : Nat} {p : Nat → Int} (hx : ∀ b ∈ bs, b.i < n ∧ b.j < n) (hs : s < n) (hp : ∀ b ∈ bs, p b.i + b.d ≤ p b.j) {t : Nat} (ht : n ≤ t + 1) :
    Great bs s (passes bs t (one s)) ∧ passF bs (passes bs t (one s)) = passes bs t (one s) ∧ passes bs t (one s) s = some 0 := by
  have F : Frame n bs (Reach bs s) (one s) := ⟨hx, fun b hb ⟨v, c⟩ => ⟨_, c.step hb⟩, fun k v e => by
    unfold one at e
    split at e
    · rename_i z; subst z; exact ⟨⟨0, .nil⟩, hs⟩
    · cases e⟩
  have S0 : Sol bs (Reach bs s) (one s) (fun k => p k - p s) := ⟨fun b hb _ => by have := hp b hb; show p b.i - p s + b.d ≤ p b.j - p s; omega, fun k v e => by
    unfold one at e
    split at e
    · rename_i z; subst z; cases e; show (0 : Int) ≤ p k - p k; omega
    · cases e⟩
  have chainS : ∀ {y : Nat → Int}, Sol bs (Reach bs s) (one s) y → ∀ {k : Nat} {v : Int}, Chain bs s k v → v ≤ y k := fun {y} S {k v} c => by
    induction c with
    | nil => exact S.base s 0 (by unfold one; rw [if_pos rfl])
    | step c hb ih => have := S.bound _ hb ⟨_, c⟩; omega
  obtain ⟨L, M⟩ := least_of (n := n) (w := fun k => if h : ∃ v, Chain bs s k v then Classical.choose h else 0) (fun y S k hk _ => by
    have hk' : ∃ v, Chain bs s k v := hk
    rw [dif_pos hk']
    exact chainS S (Classical.choose_spec hk')) S0
  have B0 : Below (Reach bs s) L (one s) := fun k v e => ⟨(F.inP k v e).1, M.sol.base k v e⟩
  obtain ⟨a, b, c⟩ := settled F M B0 (Grows.refl _) (by omega) ht
  have hC := chain_passes t (one s) (bs := bs) (s := s) fun k v e => by
    unfold one at e
    split at e
    · rename_i z; subst z; cases e; exact .nil
    · cases e
  have G : Great bs s (passes bs t (one s)) := ⟨hC, fun k v ch => ⟨L k, a k (ch.lt hx hs) ⟨v, ch⟩, chainS M.sol ch⟩⟩
  refine ⟨G, c, ?_⟩
  obtain ⟨z, ez, lz⟩ := G.max s 0 .nil
  have := (hC s z ez).le hp
  rw [ez, show z = 0 by omega]
/-- numbers that fulfil the bounds are found from below -/
theorem found {n : Nat} {bs : List Bnd} {p : Nat → Int} {f0 : Fn} (h0 : ∀ k, f0 k = if k < n then some 0 else none) (hn : 0 < n) (hx : ∀ b ∈ bs, b.i < n ∧ b.j < n) (hp : ∀ b ∈ bs, p b.i + b.d ≤ p b.j) (pp : ∀ k, k < n → 0 ≤ p k) {t : Nat} (ht : n ≤ t + 1) :
    passF bs (passes bs t f0) = passes bs t f0 := by
  have F : Frame n bs (fun _ => True) f0 := ⟨hx, fun _ _ _ => trivial, fun k v e => by
    rw [h0] at e
    split at e
    · rename_i z; exact ⟨trivial, z⟩
    · cases e⟩
  have S0 : Sol bs (fun _ => True) f0 p := ⟨fun b hb _ => hp b hb, fun k v e => by
    rw [h0] at e
    split at e
    · rename_i z; cases e; exact pp k z
    · cases e⟩
  obtain ⟨L, M⟩ := least_of (n := n) (w := fun _ => 0) (fun y S k _ hk => S.base k 0 (by rw [h0, if_pos hk])) S0
  exact (settled F M (fun k v e => ⟨trivial, M.sol.base k v e⟩) (Grows.refl _) hn ht).2.2
end Bm

set_option linter.all false
/-! the passes over lists -/
namespace Bm
def relaxI (x : List Int) (b : Bnd) : List Int := if x.getD b.i 0 + b.d > x.getD b.j 0 then x.set b.j (x.getD b.i 0 + b.d) else x
def passI (bs : List Bnd) (x : List Int) : List Int := bs.foldl relaxI x
def passesI (bs : List Bnd) : Nat → List Int → List Int
  | 0, x => x
  | n + 1, x => passesI bs n (passI bs x)
/-- the first list that a pass leaves as it is -/
def iterI (bs : List Bnd) : Nat → List Int → Option (List Int)
  | 0, _ => none
  | n + 1, x => if passI bs x = x then some x else iterI bs n (passI bs x)
def relaxO (x : List (Option Int)) (b : Bnd) : List (Option Int) := match x.getD b.i none, x.getD b.j none with
  | some u, some v => if u + b.d > v then x.set b.j (some (u + b.d)) else x
  | some u, none => x.set b.j (some (u + b.d))
  | none, _ => x
def passO (bs : List Bnd) (x : List (Option Int)) : List (Option Int) := bs.foldl relaxO x
def passesO (bs : List Bnd) : Nat → List (Option Int) → List (Option Int)
  | 0, x => x
  | n + 1, x => passesO bs n (passO bs x)
def Ix (n : Nat) (bs : List Bnd) : Prop := ∀ b ∈ bs, b.i < n ∧ b.j < n
instance (n : Nat) (bs : List Bnd) : Decidable (Ix n bs) := inferInstanceAs (Decidable (∀ b ∈ bs, b.i < n ∧ b.j < n))
theorem relaxI_len (x : List Int) (b : Bnd) : (relaxI x b).length = x.length := by unfold relaxI; split <;> simp
theorem relaxO_len (x : List (Option Int)) (b : Bnd) : (relaxO x b).length = x.length := by
  unfold relaxO
  split
  · split <;> simp
  · simp
  · rfl
theorem passI_len : ∀ (bs : List Bnd) (x : List Int), (passI bs x).length = x.length
  | [], _ => rfl
  | b :: bs, x => by show (passI bs (relaxI x b)).length = _; rw [passI_len bs, relaxI_len]
theorem passO_len : ∀ (bs : List Bnd) (x : List (Option Int)), (passO bs x).length = x.length
  | [], _ => rfl
  | b :: bs, x => by show (passO bs (relaxO x b)).length = _; rw [passO_len bs, relaxO_len]
theorem passesI_len (bs : List Bnd) : ∀ (n : Nat) (x : List Int), (passesI bs n x).length = x.length
  | 0, _ => rfl
  | n + 1, x => by show (passesI bs n (passI bs x)).length = _; rw [passesI_len bs n, passI_len]
theorem passesO_len (bs : List Bnd) : ∀ (n : Nat) (x : List (Option Int)), (passesO bs n x).length = x.length
  | 0, _ => rfl
  | n + 1, x => by show (passesO bs n (passO bs x)).length = _; rw [passesO_len bs n, passO_len]
theorem passesI_succ (bs : List Bnd) : ∀ (n : Nat) (x : List Int), passesI bs (n + 1) x = passI bs (passesI bs n x)
  | 0, _ => rfl
  | n + 1, x => passesI_succ bs n (passI bs x)
theorem passesO_succ (bs : List Bnd) : ∀ (n : Nat) (x : List (Option Int)), passesO bs (n + 1) x = passO bs (passesO bs n x)
  | 0, _ => rfl
  | n + 1, x => passesO_succ bs n (passO bs x)
theorem passesO_fixed {bs : List Bnd} {x : List (Option Int)} (h : passO bs x = x) : ∀ n, passesO bs n x = x
  | 0 => rfl
  | n + 1 => by show passesO bs n (passO bs x) = x; rw [h]; exact passesO_fixed h n
theorem passI_take {bs : List Bnd} {k : Nat} {b : Bnd} (x : List Int) (h : bs[k]? = some b) : passI (bs.take (k + 1)) x = relaxI (passI (bs.take k) x) b := by
  unfold passI
  rw [List.take_add_one, h, List.foldl_append]
  rfl
theorem passO_take {bs : List Bnd} {k : Nat} {b : Bnd} (x : List (Option Int)) (h : bs[k]? = some b) : passO (bs.take (k + 1)) x = relaxO (passO (bs.take k) x) b := by
  unfold passO
  rw [List.take_add_one, h, List.foldl_append]
  rfl
/-! ### nothing falls, so what is raised stays raised -/
def Le (x y : List Int) : Prop := x.length = y.length ∧ ∀ k, x.getD k 0 ≤ y.getD k 0
theorem Le.refl (x : List Int) : Le x x := ⟨rfl, fun _ => Int.le_refl _⟩
theorem Le.trans {x y z : List Int} (a : Le x y) (b : Le y z) : Le x z := ⟨a.1.trans b.1, fun k => Int.le_trans (a.2 k) (b.2 k)⟩
theorem getD_set_self {α : Type} {x : List α} {j : Nat} {v d : α} (h : j < x.length) : (x.set j v).getD j d = v := by
  rw [List.getD_eq_getElem?_getD, List.getElem?_set_self h]; rfl
theorem getD_set_ne {α : Type} {x : List α} {j k : Nat} {v d : α} (h : j ≠ k) : (x.set j v).getD k d = x.getD k d := by
  rw [List.getD_eq_getElem?_getD, List.getElem?_set_ne h, ← List.getD_eq_getElem?_getD]
theorem relaxI_le {x : List Int} {b : Bnd} (hj : b.j < x.length) : Le x (relaxI x b) := by
  refine ⟨(relaxI_len x b).symm, fun k => ?_⟩
  unfold relaxI
  split
  · by_cases z : b.j = k
    · subst z; rw [getD_set_self hj]; omega
    · rw [getD_set_ne z]; exact Int.le_refl _
  · exact Int.le_refl _
theorem passI_le : ∀ {bs : List Bnd} {x : List Int}, Ix x.length bs → Le x (passI bs x)
  | [], x, _ => Le.refl x
  | b :: bs, x, h => by
    have h1 := relaxI_le (x := x) (b := b) (h b List.mem_cons_self).2
    exact h1.trans (passI_le (bs := bs) (x := relaxI x b) (by rw [relaxI_len]; exact fun c hc => h c (List.mem_cons_of_mem _ hc)))
/-- raised so far, or raised now -/
theorem raise_now {x0 x : List Int} {b : Bnd} (h : Le x0 x) (hj : b.j < x.length) (hr : x.getD b.i 0 + b.d > x.getD b.j 0) : relaxI x b ≠ x0 := fun e => by
  have h1 : (relaxI x b).getD b.j 0 = x.getD b.i 0 + b.d := by unfold relaxI; rw [if_pos hr, getD_set_self hj]
  rw [e] at h1
  have := h.2 b.j
  omega
theorem raise_keep {x : List Int} {b : Bnd} (hr : ¬ x.getD b.i 0 + b.d > x.getD b.j 0) : relaxI x b = x := by unfold relaxI; rw [if_neg hr]
/-! ### lists as functions -/
def atI' (x : List Int) : Fn := fun k => x[k]?
def atO (x : List (Option Int)) : Fn := fun k => x.getD k none
theorem atI_relax {x : List Int} {b : Bnd} (hi : b.i < x.length) (hj : b.j < x.length) : atI' (relaxI x b) = relaxF (atI' x) b := funext fun k => by
  unfold relaxF atI' up relaxI
  have gi : x.getD b.i 0 = x[b.i] := by rw [List.getD_eq_getElem?_getD, List.getElem?_eq_getElem hi]; rfl
  have gj : x.getD b.j 0 = x[b.j] := by rw [List.getD_eq_getElem?_getD, List.getElem?_eq_getElem hj]; rfl
  rw [gi, gj, List.getElem?_eq_getElem hi, List.getElem?_eq_getElem hj]
  by_cases z : k = b.j
  · subst z
    rw [if_pos rfl]
    show (if x[b.i] + b.d > x[b.j] then _ else _)[b.j]? = if x[b.i] + b.d > x[b.j] then _ else _
    split
    · rw [List.getElem?_set_self hj]
    · rw [List.getElem?_eq_getElem hj]
  · rw [if_neg z]
    split
    · rw [List.getElem?_set_ne (fun e => z e.symm)]
    · rfl
theorem atI_pass : ∀ {bs : List Bnd} {x : List Int}, Ix x.length bs → atI' (passI bs x) = passF bs (atI' x)
  | [], _, _ => rfl
  | b :: bs, x, h => by
    have hb := h b List.mem_cons_self
    show atI' (passI bs (relaxI x b)) = passF bs (relaxF (atI' x) b)
    rw [atI_pass (by rw [relaxI_len]; exact fun c hc => h c (List.mem_cons_of_mem _ hc)), atI_relax hb.1 hb.2]
theorem atI_passes {bs : List Bnd} : ∀ {n : Nat} {x : List Int}, Ix x.length bs → atI' (passesI bs n x) = passes bs n (atI' x)
  | 0, _, _ => rfl
  | n + 1, x, h => by
    show atI' (passesI bs n (passI bs x)) = passes bs n (passF bs (atI' x))
    rw [atI_passes (by rw [passI_len]; exact h), atI_pass h]
theorem atI_inj {x y : List Int} (h : atI' x = atI' y) : x = y := List.ext_getElem? fun k => congrFun h k
theorem atO_relax {x : List (Option Int)} {b : Bnd} (hj : b.j < x.length) : atO (relaxO x b) = relaxF (atO x) b := funext fun k => by
  show (relaxO x b).getD k none = if k = b.j then up (x.getD b.j none) (x.getD b.i none) b.d else x.getD k none
  unfold relaxO up
  cases ei : x.getD b.i none with
  | none =>
    cases ej : x.getD b.j none with
    | none =>
      by_cases z : k = b.j
      · subst z; rw [if_pos rfl]; exact ej
      · rw [if_neg z]
    | some v =>
      by_cases z : k = b.j
      · subst z; rw [if_pos rfl]; exact ej
      · rw [if_neg z]
  | some u =>
    cases ej : x.getD b.j none with
    | none =>
      by_cases z : k = b.j
      · subst z; rw [if_pos rfl]; exact getD_set_self hj
      · rw [if_neg z]; exact getD_set_ne (fun e => z e.symm)
    | some v =>
      by_cases z : k = b.j
      · subst z
        rw [if_pos rfl]
        show List.getD (if u + b.d > v then x.set b.j (some (u + b.d)) else x) b.j none = if u + b.d > v then some (u + b.d) else some v
        split
        · exact getD_set_self hj
        · exact ej
      · rw [if_neg z]
        show List.getD (if u + b.d > v then x.set b.j (some (u + b.d)) else x) k none = _
        split
        · exact getD_set_ne (fun e => z e.symm)
        · rfl
theorem atO_pass : ∀ {bs : List Bnd} {x : List (Option Int)}, Ix x.length bs → atO (passO bs x) = passF bs (atO x)
  | [], _, _ => rfl
  | b :: bs, x, h => by
    have hb := h b List.mem_cons_self
    show atO (passO bs (relaxO x b)) = passF bs (relaxF (atO x) b)
    rw [atO_pass (by rw [relaxO_len]; exact fun c hc => h c (List.mem_cons_of_mem _ hc)), atO_relax hb.2]
theorem atO_passes {bs : List Bnd} : ∀ {n : Nat} {x : List (Option Int)}, Ix x.length bs → atO (passesO bs n x) = passes bs n (atO x)
  | 0, _, _ => rfl
  | n + 1, x, h => by
    show atO (passesO bs n (passO bs x)) = passes bs n (passF bs (atO x))
    rw [atO_passes (by rw [passO_len]; exact h), atO_pass h]
theorem atO_inj {x y : List (Option Int)} (hl : x.length = y.length) (h : atO x = atO y) : x = y := List.ext_getElem? fun k => by
  have e := congrFun h k
  unfold atO at e
  rw [List.getD_eq_getElem?_getD, List.getD_eq_getElem?_getD] at e
  rcases Nat.lt_or_ge k x.length with q | q
  · rw [List.getElem?_eq_getElem q, List.getElem?_eq_getElem (by omega)] at e ⊢
    exact congrArg some e
  · rw [List.getElem?_eq_none q, List.getElem?_eq_none (by omega)]
/-! ### what the first fixed list is -/
theorem iter_some {bs : List Bnd} : ∀ {n : Nat} {x z : List Int}, iterI bs n x = some z → passI bs z = z ∧ ∃ t, t < n ∧ z = passesI bs t x
  | 0, _, _, h => by cases h
  | n + 1, x, z, h => by
    unfold iterI at h
    split at h
    · rename_i e
      cases h
      exact ⟨e, 0, by omega, rfl⟩
    · obtain ⟨a, t, b, c⟩ := iter_some h
      exact ⟨a, t + 1, by omega, c⟩
theorem iter_none {bs : List Bnd} : ∀ {n : Nat} {x : List Int}, iterI bs n x = none → ∀ t, t < n → passI bs (passesI bs t x) ≠ passesI bs t x
  | 0, _, _, t, h => by omega
  | n + 1, x, h, t, ht => by
    unfold iterI at h
    split at h
    · cases h
    · rename_i e
      cases t with
      | zero => exact e
      | succ t => exact iter_none h t (by omega)
theorem atI_zeros (n : Nat) : ∀ k, atI' (List.replicate n 0) k = if k < n then some 0 else none := fun k => by
  unfold atI'
  rw [List.getElem?_replicate]
/-- where some numbers fulfil the bounds, numbers are found -/
theorem iter_found {n t : Nat} {bs : List Bnd} {p : Nat → Int} (hn : 0 < n) (hx : Ix n bs) (hp : ∀ b ∈ bs, p b.i + b.d ≤ p b.j) (pp : ∀ k, k < n → 0 ≤ p k) (ht : n ≤ t + 1) :
    passI bs (passesI bs t (List.replicate n 0)) = passesI bs t (List.replicate n 0) := by
  have hl : (List.replicate n (0 : Int)).length = n := List.length_replicate
  have h := found (f0 := atI' (List.replicate n 0)) (atI_zeros n) hn hx hp pp ht
  refine atI_inj ?_
  rw [atI_pass (by rw [passesI_len, hl]; exact hx), atI_passes (by rw [hl]; exact hx)]
  exact h
theorem iter_ex {n t : Nat} {bs : List Bnd} {p : Nat → Int} (hn : 0 < n) (hx : Ix n bs) (hp : ∀ b ∈ bs, p b.i + b.d ≤ p b.j) (pp : ∀ k, k < n → 0 ≤ p k) (ht : n < t) :
    ∃ z, iterI bs t (List.replicate n 0) = some z := by
  cases e : iterI bs t (List.replicate n 0) with
  | some z => exact ⟨z, rfl⟩
  | none => exact absurd (iter_found hn hx hp pp (t := n) (by omega)) (iter_none e n ht)
/-- what was found fulfils them -/
theorem iter_sol {n t : Nat} {bs : List Bnd} {z : List Int} (hx : Ix n bs) (h : iterI bs t (List.replicate n 0) = some z) : ∀ b ∈ bs, z.getD b.i 0 + b.d ≤ z.getD b.j 0 := fun b hb => by
  obtain ⟨e, k, _, rfl⟩ := iter_some h
  have hl : (passesI bs k (List.replicate n 0)).length = n := by rw [passesI_len, List.length_replicate]
  have hxb := hx b hb
  have e2 : passF bs (atI' (passesI bs k (List.replicate n 0))) = atI' (passesI bs k (List.replicate n 0)) := by
    rw [← atI_pass (by rw [hl]; exact hx), e]
  have gi : atI' (passesI bs k (List.replicate n 0)) b.i = some ((passesI bs k (List.replicate n 0)).getD b.i 0) := by
    unfold atI'
    rw [List.getD_eq_getElem?_getD, List.getElem?_eq_getElem (by omega)]; rfl
  have gj : atI' (passesI bs k (List.replicate n 0)) b.j = some ((passesI bs k (List.replicate n 0)).getD b.j 0) := by
    unfold atI'
    rw [List.getD_eq_getElem?_getD, List.getElem?_eq_getElem (by omega)]; rfl
  obtain ⟨v, ev, lv⟩ := fixed e2 hb gi
  rw [gj] at ev
  cases ev
  exact lv
/-! ### the greatest sums -/
def begin1 (n s : Nat) : List (Option Int) := (List.replicate n none).set s (some 0)
def sums (n : Nat) (bs : List Bnd) (s : Nat) : List (Option Int) := passesO bs n (begin1 n s)
theorem begin1_len (n s : Nat) : (begin1 n s).length = n := by unfold begin1; rw [List.length_set, List.length_replicate]
theorem sums_len (n : Nat) (bs : List Bnd) (s : Nat) : (sums n bs s).length = n := by unfold sums; rw [passesO_len, begin1_len]
theorem at_begin {n s : Nat} (hs : s < n) : atO (begin1 n s) = one s := funext fun k => by
  unfold atO begin1 one
  by_cases z : k = s
  · subst z; rw [if_pos rfl]; exact getD_set_self (by rw [List.length_replicate]; exact hs)
  · rw [if_neg z, getD_set_ne (fun e => z e.symm), List.getD_eq_getElem?_getD, List.getElem?_replicate]
    split <;> rfl
theorem sums_great {n : Nat} {bs : List Bnd} {s : Nat} {p : Nat → Int} (hx : Ix n bs) (hs : s < n) (hp : ∀ b ∈ bs, p b.i + b.d ≤ p b.j) :
    Great bs s (atO (sums n bs s)) ∧ passO bs (sums n bs s) = sums n bs s ∧ atO (sums n bs s) s = some 0 := by
  obtain ⟨a, b, c⟩ := great (t := n) hx hs hp (by omega)
  have e : atO (sums n bs s) = passes bs n (one s) := by
    unfold sums
    rw [atO_passes (by rw [begin1_len]; exact hx), at_begin hs]
  refine ⟨by rw [e]; exact a, atO_inj (passO_len _ _) ?_, by rw [e]; exact c⟩
  rw [atO_pass (by rw [sums_len]; exact hx), e]
  exact b
/-- stopping at a fixed list changes nothing -/
theorem early {bs : List Bnd} {x : List (Option Int)} {n t : Nat} (ht : t ≤ n) (h : passO bs (passesO bs t x) = passesO bs t x) : passesO bs n x = passesO bs t x := by
  obtain ⟨m, rfl⟩ : ∃ m, n = t + m := ⟨n - t, by omega⟩
  clear ht
  induction m with
  | zero => rfl
  | succ m ih => rw [show t + (m + 1) = (t + m) + 1 by omega, passesO_succ, ih, h]
/-! ### how great the numbers are -/
def Small (c : Nat) (x : List (Option Int)) : Prop := ∀ (k : Nat) (v : Int), x.getD k none = some v → v.natAbs ≤ c
theorem small_relax {B c : Nat} {x : List (Option Int)} {b : Bnd} (hj : b.j < x.length) (hb : b.d.natAbs ≤ B) (h : Small c x) : Small (c + B) (relaxO x b) := fun k v e => by
  have e : atO (relaxO x b) k = some v := e
  rw [atO_relax hj] at e
  unfold relaxF at e
  split at e
  · rcases up_cases e with e' | ⟨u, e', rfl⟩
    · have := h _ _ e'; omega
    · have := h _ _ e'; omega
  · have := h _ _ e; omega
theorem small_pass {B : Nat} : ∀ {bs : List Bnd} {c : Nat} {x : List (Option Int)}, Ix x.length bs → (∀ b ∈ bs, b.d.natAbs ≤ B) → Small c x → Small (c + bs.length * B) (passO bs x)
  | [], c, x, _, _, h => by rw [List.length_nil, Nat.zero_mul]; exact h
  | b :: bs, c, x, hx, hb, h => by
    have h1 := small_relax (hx b List.mem_cons_self).2 (hb b List.mem_cons_self) h
    have h2 := small_pass (bs := bs) (x := relaxO x b) (by rw [relaxO_len]; exact fun d hd => hx d (List.mem_cons_of_mem _ hd)) (fun d hd => hb d (List.mem_cons_of_mem _ hd)) h1
    have : c + (b :: bs).length * B = c + B + bs.length * B := by rw [List.length_cons, Nat.succ_mul]; omega
    rw [this]
    exact h2
theorem small_passes {B : Nat} {bs : List Bnd} (hb : ∀ b ∈ bs, b.d.natAbs ≤ B) : ∀ (n : Nat) {c : Nat} {x : List (Option Int)}, Ix x.length bs → Small c x → Small (c + n * (bs.length * B)) (passesO bs n x)
  | 0, c, x, _, h => by rw [Nat.zero_mul]; exact h
  | n + 1, c, x, hx, h => by
    have h2 := small_passes hb n (x := passO bs x) (by rw [passO_len]; exact hx) (small_pass hx hb h)
    have : c + (n + 1) * (bs.length * B) = c + bs.length * B + n * (bs.length * B) := by rw [Nat.succ_mul]; omega
    rw [this]
    exact h2
theorem small_sums {n : Nat} {bs : List Bnd} {s : Nat} {B : Nat} (hb : ∀ b ∈ bs, b.d.natAbs ≤ B) (hx : Ix n bs) (hs : s < n) : Small (n * (bs.length * B)) (sums n bs s) := by
  have h0 : Small 0 (begin1 n s) := fun k v e => by
    have e : atO (begin1 n s) k = some v := e
    rw [at_begin hs] at e
    unfold one at e
    split at e
    · cases e; exact Nat.le_refl _
    · cases e
  have := small_passes hb n (x := begin1 n s) (by rw [begin1_len]; exact hx) h0
  rw [Nat.zero_add] at this
  exact this
end Bm

set_option linter.all false
/-! bounds: one more bound -/
namespace Bm
theorem top_of {α : Type} (f : α → Int) : ∀ l : List α, ∃ M : Int, 0 ≤ M ∧ ∀ b ∈ l, f b ≤ M
  | [] => ⟨0, Int.le_refl _, fun b h => by simp at h⟩
  | a :: l => by
    obtain ⟨M, h0, h⟩ := top_of f l
    refine ⟨M + (f a).natAbs, by omega, fun b hb => ?_⟩
    rcases List.mem_cons.mp hb with rfl | hb
    · omega
    · have := h b hb; omega
section
variable {n i j : Nat} {bs : List Bnd} {p : Nat → Int}
theorem sums_self (hx : Ix n bs) (hi : i < n) (hp : ∀ b ∈ bs, p b.i + b.d ≤ p b.j) : (sums n bs i).getD i none = some 0 := (sums_great hx hi hp).2.2
theorem sums_fix (hx : Ix n bs) (hi : i < n) (hp : ∀ b ∈ bs, p b.i + b.d ≤ p b.j) {b : Bnd} (hb : b ∈ bs) {u : Int} (e : (sums n bs i).getD b.i none = some u) : ∃ v, (sums n bs i).getD b.j none = some v ∧ u + b.d ≤ v := by
  obtain ⟨_, f, _⟩ := sums_great hx hi hp
  have g : passF bs (atO (sums n bs i)) = atO (sums n bs i) := by rw [← atO_pass (by rw [sums_len]; exact hx), f]
  exact fixed g hb e
theorem ix_snoc (hx : Ix n bs) (hi : i < n) (hj : j < n) {d : Int} : Ix n (bs ++ [⟨j, i, d⟩]) := fun b hb => by
  rcases List.mem_append.mp hb with z | z
  · exact hx b z
  · rw [List.mem_singleton.mp z]; exact ⟨hj, hi⟩
/-- as far apart as they are forced to be, and no less -/
theorem forced_zero (hx : Ix n bs) (hi : i < n) (hj : j < n) (hp : ∀ b ∈ bs, p b.i + b.d ≤ p b.j) (pp : ∀ k, k < n → 0 ≤ p k) {c : Int} (e : (sums n bs i).getD j none = some c) {d : Int} (hd : d ≤ 0 - c) :
    ∃ z, iterI (bs ++ [⟨j, i, d⟩]) (n + 1) (List.replicate n 0) = some z := by
  obtain ⟨M1, h1, g1⟩ := top_of (fun b : Bnd => p b.i + b.d - ((sums n bs i).getD b.j none).getD 0) bs
  obtain ⟨M2, h2, g2⟩ := top_of (fun k : Nat => - ((sums n bs i).getD k none).getD 0) (List.range n)
  refine iter_ex (p := fun k => match (sums n bs i).getD k none with | some c => c + (M1 + M2) | none => p k) (by omega) (ix_snoc hx hi hj) (fun b hb => ?_) (fun k hk => ?_) (by omega)
  · rcases List.mem_append.mp hb with hb | hb
    · cases ei : (sums n bs i).getD b.i none with
      | some u =>
        obtain ⟨v, ev, lv⟩ := sums_fix hx hi hp hb ei
        simp only [ei, ev]
        omega
      | none =>
        have q := hp b hb
        cases ej : (sums n bs i).getD b.j none with
        | some v =>
          have := g1 b hb
          simp only [ej, Option.getD_some] at this
          simp only [ei, ej]
          omega
        | none =>
          simp only [ei, ej]
          exact q
    · rw [List.mem_singleton.mp hb]
      simp only [e, sums_self hx hi hp]
      omega
  · cases ek : (sums n bs i).getD k none with
    | some v =>
      have := g2 k (List.mem_range.mpr hk)
      simp only [ek, Option.getD_some] at this
      simp only [ek]
      omega
    | none => simp only [ek]; exact pp k hk
theorem forced_less (hx : Ix n bs) (hi : i < n) (hj : j < n) (hp : ∀ b ∈ bs, p b.i + b.d ≤ p b.j) {c : Int} (e : (sums n bs i).getD j none = some c) {d : Int} (hd : 0 - c < d) :
    iterI (bs ++ [⟨j, i, d⟩]) (n + 1) (List.replicate n 0) = none := by
  cases q : iterI (bs ++ [⟨j, i, d⟩]) (n + 1) (List.replicate n 0) with
  | none => rfl
  | some z =>
    have s := iter_sol (ix_snoc hx hi hj) q
    have ch := (sums_great hx hi hp).1.is j c e
    have a := ch.le (y := fun k => z.getD k 0) fun b hb => s b (List.mem_append.mpr (.inl hb))
    have b := s ⟨j, i, d⟩ (List.mem_append.mpr (.inr (List.mem_singleton.mpr rfl)))
    have a : z.getD i 0 + c ≤ z.getD j 0 := a
    have b : z.getD j 0 + d ≤ z.getD i 0 := b
    omega
theorem forced_any (hx : Ix n bs) (hi : i < n) (hj : j < n) (hp : ∀ b ∈ bs, p b.i + b.d ≤ p b.j) (pp : ∀ k, k < n → 0 ≤ p k) (e : (sums n bs i).getD j none = none) (d : Int) :
    ∃ z, iterI (bs ++ [⟨j, i, d⟩]) (n + 1) (List.replicate n 0) = some z := by
  refine iter_ex (p := fun k => match (sums n bs i).getD k none with | some _ => p k + (p j + d - p i).natAbs | none => p k) (by omega) (ix_snoc hx hi hj) (fun b hb => ?_) (fun k hk => ?_) (by omega)
  · rcases List.mem_append.mp hb with hb | hb
    · have q := hp b hb
      cases ei : (sums n bs i).getD b.i none with
      | some u =>
        obtain ⟨v, ev, lv⟩ := sums_fix hx hi hp hb ei
        simp only [ei, ev]
        omega
      | none =>
        cases ej : (sums n bs i).getD b.j none with
        | some v => simp only [ei, ej]; omega
        | none => simp only [ei, ej]; exact q
    · rw [List.mem_singleton.mp hb]
      simp only [e, sums_self hx hi hp]
      omega
  · have := pp k hk
    cases ek : (sums n bs i).getD k none with
    | some v => simp only [ek]; omega
    | none => simp only [ek]; exact this
theorem forced_tri {t : Nat} (hx : Ix n bs) (hi : i < n) (ht : t < n) (hp : ∀ b ∈ bs, p b.i + b.d ≤ p b.j) {a b : Int} (ea : (sums n bs i).getD t none = some a) (eb : (sums n bs t).getD j none = some b) :
    ∃ c, (sums n bs i).getD j none = some c ∧ a + b ≤ c := by
  have c1 := (sums_great hx hi hp).1.is t a ea
  have c2 := (sums_great hx ht hp).1.is j b eb
  exact (sums_great hx hi hp).1.max j _ (c1.trans c2)
end
end Bm

set_option linter.all false
/-! the least numbers: from below, and grounded -/
namespace Bm
theorem below_passes {n : Nat} {bs : List Bnd} {P : Nat → Prop} {base : Fn} {y : Nat → Int} (F : Frame n bs P base) (S : Sol bs P base y) : ∀ (t : Nat) (f : Fn), Below P y f → Below P y (passes bs t f)
  | 0, _, h => h
  | t + 1, f, h => below_passes F S t _ (below_pass F S h)
/-- what was found is below all that fulfils the bounds -/
theorem iter_least {n N : Nat} {bs : List Bnd} {z : List Int} (hx : Ix n bs) (h : iterI bs N (List.replicate n 0) = some z) {y : Nat → Int} (hy : ∀ b ∈ bs, y b.i + b.d ≤ y b.j) (yp : ∀ k, k < n → 0 ≤ y k) : ∀ k, k < n → z.getD k 0 ≤ y k := fun k hk => by
  obtain ⟨_, t, _, rfl⟩ := iter_some h
  have hl : (List.replicate n (0 : Int)).length = n := List.length_replicate
  have F : Frame n bs (fun _ => True) (atI' (List.replicate n 0)) := ⟨hx, fun _ _ _ => trivial, fun k v e => by
    rw [atI_zeros] at e
    split at e
    · rename_i z; exact ⟨trivial, z⟩
    · cases e⟩
  have S : Sol bs (fun _ => True) (atI' (List.replicate n 0)) y := ⟨fun b hb _ => hy b hb, fun k v e => by
    rw [atI_zeros] at e
    split at e
    · rename_i z; cases e; exact yp k z
    · cases e⟩
  have B := below_passes F S t (atI' (List.replicate n 0)) (fun k v e => ⟨trivial, S.base k v e⟩)
  have e := atI_passes (bs := bs) (n := t) (x := List.replicate n 0) (by rw [hl]; exact hx)
  have hlen : (passesI bs t (List.replicate n 0)).length = n := by rw [passesI_len, hl]
  have g : atI' (passesI bs t (List.replicate n 0)) k = some ((passesI bs t (List.replicate n 0)).getD k 0) := by
    unfold atI'
    rw [List.getD_eq_getElem?_getD, List.getElem?_eq_getElem (by omega)]; rfl
  rw [e] at g
  exact (B k _ g).2
theorem iter_len {n N : Nat} {bs : List Bnd} {z : List Int} (h : iterI bs N (List.replicate n 0) = some z) : z.length = n := by
  obtain ⟨_, t, _, rfl⟩ := iter_some h
  rw [passesI_len, List.length_replicate]
theorem passesI_le {bs : List Bnd} : ∀ (t : Nat) {x : List Int}, Ix x.length bs → Le x (passesI bs t x)
  | 0, x, _ => Le.refl x
  | t + 1, x, h => (passI_le h).trans (passesI_le t (x := passI bs x) (by rw [passI_len]; exact h))
theorem iter_pos {n N : Nat} {bs : List Bnd} {z : List Int} (hx : Ix n bs) (h : iterI bs N (List.replicate n 0) = some z) : ∀ v ∈ z, 0 ≤ v := fun v hv => by
  obtain ⟨_, t, _, rfl⟩ := iter_some h
  have l := passesI_le t (x := List.replicate n (0 : Int)) (bs := bs) (by rw [List.length_replicate]; exact hx)
  obtain ⟨k, hk, rfl⟩ := List.mem_iff_getElem.mp hv
  have := l.2 k
  have e : (passesI bs t (List.replicate n 0)).getD k 0 = (passesI bs t (List.replicate n 0))[k] := by
    rw [List.getD_eq_getElem?_getD, List.getElem?_eq_getElem hk]; rfl
  rw [e] at this
  have e0 : (List.replicate n (0 : Int)).getD k 0 = 0 := by
    rw [List.getD_eq_getElem?_getD, List.getElem?_replicate]
    split <;> rfl
  rw [e0] at this
  exact this
/-! ### grounded -/
def grow (z : List Int) (g : List Nat) (b : Bnd) : List Nat := if b.i ∈ g ∧ z.getD b.j 0 = z.getD b.i 0 + b.d ∧ ¬ b.j ∈ g then g ++ [b.j] else g
def turn (z : List Int) (bs : List Bnd) (g : List Nat) : List Nat := bs.foldl (grow z) g
def turns (z : List Int) (bs : List Bnd) : Nat → List Nat → List Nat
  | 0, g => g
  | t + 1, g => turns z bs t (turn z bs g)
theorem turns_succ (z : List Int) (bs : List Bnd) : ∀ (t : Nat) (g : List Nat), turns z bs (t + 1) g = turn z bs (turns z bs t g)
  | 0, _ => rfl
  | t + 1, g => turns_succ z bs t (turn z bs g)
theorem turn_take {z : List Int} {bs : List Bnd} {k : Nat} {b : Bnd} (g : List Nat) (h : bs[k]? = some b) : turn z (bs.take (k + 1)) g = grow z (turn z (bs.take k) g) b := by
  unfold turn
  rw [List.take_add_one, h, List.foldl_append]
  rfl
structure GOk (n : Nat) (g : List Nat) : Prop where
  nd : g.Nodup
  lt : ∀ k ∈ g, k < n
theorem grow_ok {n : Nat} {z : List Int} {g : List Nat} {b : Bnd} (hb : b.j < n) (h : GOk n g) : GOk n (grow z g b) := by
  unfold grow
  split
  · rename_i c
    refine ⟨List.nodup_append.mpr ⟨h.nd, by simp, fun a ha x hx => ?_⟩, fun k hk => ?_⟩
    · rw [List.mem_singleton.mp hx]
      exact fun e => c.2.2 (e ▸ ha)
    · rcases List.mem_append.mp hk with q | q
      · exact h.lt k q
      · rw [List.mem_singleton.mp q]; exact hb
  · exact h
theorem grow_sub {z : List Int} {g : List Nat} {b : Bnd} {k : Nat} (h : k ∈ g) : k ∈ grow z g b := by
  unfold grow
  split
  · exact List.mem_append.mpr (.inl h)
  · exact h
theorem grow_len {z : List Int} {g : List Nat} {b : Bnd} : g.length ≤ (grow z g b).length := by
  unfold grow
  split
  · rw [List.length_append]; omega
  · exact Nat.le_refl _
theorem turn_ok {n : Nat} {z : List Int} : ∀ {bs : List Bnd} {g : List Nat}, Ix n bs → GOk n g → GOk n (turn z bs g)
  | [], _, _, h => h
  | b :: bs, g, hx, h => turn_ok (bs := bs) (fun c hc => hx c (List.mem_cons_of_mem _ hc)) (grow_ok (hx b List.mem_cons_self).2 h)
theorem turn_sub {z : List Int} : ∀ {bs : List Bnd} {g : List Nat} {k : Nat}, k ∈ g → k ∈ turn z bs g
  | [], _, _, h => h
  | b :: bs, g, k, h => turn_sub (bs := bs) (grow_sub h)
theorem turn_len {z : List Int} : ∀ {bs : List Bnd} {g : List Nat}, g.length ≤ (turn z bs g).length
  | [], _ => Nat.le_refl _
  | b :: bs, g => Nat.le_trans (grow_len (z := z) (b := b)) (turn_len (bs := bs))
def Closed (z : List Int) (bs : List Bnd) (g : List Nat) : Prop := ∀ b ∈ bs, b.i ∈ g → z.getD b.j 0 = z.getD b.i 0 + b.d → b.j ∈ g
theorem turn_closed {z : List Int} : ∀ {bs : List Bnd} {g : List Nat}, Closed z bs g → turn z bs g = g
  | [], _, _ => rfl
  | b :: bs, g, h => by
    have e : grow z g b = g := by
      unfold grow
      rw [if_neg (fun c => c.2.2 (h b List.mem_cons_self c.1 c.2.1))]
    show turn z bs (grow z g b) = g
    rw [e]
    exact turn_closed fun c hc => h c (List.mem_cons_of_mem _ hc)
theorem closed_or {z : List Int} : ∀ {bs : List Bnd} {g : List Nat}, Closed z bs g ∨ g.length + 1 ≤ (turn z bs g).length
  | [], _ => .inl fun b h => by simp at h
  | b :: bs, g => by
    by_cases c : b.i ∈ g ∧ z.getD b.j 0 = z.getD b.i 0 + b.d ∧ ¬ b.j ∈ g
    · refine .inr ?_
      show g.length + 1 ≤ (turn z bs (grow z g b)).length
      have e : (grow z g b).length = g.length + 1 := by unfold grow; rw [if_pos c, List.length_append]; rfl
      rw [← e]
      exact turn_len
    · have e : grow z g b = g := by unfold grow; rw [if_neg c]
      rcases closed_or (z := z) (bs := bs) (g := g) with h | h
      · refine .inl fun d hd => ?_
        rcases List.mem_cons.mp hd with rfl | hd
        · intro a1 a2
          exact Classical.byContradiction fun a3 => c ⟨a1, a2, a3⟩
        · exact h d hd
      · refine .inr ?_
        show g.length + 1 ≤ (turn z bs (grow z g b)).length
        rw [e]
        exact h
theorem turns_or {n : Nat} {z : List Int} {bs : List Bnd} (hx : Ix n bs) {g : List Nat} (h : GOk n g) : ∀ t : Nat, GOk n (turns z bs t g) ∧ (∀ k ∈ g, k ∈ turns z bs t g) ∧ (Closed z bs (turns z bs t g) ∨ t ≤ (turns z bs t g).length)
  | 0 => ⟨h, fun _ q => q, .inr (Nat.zero_le _)⟩
  | t + 1 => by
    obtain ⟨a, b, c⟩ := turns_or hx h t
    rw [turns_succ]
    refine ⟨turn_ok hx a, fun k q => turn_sub (b k q), ?_⟩
    rcases c with c | c
    · rw [turn_closed c]; exact .inl c
    · rcases closed_or (z := z) (bs := bs) (g := turns z bs t g) with q | q
      · rw [turn_closed q]; exact .inl q
      · exact .inr (by omega)
theorem nd_le : ∀ (n : Nat) (l : List Nat), l.Nodup → (∀ x ∈ l, x < n) → l.length ≤ n
  | 0, l, _, h => by
    cases l with
    | nil => exact Nat.le_refl _
    | cons a l => have := h a List.mem_cons_self; omega
  | n + 1, l, nd, h => by
    have h1 := nd_le n (l.erase n) (nd.erase n) fun x hx => by
      have hm := (List.Nodup.mem_erase_iff nd).mp hx
      have := h x hm.2
      have := hm.1
      omega
    by_cases m : n ∈ l
    · rw [List.length_erase_of_mem m] at h1; omega
    · rw [List.erase_of_not_mem m] at h1; omega
theorem nd_all {n : Nat} {l : List Nat} (h : GOk n l) (hl : n ≤ l.length) {k : Nat} (hk : k < n) : k ∈ l := Classical.byContradiction fun q => by
  have := nd_le n (k :: l) (List.nodup_cons.mpr ⟨q, h.nd⟩) fun x hx => by
    rcases List.mem_cons.mp hx with rfl | hx
    · exact hk
    · exact h.lt x hx
  rw [List.length_cons] at this
  omega
/-- every number that is not 0 is forced by a chain that begins with a 0 -/
theorem grounded {n N : Nat} {bs : List Bnd} {z : List Int} (hx : Ix n bs) (h : iterI bs N (List.replicate n 0) = some z) {g : List Nat} (hg : GOk n g) (h0 : ∀ k, k < n → z.getD k 0 = 0 → k ∈ g) :
    GOk n (turns z bs n g) ∧ ∀ k, k < n → k ∈ turns z bs n g := by
  obtain ⟨a, b, c⟩ := turns_or (z := z) hx hg n
  refine ⟨a, ?_⟩
  rcases c with c | c
  · intro k hk
    apply Classical.byContradiction
    intro q
    have zl := iter_len h
    have zs := iter_sol hx h
    have zp : ∀ k, k < n → 0 ≤ z.getD k 0 := fun k hk => by
      rw [List.getD_eq_getElem?_getD, List.getElem?_eq_getElem (by omega)]
      exact iter_pos hx h _ (List.getElem_mem _)
    have low := iter_least hx h (y := fun k => if k ∈ turns z bs n g then z.getD k 0 else z.getD k 0 - 1) (fun d hd => ?_) (fun k hk => ?_) k hk
    · rw [if_neg q] at low; omega
    · have s := zs d hd
      by_cases ij : d.j ∈ turns z bs n g
      · rw [if_pos ij]; split <;> omega
      · rw [if_neg ij]
        by_cases ii : d.i ∈ turns z bs n g
        · rw [if_pos ii]
          have : z.getD d.j 0 ≠ z.getD d.i 0 + d.d := fun e => ij (c d hd ii e)
          omega
        · rw [if_neg ii]; omega
    · have p := zp k hk
      split
      · exact p
      · rename_i m
        have : z.getD k 0 ≠ 0 := fun e => m (b k (h0 k hk e))
        omega
  · exact fun k hk => nd_all a c hk
/-! ### how great -/
def SmallI (c : Nat) (x : List Int) : Prop := ∀ v ∈ x, v.natAbs ≤ c
theorem smallI_get {c : Nat} {x : List Int} (h : SmallI c x) (k : Nat) : (x.getD k 0).natAbs ≤ c := by
  rw [List.getD_eq_getElem?_getD]
  cases e : x[k]? with
  | none => exact Nat.zero_le _
  | some v => exact h v (List.mem_of_getElem? e)
theorem smallI_relax {B c : Nat} {x : List Int} {b : Bnd} (hb : b.d.natAbs ≤ B) (h : SmallI c x) : SmallI (c + B) (relaxI x b) := fun v hv => by
  unfold relaxI at hv
  split at hv
  · rcases List.mem_or_eq_of_mem_set hv with q | q
    · have := h v q; omega
    · rw [q]
      have := smallI_get h b.i
      omega
  · have := h v hv; omega
theorem smallI_pass {B : Nat} : ∀ {bs : List Bnd} {c : Nat} {x : List Int}, (∀ b ∈ bs, b.d.natAbs ≤ B) → SmallI c x → SmallI (c + bs.length * B) (passI bs x)
  | [], c, x, _, h => by rw [List.length_nil, Nat.zero_mul]; exact h
  | b :: bs, c, x, hb, h => by
    have h2 := smallI_pass (bs := bs) (x := relaxI x b) (fun d hd => hb d (List.mem_cons_of_mem _ hd)) (smallI_relax (hb b List.mem_cons_self) h)
    have : c + (b :: bs).length * B = c + B + bs.length * B := by rw [List.length_cons, Nat.succ_mul]; omega
    rw [this]
    exact h2
theorem smallI_passes {B : Nat} {bs : List Bnd} (hb : ∀ b ∈ bs, b.d.natAbs ≤ B) : ∀ (n : Nat) {c : Nat} {x : List Int}, SmallI c x → SmallI (c + n * (bs.length * B)) (passesI bs n x)
  | 0, c, x, h => by rw [Nat.zero_mul]; exact h
  | n + 1, c, x, h => by
    have h2 := smallI_passes hb n (x := passI bs x) (smallI_pass hb h)
    have : c + (n + 1) * (bs.length * B) = c + bs.length * B + n * (bs.length * B) := by rw [Nat.succ_mul]; omega
    rw [this]
    exact h2
theorem iter_small {n N B : Nat} {bs : List Bnd} {z : List Int} (hb : ∀ b ∈ bs, b.d.natAbs ≤ B) (h : iterI bs N (List.replicate n 0) = some z) : SmallI (N * (bs.length * B)) z := by
  obtain ⟨_, t, ht, rfl⟩ := iter_some h
  have := smallI_passes hb t (x := List.replicate n 0) (c := 0) fun v hv => by rw [(List.mem_replicate.mp hv).2]; exact Nat.le_refl _
  intro v hv
  have := this v hv
  have l : t * (bs.length * B) ≤ N * (bs.length * B) := Nat.mul_le_mul_right _ (by omega)
  omega
/-- whether numbers fulfil the bounds -/
def ful (bs : List Bnd) (x : List Int) : Bool := bs.all fun b => decide (x.getD b.i 0 + b.d ≤ x.getD b.j 0)
theorem ful_of {n N : Nat} {bs : List Bnd} {z : List Int} (hx : Ix n bs) (h : iterI bs N (List.replicate n 0) = some z) : ful bs z = true := by
  unfold ful
  rw [List.all_eq_true]
  exact fun b hb => decide_eq_true (iter_sol hx h b hb)
end Bm

set_option Elab.async false
set_option linter.all false
set_option maxRecDepth 100000
set_option maxHeartbeats 4000000
/-! a list's slice with a step -/
namespace Gd
open PySem PySem.Spec PyProof.Rows L2
def stepIx (n : Nat) (lo hi : Option Int) (k : Int) : List Nat :=
  let b := sliceBounds lo hi (some k) n
  sliceRange b.1 b.2.1 b.2.2
def stepV {α : Type} (xs : List α) (lo hi : Option Int) (k : Int) : List α := (stepIx xs.length lo hi k).filterMap fun i => xs[i]?
def tSlK (K : PySem.W.Frag) (te : TE) (tl th ts : TO) : TE := fun σ H Q => te σ H fun x H1 => tl σ H1 fun l H2 => th σ H2 fun u H3 => ts σ H3 fun y H4 =>
  ∃ (a : Addr) (xs : List V) (k : Int), x = .ref a ∧ y = some k ∧ k ≠ 0 ∧ SqL K H4 a xs ∧ (stepV xs l u k).length ≤ xs.length ∧ ∀ p, H4 p = none → Q (.ref p) (upd H4 p (.lst (stepV xs l u k)))
theorem vals_pick {xs : List V} {us : List Value} (r : Vals xs us) : ∀ is : List Nat, Vals (is.filterMap fun i => xs[i]?) (is.filterMap fun i => us[i]?)
  | [] => .nil
  | i :: is => by
    have ih := vals_pick r is
    rw [List.filterMap_cons, List.filterMap_cons]
    cases h : xs[i]? with
    | none =>
      have : us[i]? = none := by
        rw [List.getElem?_eq_none_iff] at h ⊢
        rw [← r.length]; exact h
      rw [this]
      exact ih
    | some x =>
      obtain ⟨u, hu, ru⟩ := r.get h
      rw [hu]
      exact .cons ru ih
section
variable {X : Cx} {e : Expr} {lo hi : Option Expr} {st : Expr} {p2 pos : Pos} {te : TE} {tl th ts : TO}
theorem pe_slk (he : PE X e te) (hl : PO X lo tl) (hu : PO X hi th) (hs : PO X (some st) ts) : PE X (.Subscript e (.Slice lo hi (some st) p2) pos) (tSlK X.K te tl th ts) := by
  refine ⟨fun pins s σ H Q I h => Subscript_ (thn (he.run pins s σ H _ I h) fun v s1 z1 => ?_)⟩
  obtain ⟨x, H1, I1, r1, q1⟩ := z1
  refine wpAny_Slice (thn (hl.run pins s1 σ H1 _ I1 q1) fun vl s2 z2 => ?_)
  obtain ⟨l, H2, I2, pl, q2⟩ := z2
  refine thn (hu.run pins s2 σ H2 _ I2 q2) fun vu s3 z3 => ?_
  obtain ⟨u, H3, I3, pu, q3⟩ := z3
  refine thn (hs.run pins s3 σ H3 _ I3 q3) fun vs s4 z4 => ?_
  obtain ⟨y, H4, I4, ps, a, xs, k, rfl, rfl, k0, hx, hlen, q⟩ := z4
  have I5 : Inv X pins σ H4 { s4 with heap := s4.heap.push { cls := .type "slice", data := .fields #[vl, vu, vs] } } := I4.kept (t' := s4.toks) fun b o m => Heap.get?_push_of_some _ m
  cases r1
  obtain ⟨its, r, ht, hz⟩ := I5.list hx
  have hn := r.length
  refine tail_any (ops := [.ref a, .ref s4.heap.objs.size]) ht.isList.typeIs slot_list_getitem.lookup ?_ (by with_unfolding_all rfl)
  refine wpAny_getItem_list_slice ht.isList (Heap.IsSliceOf.new ..) pl pu ps (fun m => k0 (Option.some.inj m)) ?_ (by rw [List.size_toArray, ← hn]; exact hz)
  have er : (slicePick its.toArray l u (some k)).toList = (stepIx xs.length l u k).filterMap fun i => its[i]? := by
    unfold slicePick stepIx
    rw [List.size_toArray, hn]
    simp
  have rv := vals_pick r (stepIx xs.length l u k)
  have I6 := I5.laid (t' := s4.toks) (a := (s4.heap.push { cls := .type "slice", data := .fields #[vl, vu, vs] }).objs.size) (o := .lst (stepV xs l u k)) (h' := (s4.heap.push { cls := .type "slice", data := .fields #[vl, vu, vs] }).push { cls := .type "list", data := .seq (slicePick its.toArray l u (some k)) }) (fun b o m => Heap.get?_push_of_some _ m) (Nat.le_refl _)
    ⟨Nat.le_trans hlen (by rw [hn]; omega), _, 0, rv, by rw [← er, Array.toArray_toList]; exact Heap.get?_push_size _ rfl⟩
  exact ⟨.ref _, _, I6, rfl, q _ (I5.hok.fresh (Nat.le_refl _))⟩
end
end Gd

set_option Elab.async false
set_option linter.all false
set_option maxRecDepth 100000
set_option maxHeartbeats 4000000
namespace K35
open PySem PySem.Spec PyProof.Rows L2 Gd Rm Bm
def topS (i : Nat) : Stmt := PySem.Challenge.pw_holdtap_k35_least_numbers.main.body.getD i (.Pass ⟨0, 0, 0, 0⟩)
abbrev s_is_an_integer : Stmt := topS 5
abbrev n_is_an_integer : List Str := ["value"]
theorem sc_is_an_integer : FnScope n_is_an_integer ["value"] (defScope s_is_an_integer) := ⟨rfl, rfl, rfl, by decide +kernel, rfl, by decide +kernel, by decide +kernel⟩
-- 0 value
abbrev s_is_between : Stmt := topS 6
abbrev n_is_between : List Str := ["value", "low", "high"]
theorem sc_is_between : FnScope n_is_between ["value", "low", "high"] (defScope s_is_between) := ⟨rfl, rfl, rfl, by decide +kernel, rfl, by decide +kernel, by decide +kernel⟩
-- 0 value, 1 low, 2 high
abbrev s_is_bounds : Stmt := topS 10
abbrev n_is_bounds : List Str := ["value", "many", "bound"]
theorem sc_is_bounds : FnScope n_is_bounds ["value", "many"] (defScope s_is_bounds) := ⟨rfl, rfl, rfl, by decide +kernel, rfl, by decide +kernel, by decide +kernel⟩
-- 0 value, 1 many*, 2 bound*
abbrev s_holds : Stmt := topS 11
abbrev n_holds : List Str := ["many", "bounds", "numbers", "i", "j", "d", "number"]
theorem sc_holds : FnScope n_holds ["many", "bounds", "numbers"] (defScope s_holds) := ⟨rfl, rfl, rfl, by decide +kernel, rfl, by decide +kernel, by decide +kernel⟩
-- 0 many, 1 bounds, 2 numbers*, 3 i*, 4 j*, 5 d*, 6 number*
abbrev s_least_numbers : Stmt := topS 12
abbrev n_least_numbers : List Str := ["many", "bounds"]
theorem sc_least_numbers : FnScope n_least_numbers ["many", "bounds"] (defScope s_least_numbers) := ⟨rfl, rfl, rfl, by decide +kernel, rfl, by decide +kernel, by decide +kernel⟩
-- 0 many, 1 bounds
abbrev s_least_above : Stmt := topS 13
abbrev n_least_above : List Str := ["numbers", "bounds", "least", "_", "raised", "i", "j", "d"]
theorem sc_least_above : FnScope n_least_above ["numbers", "bounds"] (defScope s_least_above) := ⟨rfl, rfl, rfl, by decide +kernel, rfl, by decide +kernel, by decide +kernel⟩
-- 0 numbers, 1 bounds, 2 least, 3 _, 4 raised, 5 i, 6 j, 7 d
abbrev s_check_bounds : Stmt := topS 14
abbrev n_check_bounds : List Str := ["many", "bounds"]
theorem sc_check_bounds : FnScope n_check_bounds ["many", "bounds"] (defScope s_check_bounds) := ⟨rfl, rfl, rfl, by decide +kernel, rfl, by decide +kernel, by decide +kernel⟩
-- 0 many, 1 bounds
abbrev s_is_bound : Stmt := topS 15
abbrev n_is_bound : List Str := ["value", "many", "i", "j", "d"]
theorem sc_is_bound : FnScope n_is_bound ["value", "many"] (defScope s_is_bound) := ⟨rfl, rfl, rfl, by decide +kernel, rfl, by decide +kernel, by decide +kernel⟩
-- 0 value, 1 many, 2 i, 3 j, 4 d
abbrev s__law_pool : Stmt := topS 17
abbrev n__law_pool : List Str := ["_law_script", "_law_at", "_law_cell"]
theorem sc__law_pool : FnScope n__law_pool ["_law_script", "_law_at"] (defScope s__law_pool) := ⟨rfl, rfl, rfl, by decide +kernel, rfl, by decide +kernel, by decide +kernel⟩
-- 0 _law_script, 1 _law_at, 2 _law_cell
abbrev s__law_draw : Stmt := topS 18
abbrev n__law_draw : List Str := ["_law_pool_here", "_law_many", "_law_drawn", "_law_mixed"]
theorem sc__law_draw : FnScope n__law_draw ["_law_pool_here", "_law_many"] (defScope s__law_draw) := ⟨rfl, rfl, rfl, by decide +kernel, rfl, by decide +kernel, by decide +kernel⟩
-- 0 _law_pool_here, 1 _law_many, 2 _law_drawn, 3 _law_mixed
abbrev s__law_lifted : Stmt := topS 19
abbrev n__law_lifted : List Str := ["_law_bounds_here", "_law_begun", "_law_numbers", "_law_turn", "_law_kept", "_law_i", "_law_j", "_law_d"]
theorem sc__law_lifted : FnScope n__law_lifted ["_law_bounds_here", "_law_begun"] (defScope s__law_lifted) := ⟨rfl, rfl, rfl, by decide +kernel, rfl, by decide +kernel, by decide +kernel⟩
-- 0 _law_bounds_here, 1 _law_begun, 2 _law_numbers, 3 _law_turn, 4 _law_kept, 5 _law_i, 6 _law_j, 7 _law_d
abbrev s__law_bounds : Stmt := topS 20
abbrev n__law_bounds : List Str := ["_law_pool_here", "_law_many", "_law_size", "_law_top", "_law_turn", "_law_fine", "_law_found", "_law_i", "_law_j", "_law_free", "_law_spot"]
theorem sc__law_bounds : FnScope n__law_bounds ["_law_pool_here", "_law_many", "_law_size"] (defScope s__law_bounds) := ⟨rfl, rfl, rfl, by decide +kernel, rfl, by decide +kernel, by decide +kernel⟩
-- 0 _law_pool_here*, 1 _law_many, 2 _law_size, 3 _law_top*, 4 _law_turn, 5 _law_fine, 6 _law_found, 7 _law_i, 8 _law_j, 9 _law_free, 10 _law_spot
abbrev s__law_grounded : Stmt := topS 21
abbrev n__law_grounded : List Str := ["_law_numbers", "_law_bounds_here", "_law_ground", "_law_turn", "_law_i", "_law_j", "_law_d", "_law_spot", "_law_number"]
theorem sc__law_grounded : FnScope n__law_grounded ["_law_numbers", "_law_bounds_here"] (defScope s__law_grounded) := ⟨rfl, rfl, rfl, by decide +kernel, rfl, by decide +kernel, by decide +kernel⟩
-- 0 _law_numbers, 1 _law_bounds_here, 2 _law_ground, 3 _law_turn, 4 _law_i, 5 _law_j, 6 _law_d, 7 _law_spot*, 8 _law_number*
abbrev s__law_fulfilled : Stmt := topS 22
abbrev n__law_fulfilled : List Str := ["_law_bounds_here", "_law_numbers", "_law_i", "_law_j", "_law_d"]
theorem sc__law_fulfilled : FnScope n__law_fulfilled ["_law_bounds_here", "_law_numbers"] (defScope s__law_fulfilled) := ⟨rfl, rfl, rfl, by decide +kernel, rfl, by decide +kernel, by decide +kernel⟩
-- 0 _law_bounds_here, 1 _law_numbers*, 2 _law_i*, 3 _law_j*, 4 _law_d*
abbrev s__law_judged_right : Stmt := topS 23
abbrev n__law_judged_right : List Str := ["_law_pool_here", "_law_many", "_law_bounds_here", "_law_numbers", "_law_up", "_law_some", "_law_turn", "_law_spot", "_law_thing", "_law_odd", "_law_number"]
theorem sc__law_judged_right : FnScope n__law_judged_right ["_law_pool_here", "_law_many", "_law_bounds_here", "_law_numbers"] (defScope s__law_judged_right) := ⟨rfl, rfl, rfl, by decide +kernel, rfl, by decide +kernel, by decide +kernel⟩
-- 0 _law_pool_here, 1 _law_many*, 2 _law_bounds_here*, 3 _law_numbers, 4 _law_up*, 5 _law_some, 6 _law_turn, 7 _law_spot, 8 _law_thing, 9 _law_odd, 10 _law_number*
abbrev s__law_right : Stmt := topS 24
abbrev n__law_right : List Str := ["_law_pool_here", "_law_many", "_law_bounds_here", "_law_kept", "_law_due", "_law_told", "_law_zeros"]
theorem sc__law_right : FnScope n__law_right ["_law_pool_here", "_law_many", "_law_bounds_here"] (defScope s__law_right) := ⟨rfl, rfl, rfl, by decide +kernel, rfl, by decide +kernel, by decide +kernel⟩
-- 0 _law_pool_here, 1 _law_many, 2 _law_bounds_here, 3 _law_kept, 4 _law_due, 5 _law_told, 6 _law_zeros
abbrev s_law : Stmt := topS 25
abbrev n_law : List Str := ["_law_script", "_law_at", "_law_pool_here", "_law_many", "_law_sizes", "_law_bounds_here", "_law_chain", "_law_spot", "_law_d"]
theorem sc_law : FnScope n_law ["_law_script"] (defScope s_law) := ⟨rfl, rfl, rfl, by decide +kernel, rfl, by decide +kernel, by decide +kernel⟩
-- 0 _law_script, 1 _law_at, 2 _law_pool_here, 3 _law_many, 4 _law_sizes, 5 _law_bounds_here, 6 _law_chain, 7 _law_spot*, 8 _law_d*

/-! ### the pool -/
def Reel (H : Hp) (r : Addr) (n : Nat) : Prop := ∃ x y z : Int, H r = some (.lst [.int x, .int y, .int z]) ∧ 0 ≤ x ∧ 0 ≤ y ∧ y < 2 ^ 62 ∧ 0 ≤ z ∧ z ≤ (n : Int)
theorem Reel.mono {H : Hp} {r : Addr} {n m : Nat} (h : Reel H r n) (l : n ≤ m) : Reel H r m := by
  obtain ⟨x, y, z, a, b, c, d, e, f⟩ := h
  exact ⟨x, y, z, a, b, c, d, e, by omega⟩
theorem Reel.same {H H' : Hp} {r : Addr} {n : Nat} (h : Reel H r n) (l : Same H H') : Reel H' r n := by
  obtain ⟨x, y, z, a, b⟩ := h
  exact ⟨x, y, z, l _ _ a, b⟩
/-- the draws so far are fewer than this -/
abbrev most : Nat := 1000000000
def spDraw : Sp := fun vs H Q _ => ∃ (r : Addr) (m : Int) (n : Nat), vs = [.ref r, .int m] ∧ 0 < m ∧ m < 10 ^ 40 ∧ n < most ∧ Reel H r n ∧
  ∀ d H', 0 ≤ d → d < m → Reel H' r (n + 1) → Off r H H' → Q (.int d) H'
structure Bt (mg : Str → Option Value) : Prop where
  m_len : mg "len" = none
  m_abs : mg "abs" = none
  m_max : mg "max" = none
  m_min : mg "min" = none
  m_sum : mg "sum" = none
  m_repr : mg "repr" = none
  m_isinstance : mg "isinstance" = none
  m_all : mg "all" = none
  m_list : mg "list" = none
  m_tuple : mg "tuple" = none
  m_int : mg "int" = none
  m_bool : mg "bool" = none
  m_range : mg "range" = none
  m_enumerate : mg "enumerate" = none
  m_sorted : mg "sorted" = none
section
variable {P : Program} {w : World} {K : PySem.W.Frag} {mg : Str → Option Value} {base : Heap}
theorem ok__law_draw (a : At K mg "_law_draw" s__law_draw ["_law_pool_here", "_law_many"]) : Cl P w K mg base 1 "_law_draw" spDraw := by
  refine clG a sc__law_draw (fun vs H Q E h => ?_) (fun f cdv A outer s H vs Q hg hr h => ?_)
  · obtain ⟨r, m, n, rfl, _⟩ := h
    rfl
  · obtain ⟨r, m, n, rfl, hm, hm2, hn0, ⟨x, y, z, hR, hx, hy, hy2, hz, hz2⟩, q⟩ := h
    have hn : n < 1000000000 := hn0
    refine ⟨_, (pss_cons (ps_if (pt_cmpR op_gt (pe_ix ix_list (pv 0) pe_int (fun _ _ => rfl)) pe_int (nomark _)) (pss_cons (ps_set (i := 2) sc__law_draw.nd rfl (Or.inl rfl) (pe_op op_mod (pe_ix ix_list (pv 0) pe_int (fun _ _ => rfl)) (pv 1)))
      (pss_cons (ps_asg (pe_op op_fdivW (pe_ix ix_list (pv 0) pe_int (fun _ _ => rfl)) (pv 1)) (pg_sub (pv 0) pe_int set_list))
      (pss_one (ps_ret (pv 2))))) pss_nil)
      (pss_cons (ps_asg (pe_op op_add (pe_ix ix_list (pv 0) pe_int (fun _ _ => rfl)) pe_int) (pg_sub (pv 0) pe_int set_list))
      (pss_cons (ps_set (i := 3) sc__law_draw.nd rfl (Or.inl rfl) (pe_op op_mod (pe_op op_powW (pe_op op_add (pe_ix ix_list (pv 0) pe_int (fun _ _ => rfl)) (pe_op op_mulW pe_int (pe_ix ix_list (pv 0) pe_int (fun _ _ => rfl)))) pe_int) pe_int))
      (pss_cons (ps_set (i := 3) sc__law_draw.nd rfl (Or.inl rfl) (pe_op op_mod (pe_op op_powW (pe_op op_add (pv 3) (pe_op op_mulW pe_int (pe_ix ix_list (pv 0) pe_int (fun _ _ => rfl)))) pe_int) pe_int))
      (pss_one (ps_ret (pe_op op_mod (pe_op op_fdivW (pv 3) pe_int) (pv 1)))))))), ?_⟩
    refine ⟨_, rfl, r, _, 0, _, rfl, rfl, SqL.of hR, atI_nat (j := 0) rfl, ?_⟩
    refine ⟨_, _, rfl, rfl, _, rfl, ite2 (fun e => ?_) (fun e => ?_)⟩
    · have e0 : 0 < x := of_decide_eq_true e
      refine ⟨_, rfl, r, _, 0, _, rfl, rfl, SqL.of hR, atI_nat (j := 0) rfl, _, rfl, _, _, rfl, rfl, hm, ?_⟩
      refine ⟨_, rfl, r, _, 0, _, rfl, rfl, SqL.of hR, atI_nat (j := 0) rfl, _, rfl, _, _, rfl, rfl, wide_div (b := 140) hm (by omega) (by decide) (by decide), ?_⟩
      refine ⟨_, rfl, r, _, 0, 0, rfl, rfl, hR, rfl, ?_⟩
      refine ⟨_, rfl, q _ _ (Int.emod_nonneg _ (by omega)) (Int.emod_lt_of_pos _ hm) ⟨x / m, y, z, upd_same, Int.ediv_nonneg hx (by omega), hy, hy2, hz, by omega⟩ off_upd⟩
    · refine ⟨_, rfl, r, _, 2, _, rfl, rfl, SqL.of hR, atI_nat (j := 2) rfl, _, _, rfl, rfl, ?_⟩
      refine ⟨_, rfl, r, _, 2, 2, rfl, rfl, hR, rfl, ?_⟩
      have hR1 : upd H r (.lst [.int x, .int y, .int (z + 1)]) r = some (.lst [.int x, .int y, .int (z + 1)]) := upd_same
      refine ⟨_, rfl, r, _, 1, _, rfl, rfl, SqL.of hR1, atI_nat (j := 1) rfl, ?_⟩
      refine ⟨_, rfl, r, _, 2, _, rfl, rfl, SqL.of hR1, atI_nat (j := 2) rfl, ?_⟩
      have b1 : (z + 1).natAbs < 2 ^ 40 := by omega
      have b2 : (104729 * (z + 1)).natAbs < 2 ^ 80 := by omega
      refine ⟨_, _, rfl, rfl, wide_mul (a := 40) (b := 40) (by decide) b1 (by decide) (by decide) (by decide), ?_⟩
      refine ⟨_, _, rfl, rfl, ?_⟩
      have b3 : (y + 104729 * (z + 1)).natAbs < 2 ^ 150 := by omega
      refine ⟨_, _, rfl, rfl, powW (n := 150) (k := 3) b3 (by decide), ?_⟩
      refine ⟨_, _, rfl, rfl, (show (0 : Int) < 618970019642690137449562111 by decide), ?_⟩
      have c1 : 0 ≤ (y + 104729 * (z + 1)) ^ 3 % 618970019642690137449562111 := Int.emod_nonneg _ (by decide)
      have c2 : (y + 104729 * (z + 1)) ^ 3 % 618970019642690137449562111 < 618970019642690137449562111 := Int.emod_lt_of_pos _ (by decide)
      generalize hu : (y + 104729 * (z + 1)) ^ 3 % 618970019642690137449562111 = u at c1 c2
      refine ⟨.int u, congrArg (fun v => some (some (V.int v))) hu, ?_⟩
      refine ⟨_, rfl, r, _, 2, _, rfl, rfl, SqL.of hR1, atI_nat (j := 2) rfl, ?_⟩
      have b4 : (1299709 * (z + 1)).natAbs < 2 ^ 80 := by omega
      refine ⟨_, _, rfl, rfl, wide_mul (a := 40) (b := 40) (by decide) b1 (by decide) (by decide) (by decide), ?_⟩
      have b5 : (u + 1299709 * (z + 1)).natAbs < 2 ^ 150 := by omega
      refine ⟨_, _, rfl, rfl, _, _, rfl, rfl, powW (n := 150) (k := 3) b5 (by decide), ?_⟩
      refine ⟨_, _, rfl, rfl, (show (0 : Int) < 162259276829213363391578010288127 by decide), ?_⟩
      refine ⟨_, rfl, _, _, rfl, rfl, wide_div (b := 40) (by decide) (by decide) (by decide) (by decide), ?_⟩
      refine ⟨_, rfl, _, _, rfl, rfl, hm, ?_⟩
      exact q _ _ (Int.emod_nonneg _ (by omega)) (Int.emod_lt_of_pos _ hm) ⟨x, y, z + 1, upd_same, hx, hy, hy2, by omega, by omega⟩ off_upd
def spPool (K : PySem.W.Frag) : Sp := fun vs H Q _ => ∃ (s : Addr) (ns : List Int) (i : Nat), vs = [.ref s, .int (i : Int)] ∧ SqL K H s (ns.map V.int) ∧ ns.length ≤ 63 ∧ i < 100 ∧
  ∀ r H', Same H H' → H r = none → Reel H' r 0 → Q (.ref r) H'
theorem ok__law_pool (bt : Bt mg) (a : At K mg "_law_pool" s__law_pool ["_law_script", "_law_at"]) : Cl P w K mg base 1 "_law_pool" (spPool K) := by
  refine clG a sc__law_pool (fun vs H Q E h => ?_) (fun f cdv A outer s H vs Q hg hr h => ?_)
  · obtain ⟨r, m, n, rfl, _⟩ := h
    rfl
  · obtain ⟨sc, ns, i, rfl, hS, hl, hi, q⟩ := h
    refine ⟨_, (pss_cons (ps_set (i := 2) sc__law_pool.nd rfl (Or.inl rfl) (pe_ifExp (pt_cmpR op_lt (pv 1) (pe_callB call_len_seq (by rfl) bt.m_len (by decide +kernel) (pa_cons (pv 0) pa_nil)) (nomark _)) (pe_ix ix_list (pv 0) (pv 1) (fun _ _ => rfl)) pe_int))
      (pss_one (ps_ret (pe_lst (pa_cons (pe_callB (call_max2 rfl) (by rfl) bt.m_max (by decide +kernel) (pa_cons pe_int (pa_cons (pe_op op_sub (pe_callB call_abs (by rfl) bt.m_abs (by decide +kernel) (pa_cons (pv 2) pa_nil)) (pe_op op_powW pe_int pe_int)) pa_nil))) (pa_cons (pe_op op_add (pe_op op_mod (pv 2) pe_int) (pe_op op_mulW pe_int (pe_op op_add (pv 1) pe_int))) (pa_cons pe_int pa_nil))))))), ?_⟩
    have fin : ∀ c : Int, ∃ x y : Int, 0 ≤ x ∧ 0 ≤ y ∧ y < 2 ^ 62 ∧ x = (if (if c < 0 then -c else c) - 10 ^ 18 > 0 then (if c < 0 then -c else c) - 10 ^ 18 else 0) ∧ y = c % 2305843009213693951 + 7919 * ((i : Int) + 1) := fun c => by
      refine ⟨_, _, ?_, ?_, ?_, rfl, rfl⟩
      · split <;> omega
      · have := Int.emod_nonneg c (b := 2305843009213693951) (by decide); omega
      · have := Int.emod_lt_of_pos c (b := 2305843009213693951) (by decide); omega
    refine ⟨_, rfl, .ref sc, rfl, sc, _, rfl, .inl hS, _, _, rfl, rfl, _, rfl, ite2 (fun e => ?_) (fun e => ?_)⟩
    · have e0 : (i : Int) < ((ns.map V.int).length : Nat) := of_decide_eq_true e
      rw [List.length_map] at e0
      have hlt : i < ns.length := by omega
      have g : (ns.map V.int)[i]? = some (.int ns[i]) := by
        rw [List.getElem?_map, List.getElem?_eq_getElem hlt]; rfl
      refine ⟨_, rfl, _, rfl, sc, _, (i : Int), _, rfl, rfl, hS, atI_nat g, ?_⟩
      obtain ⟨x, y, h1, h2, h3, ex, ey⟩ := fin ns[i]
      refine ⟨_, rfl, _, rfl, _, _, rfl, rfl, powW (n := 40) (k := 18) (by decide) (by decide), _, _, rfl, rfl, _, _, rfl, ?_⟩
      refine ⟨_, rfl, _, _, rfl, rfl, (show (0 : Int) < 2305843009213693951 by decide), _, rfl, _, _, rfl, rfl, _, _, rfl, rfl, wide_mul (a := 40) (b := 40) (by decide) (by omega) (by decide) (by decide) (by decide), _, _, rfl, rfl, (by show 3 ≤ sizeLine; decide), fun p np => ?_⟩
      exact q p _ (same_upd np) np ⟨_, _, 0, upd_same, by split <;> omega, by rw [← ey]; exact h2, by rw [← ey]; exact h3, by decide, by decide⟩
    · obtain ⟨x, y, h1, h2, h3, ex, ey⟩ := fin 0
      refine ⟨_, rfl, _, rfl, _, _, rfl, rfl, powW (n := 40) (k := 18) (by decide) (by decide), _, _, rfl, rfl, _, _, rfl, ?_⟩
      refine ⟨_, rfl, _, _, rfl, rfl, (show (0 : Int) < 2305843009213693951 by decide), _, rfl, _, _, rfl, rfl, _, _, rfl, rfl, wide_mul (a := 40) (b := 40) (by decide) (by omega) (by decide) (by decide) (by decide), _, _, rfl, rfl, (by show 3 ≤ sizeLine; decide), fun p np => ?_⟩
      exact q p _ (same_upd np) np ⟨_, _, 0, upd_same, by split <;> omega, by rw [← ey]; exact h2, by rw [← ey]; exact h3, by decide, by decide⟩
end
end K35

set_option Elab.async false
set_option linter.all false
set_option maxRecDepth 100000
set_option maxHeartbeats 8000000
namespace K35
open PySem PySem.Spec PyProof.Rows L2 Gd Rm Bm
def bndV (b : Bnd) : List V := [.int (b.i : Int), .int (b.j : Int), .int b.d]
def bndD (b : Bnd) : PyData := .tuple [.int (b.i : Int), .int (b.j : Int), .int b.d]
def bndsD (bs : List Bnd) : PyData := .list (bs.map bndD)
theorem ixN_nat {n j : Nat} (hj : j < n) : ixN n (j : Int) = some j := by unfold ixN; rw [if_pos (by omega), if_pos (by omega), Int.toNat_natCast]
theorem small1000' {n : Nat} (h : n ≤ 1000) : n ≤ sizeLine := Nat.le_of_lt (small1000 h)
theorem get_map_ref {as : List Addr} {i : Nat} {b : Addr} (h : as[i]? = some b) : (as.map V.ref)[i]? = some (.ref b) := by rw [List.getElem?_map, h]; rfl
theorem get_map_int {ns : List Int} {i : Nat} {b : Int} (h : ns[i]? = some b) : (ns.map V.int)[i]? = some (.int b) := by rw [List.getElem?_map, h]; rfl
theorem lstB_dp {K : PySem.W.Frag} {H : Hp} {c : Addr} {bs : List Bnd} (h : Lst bndV H c bs) : Dp K H (.ref c) (bndsD bs) := by
  obtain ⟨as, a, b⟩ := h
  refine .lst (SqL.of a) (dpAll_of (fun a e ha => ?_) as bs b)
  exact .tup (SqT.of ha) (.cons (.int _) (.cons (.int _) (.cons (.int _) .nil)))
theorem fit_bnd {b : Bnd} (h : b.i < 1000 ∧ b.j < 1000 ∧ b.d.natAbs < 2 ^ 200) : Fit 1000 1 (bndD b) := by
  refine Fit.mono (fit_tup (L := 210) (n := 0) fun d hd => ?_) (by show 3 * 212 + 3 ≤ 1000; decide) (Nat.le_refl _)
  simp only [List.mem_cons, List.mem_nil_iff, or_false] at hd
  rcases hd with rfl | rfl | rfl
  · exact fit_int (by omega)
  · exact fit_int (by omega)
  · exact fit_int h.2.2
theorem fit_bnds {bs : List Bnd} (h : ∀ b ∈ bs, b.i < 1000 ∧ b.j < 1000 ∧ b.d.natAbs < 2 ^ 200) (hl : bs.length ≤ 1000) : Fit 1100000 2 (bndsD bs) := by
  refine Fit.mono (fit_list (L := 1000) (n := 1) fun d hd => ?_) (by rw [List.length_map]; omega) (Nat.le_refl _)
  obtain ⟨e, he, rfl⟩ := List.mem_map.mp hd
  exact fit_bnd (h e he)
section
variable {P : Program} {w : World} {K : PySem.W.Frag} {mg : Str → Option Value} {base : Heap}
inductive IsI (H : Hp) : V → Bool → Prop
  | int (i : Int) : IsI H (.int i) true
  | bl (b : Bool) : IsI H (.bl b) false
  | non : IsI H .non false
  | str (z : Str) : IsI H (.str z) false
  | lst {a : Addr} {xs : List V} (h : H a = some (.lst xs)) : IsI H (.ref a) false
def spIntG : Sp := fun vs H Q _ => ∃ (v : V) (b : Bool), vs = [v] ∧ IsI H v b ∧ Q (.bl b) H
def spInt : Sp := fun vs H Q _ => ∃ i : Int, vs = [.int i] ∧ Q (.bl true) H
theorem ok_is_an_integer (bt : Bt mg) (a : At K mg "is_an_integer" s_is_an_integer ["value"]) : Cl P w K mg base 1 "is_an_integer" spIntG := by
  refine clG a sc_is_an_integer (fun vs H Q E h => ?_) (fun f cdv A outer s H vs Q hg hr h => ?_)
  · obtain ⟨i, b, rfl, _⟩ := h
    rfl
  · obtain ⟨v, b, rfl, hv, q⟩ := h
    refine ⟨_, (pss_one (ps_ret (pe_and (pe_callB call_isi (by rfl) bt.m_isinstance (by decide +kernel) (pa_cons (pv 0) (pa_cons (pe_bltn (v := .ty "int") (by rfl) bt.m_int (by decide +kernel) rfl) pa_nil))) (pe_one (pe_not (pe_callB call_isi (by rfl) bt.m_isinstance (by decide +kernel) (pa_cons (pv 0) (pa_cons (pe_bltn (v := .ty "bool") (by rfl) bt.m_bool (by decide +kernel) rfl) pa_nil)))))))), ?_⟩
    cases hv with
    | int i =>
      refine ⟨_, rfl, _, _, _, _, true, rfl, .ty "int", .base (.int i), kit_ty (by decide +kernel), _, rfl, iteT ?_⟩
      exact ⟨_, rfl, _, _, _, _, false, rfl, .ty "bool", .base (.int i), kit_ty (by decide +kernel), _, rfl, q⟩
    | bl b =>
      refine ⟨_, rfl, _, _, _, _, true, rfl, .ty "int", .base (.bl b), kit_ty (by decide +kernel), _, rfl, iteT ?_⟩
      exact ⟨_, rfl, _, _, _, _, true, rfl, .ty "bool", .base (.bl b), kit_ty (by decide +kernel), _, rfl, q⟩
    | non => exact ⟨_, rfl, _, _, _, _, false, rfl, .ty "int", .base .non, kit_ty (by decide +kernel), _, rfl, iteF q⟩
    | str z => exact ⟨_, rfl, _, _, _, _, false, rfl, .ty "int", .base (.str z), kit_ty (by decide +kernel), _, rfl, iteF q⟩
    | lst h => exact ⟨_, rfl, _, _, _, _, false, rfl, .ty "int", .base (.lst h), kit_ty (by decide +kernel), _, rfl, iteF q⟩
theorem intOf {k : Nat} (c : Cl P w K mg base k "is_an_integer" spIntG) : Cl P w K mg base k "is_an_integer" spInt :=
  c.imp fun vs H Q E ⟨i, e, q⟩ => ⟨.int i, true, e, .int i, q⟩
def spBtw : Sp := fun vs H Q _ => ∃ i lo hi : Int, vs = [.int i, .int lo, .int hi] ∧ lo ≤ i ∧ i ≤ hi ∧ Q (.bl true) H
theorem ok_is_between (a : At K mg "is_between" s_is_between ["value", "low", "high"]) (c_is_an_integer : Cl P w K mg base 1 "is_an_integer" spInt) : Cl P w K mg base 2 "is_between" spBtw := by
  refine clG a sc_is_between (fun vs H Q E h => ?_) (fun f cdv A outer s H vs Q hg hr h => ?_)
  · obtain ⟨i, lo, hi, rfl, _⟩ := h
    rfl
  · obtain ⟨i, lo, hi, rfl, h1, h2, q⟩ := h
    refine ⟨_, (pss_one (ps_ret (pe_and (pe_cl c_is_an_integer hg hr (by decide) (by rfl) (pa_cons (pv 0) pa_nil)) (pe_one (pe_chain op_le op_le (pv 1) (pv 0) (pv 2)))))), ?_⟩
    refine ⟨_, rfl, _, rfl, _, rfl, iteT ?_⟩
    exact ⟨_, rfl, _, rfl, _, _, rfl, rfl, true, congrArg V.bl (decide_eq_true h1), iteT ⟨_, rfl, _, _, rfl, rfl, by show Q (.bl (decide (i ≤ hi))) H; rw [decide_eq_true h2]; exact q⟩⟩
def spBound : Sp := fun vs H Q _ => ∃ (a : Addr) (b : Bnd) (n : Nat), vs = [.ref a, .int (n : Int)] ∧ H a = some (.tup (bndV b)) ∧ b.i < n ∧ b.j < n ∧ Q (.bl true) H
theorem ok_is_bound (bt : Bt mg) (a : At K mg "is_bound" s_is_bound ["value", "many"]) (c_is_an_integer : Cl P w K mg base 1 "is_an_integer" spInt) (c_is_between : Cl P w K mg base 2 "is_between" spBtw) : Cl P w K mg base 3 "is_bound" spBound := by
  refine clG a sc_is_bound (fun vs H Q E h => ?_) (fun f cdv A outer s H vs Q hg hr h => ?_)
  · obtain ⟨a, b, n, rfl, _⟩ := h
    rfl
  · obtain ⟨a, b, n, rfl, ha, hi, hj, q⟩ := h
    refine ⟨_, (pss_cons (ps_if (PW.pt (pw_or (pt_not (pt_val (pe_callB call_isi (by rfl) bt.m_isinstance (by decide +kernel) (pa_cons (pv 0) (pa_cons (pe_bltn (v := .ty "tuple") (by rfl) bt.m_tuple (by decide +kernel) rfl) pa_nil))))) (pw_or1 (pt_cmpR op_ne (pe_callB call_len_seq (by rfl) bt.m_len (by decide +kernel) (pa_cons (pv 0) pa_nil)) pe_int (nomark _))))) (pss_one (ps_ret pe_bl)) pss_nil)
      (pss_cons (ps_asg (pv 0) (pg_tup rfl (pgs_cons (pg_name (i := 2) sc_is_bound.nd rfl (Or.inl rfl)) (pgs_cons (pg_name (i := 3) sc_is_bound.nd rfl (Or.inl rfl)) (pgs_cons (pg_name (i := 4) sc_is_bound.nd rfl (Or.inl rfl)) pgs_nil)))))
      (pss_one (ps_ret (pe_and (pe_cl c_is_between hg hr (by decide) (by rfl) (pa_cons (pv 2) (pa_cons pe_int (pa_cons (pe_op op_sub (pv 1) pe_int) pa_nil)))) (pe_and (pe_cl c_is_between hg hr (by decide) (by rfl) (pa_cons (pv 3) (pa_cons pe_int (pa_cons (pe_op op_sub (pv 1) pe_int) pa_nil)))) (pe_one (pe_cl c_is_an_integer hg hr (by decide) (by rfl) (pa_cons (pv 4) pa_nil))))))))), ?_⟩
    refine ⟨_, rfl, _, _, _, _, true, rfl, .ty "tuple", .base (.tup ha), kit_ty (by decide +kernel), _, rfl, iteF ?_⟩
    refine ⟨_, rfl, a, _, rfl, .inr (SqT.of ha), rfl, _, rfl, iteF ?_⟩
    refine ⟨_, rfl, a, _, rfl, SqT.of ha, rfl, _, _, rfl, _, _, rfl, _, _, rfl, rfl, ?_⟩
    refine ⟨_, rfl, _, rfl, _, _, rfl, rfl, _, _, _, rfl, by omega, by omega, _, rfl, iteT ?_⟩
    refine ⟨_, rfl, _, rfl, _, _, rfl, rfl, _, _, _, rfl, by omega, by omega, _, rfl, iteT ?_⟩
    exact ⟨_, rfl, _, rfl, q⟩
structure Bs (H : Hp) (c : Addr) (n : Nat) (bs : List Bnd) : Prop where
  ls : Lst bndV H c bs
  ix : Ix n bs
  n1 : 1 ≤ n
  n2 : n ≤ 50
  len : bs.length ≤ 401
theorem Bs.same {H H' : Hp} {c : Addr} {n : Nat} {bs : List Bnd} (h : Bs H c n bs) (s : Same H H') : Bs H' c n bs := { h with ls := h.ls.same s }
theorem Bs.off {H H' : Hp} {c r : Addr} {n : Nat} {bs : List Bnd} {ys : List V} (h : Bs H c n bs) (hr : H r = some (.lst ys)) (ne : c ≠ r) (o : Off r H H') : Bs H' c n bs := { h with ls := h.ls.off hr ne o }
def spBounds : Sp := fun vs H Q _ => ∃ (c : Addr) (n : Nat) (bs : List Bnd), vs = [.ref c, .int (n : Int)] ∧ Bs H c n bs ∧ bs.length ≤ 400 ∧ ∀ H', Same H H' → Q (.bl true) H'
theorem ok_is_bounds (bt : Bt mg) (tk tk' : Tok) (m_MOST_NUMBERS : mg "MOST_NUMBERS" = some (.int 50 tk)) (m_MOST_BOUNDS : mg "MOST_BOUNDS" = some (.int 400 tk')) (a : At K mg "is_bounds" s_is_bounds ["value", "many"])
    (c_is_between : Cl P w K mg base 2 "is_between" spBtw) (c_is_bound : Cl P w K mg base 3 "is_bound" spBound) : Cl P w K mg base 4 "is_bounds" spBounds := by
  refine clG a sc_is_bounds (fun vs H Q E h => ?_) (fun f cdv A outer s H vs Q hg hr h => ?_)
  · obtain ⟨a, b, n, rfl, _⟩ := h
    rfl
  · obtain ⟨c, n, bs, rfl, B, hl, q⟩ := h
    obtain ⟨as, hc, hT⟩ := B.ls
    have n1 := B.n1
    have n2 := B.n2
    have hal := hT.1
    refine ⟨_, (pss_cons (ps_if (pt_not (pt_val (pe_cl c_is_between hg hr (by decide) (by rfl) (pa_cons (pv 1) (pa_cons pe_int (pa_cons (pe_glob (v := .int 50) (by rfl) m_MOST_NUMBERS ⟨_, rfl⟩) pa_nil)))))) (pss_one (ps_ret pe_bl)) pss_nil)
      (pss_cons (ps_if (PW.pt (pw_or (pt_not (pt_val (pe_callB call_isi (by rfl) bt.m_isinstance (by decide +kernel) (pa_cons (pv 0) (pa_cons (pe_bltn (v := .ty "list") (by rfl) bt.m_list (by decide +kernel) rfl) pa_nil))))) (pw_or1 (pt_cmpR op_gt (pe_callB call_len_seq (by rfl) bt.m_len (by decide +kernel) (pa_cons (pv 0) pa_nil)) (pe_glob (v := .int 400) (by rfl) m_MOST_BOUNDS ⟨_, rfl⟩) (nomark _))))) (pss_one (ps_ret pe_bl)) pss_nil)
      (pss_one (ps_ret (pe_callB (cr_all rfl) (by rfl) bt.m_all (by decide +kernel) (pa_cons (pe_lc (own := [("bound", 2)]) (g := (gName 2)) (by rfl) sc_is_bounds.nd (pi_list (pv 0)) (blkOk_by (N := n_is_bounds) (sc := defScope s_is_bounds) (by decide +kernel)) (fun _ _ _ _ _ => (pg_name (i := 2) sc_is_bounds.nd rfl (Or.inl rfl))) (fun _ _ _ _ _ => pts_nil) (fun _ _ _ _ _ => (pe_cl c_is_bound hg hr (by decide) (by rfl) (pa_cons (pv 2) (pa_cons (pv 1) pa_nil))))) pa_nil)))))), ?_⟩
    refine ⟨_, rfl, _, _, _, rfl, by omega, by omega, _, rfl, iteF ?_⟩
    refine ⟨_, rfl, _, _, _, _, true, rfl, .ty "list", .base (.lst hc), kit_ty (by decide +kernel), _, rfl, iteF ?_⟩
    refine ⟨_, rfl, c, _, rfl, .inl (SqL.of hc), _, _, rfl, rfl, _, rfl, ite2 (fun z => ?_) (fun _ => ?_)⟩
    · have z0 : (400 : Int) < ((as.map V.ref).length : Nat) := of_decide_eq_true z
      rw [List.length_map] at z0
      omega
    refine ⟨_, rfl, c, rfl, ⟨_, SqL.of hc⟩, fun M nM => lc_it (walk_list (xs := as.map V.ref)) (fun i H' => Same H H' ∧ H' M = some (.lst ((List.replicate i true).map V.bl))) ⟨same_upd nM, upd_same⟩ (fun i H' _ p => SqL.of (p.1 _ _ hc)) (fun i x Hx H3 hi p y => ?_) (fun H3 p => ?_)⟩
    · obtain ⟨rfl, e2⟩ := y
      have hi' : i < bs.length := by rw [List.length_map] at hi; omega
      obtain ⟨b, hb, hbt⟩ := hT.at_ hi'
      have e2' : x = .ref b := Option.some.inj (e2.symm.trans (get_map_ref hb))
      subst e2'
      have hx := B.ix bs[i] (List.getElem_mem _)
      refine ⟨rfl, _, rfl, _, rfl, b, bs[i], n, rfl, p.1 _ _ hbt, hx.1, hx.2, _, p.2, ?_, ?_⟩
      · rw [List.length_map, List.length_replicate]; exact small1000 (by omega)
      · refine ⟨Same.off p.1 nM off_upd, ?_⟩
        rw [upd_same, List.replicate_succ', List.map_append]; rfl
    · refine ⟨M, _, rfl, SqL.of p.2, ?_⟩
      have e : (List.replicate (as.map V.ref).length true).all id = true := by
        rw [List.all_eq_true]
        intro x hx
        exact (List.mem_replicate.mp hx).2
      rw [e]
      exact q _ p.1
def spCheck : Sp := fun vs H Q _ => ∃ (c : Addr) (n : Nat) (bs : List Bnd), vs = [.int (n : Int), .ref c] ∧ Bs H c n bs ∧ bs.length ≤ 400 ∧ ∀ H', Same H H' → Q .non H'
theorem ok_check_bounds (bt : Bt mg) (tk : Tok) (m_MOST_NUMBERS : mg "MOST_NUMBERS" = some (.int 50 tk)) (a : At K mg "check_bounds" s_check_bounds ["many", "bounds"])
    (c_is_between : Cl P w K mg base 2 "is_between" spBtw) (c_is_bounds : Cl P w K mg base 4 "is_bounds" spBounds) : Cl P w K mg base 5 "check_bounds" spCheck := by
  refine clG a sc_check_bounds (fun vs H Q E h => ?_) (fun f cdv A outer s H vs Q hg hr h => ?_)
  · obtain ⟨a, b, n, rfl, _⟩ := h
    rfl
  · obtain ⟨c, n, bs, rfl, B, hl, q⟩ := h
    have n1 := B.n1
    have n2 := B.n2
    refine ⟨_, (pss_cons (ps_if (pt_not (pt_val (pe_cl c_is_between hg hr (by decide) (by rfl) (pa_cons (pv 0) (pa_cons pe_int (pa_cons (pe_glob (v := .int 50) (by rfl) m_MOST_NUMBERS ⟨_, rfl⟩) pa_nil)))))) pss_never pss_nil)
      (pss_one (ps_if (pt_not (pt_val (pe_cl c_is_bounds hg hr (by decide) (by rfl) (pa_cons (pv 1) (pa_cons (pv 0) pa_nil))))) pss_never pss_nil))), ?_⟩
    refine ⟨_, rfl, _, _, _, rfl, by omega, by omega, _, rfl, iteF ?_⟩
    refine ⟨_, rfl, _, rfl, c, n, bs, rfl, B, hl, fun H1 s1 => ⟨_, rfl, iteF ?_⟩⟩
    exact q _ s1
def spAbove : Sp := fun vs H Q _ => ∃ (x c : Addr) (n : Nat) (bs : List Bnd) (xs : List Int), vs = [.ref x, .ref c] ∧ H x = some (.lst (xs.map V.int)) ∧ xs.length = n ∧ Bs H c n bs ∧
  (∀ z H' p, iterI bs (n + 1) xs = some z → Same H H' → H p = none → H' p = some (.lst (z.map V.int)) → Q (.ref p) H') ∧ (∀ H', iterI bs (n + 1) xs = none → Same H H' → Q .non H')
theorem ok_least_above (bt : Bt mg) (a : At K mg "least_above" s_least_above ["numbers", "bounds"]) : Cl P w K mg base 1 "least_above" spAbove := by
  refine clG a sc_least_above (fun vs H Q E h => ?_) (fun f cdv A outer s H vs Q hg hr h => ?_)
  · obtain ⟨a, b, n, bs, xs, rfl, _⟩ := h
    rfl
  · obtain ⟨x, c, n, bs, xs, rfl, hx, hn, B, q1, q2⟩ := h
    have n1 := B.n1
    have n2 := B.n2
    refine ⟨_, (pss_cons (ps_set (i := 2) sc_least_above.nd rfl (Or.inl rfl) (pe_callTy call_list_of (by rfl) bt.m_list (by decide +kernel) (pa_cons (pv 0) pa_nil)))
      (pss_cons (ps_for PassesOwn.never rfl (pi_range1 (by rfl) bt.m_range (pa_cons (pe_op op_add (pe_callB call_len_seq (by rfl) bt.m_len (by decide +kernel) (pa_cons (pv 2) pa_nil)) pe_int) pa_nil)) (pg_name (i := 3) sc_least_above.nd rfl (Or.inl rfl)) (pss_cons (ps_set (i := 4) sc_least_above.nd rfl (Or.inl rfl) pe_bl)
      (pss_cons (ps_for PassesOwn.never rfl (pi_list (pv 1)) (pg_tup rfl (pgs_cons (pg_name (i := 5) sc_least_above.nd rfl (Or.inl rfl)) (pgs_cons (pg_name (i := 6) sc_least_above.nd rfl (Or.inl rfl)) (pgs_cons (pg_name (i := 7) sc_least_above.nd rfl (Or.inl rfl)) pgs_nil)))) (pss_one (ps_if (pt_cmpR op_gt (pe_op op_add (pe_ix ix_list (pv 2) (pv 5) (fun _ _ => rfl)) (pv 7)) (pe_ix ix_list (pv 2) (pv 6) (fun _ _ => rfl)) (nomark _)) (pss_cons (ps_asg (pe_op op_add (pe_ix ix_list (pv 2) (pv 5) (fun _ _ => rfl)) (pv 7)) (pg_sub (pv 2) (pv 6) set_list))
      (pss_one (ps_set (i := 4) sc_least_above.nd rfl (Or.inl rfl) pe_bl))) pss_nil)))
      (pss_one (ps_if (pt_not (pt_val (pv 4))) (pss_one (ps_ret (pv 2))) pss_nil)))))
      (pss_one (ps_ret pe_non)))), ?_⟩
    refine ⟨_, rfl, x, _, rfl, .inl (SqL.of hx), fun p np => ?_⟩
    have s0 := same_upd (o := .lst (xs.map V.int)) np
    obtain ⟨as, hc, hT⟩ := B.ls
    have hal := hT.1
    refine ⟨_, rfl, p, _, rfl, .inl (SqL.of upd_same), _, _, rfl, rfl, _, rfl, by omega, by rw [List.length_map]; omega, ?_⟩
    have en : (((xs.map V.int).length : Nat) + 1 : Int).toNat = n + 1 := by rw [List.length_map]; omega
    rw [en]
    refine for_it walk_range (fun t σ H' => ∃ (cur : List Int) (y3 y4 y5 y6 y7 : Option V), σ = [some (.ref x), some (.ref c), some (.ref p), y3, y4, y5, y6, y7] ∧ Same H H' ∧ H' p = some (.lst (cur.map V.int)) ∧ cur.length = n ∧ iterI bs (n + 1) xs = iterI bs (n + 1 - t) cur)
      ⟨xs, _, _, _, _, _, rfl, s0, upd_same, hn, rfl⟩ (fun _ _ _ _ _ => True.intro) (fun t v σ H1 H2 ht P1 y => ?_) (fun σ H1 P1 => ?_)
    · obtain ⟨cur, y3, y4, y5, y6, y7, rfl, s1, hp, hcl, hit⟩ := P1
      obtain ⟨rfl, rfl⟩ := y
      have hix : Ix cur.length bs := by rw [hcl]; exact B.ix
      have pc : c ≠ p := ne_of_none hc np
      refine ⟨_, rfl, c, rfl, ⟨_, SqL.of (s1 _ _ hc)⟩, for_it (walk_list (xs := as.map V.ref)) (fun k σ H' => ∃ (y3 y5 y6 y7 : Option V), σ = [some (.ref x), some (.ref c), some (.ref p), y3, some (.bl (decide (passI (bs.take k) cur ≠ cur))), y5, y6, y7] ∧ Same H H' ∧ H' p = some (.lst ((passI (bs.take k) cur).map V.int)))
        ⟨some (.int (0 + (t : Int))), y5, y6, y7, (by rw [decide_eq_false (fun q : passI (bs.take 0) cur ≠ cur => q rfl)]; rfl), s1, hp⟩ (fun _ _ H' _ P2 => by obtain ⟨_, _, _, _, _, s2, _⟩ := P2; exact SqL.of (s2 _ _ hc)) (fun k v σ H2 H3 hk P2 y => ?_) (fun σ H2 P2 => ?_)⟩
      · obtain ⟨y3, y5, y6, y7, rfl, s2, hp2⟩ := P2
        obtain ⟨rfl, e2⟩ := y
        have hk' : k < bs.length := by rw [List.length_map] at hk; omega
        obtain ⟨b, hb, hbt⟩ := hT.at_ hk'
        have e2' : v = .ref b := Option.some.inj (e2.symm.trans (get_map_ref hb))
        subst e2'
        have hbx := B.ix bs[k] (List.getElem_mem _)
        have hlen : (passI (bs.take k) cur).length = n := by rw [passI_len, hcl]
        have hle : Le cur (passI (bs.take k) cur) := passI_le fun b hb => by rw [hcl]; exact B.ix b (List.mem_of_mem_take hb)
        rw [passI_take cur (List.getElem?_eq_getElem hk')]
        generalize passI (bs.take k) cur = now at *
        generalize bs[k] = bb at *
        have gi : now[bb.i]? = some (now.getD bb.i 0) := by rw [List.getD_eq_getElem?_getD, List.getElem?_eq_getElem (by omega)]; rfl
        have gj : now[bb.j]? = some (now.getD bb.j 0) := by rw [List.getD_eq_getElem?_getD, List.getElem?_eq_getElem (by omega)]; rfl
        refine ⟨b, _, rfl, SqT.of (s2 _ _ hbt), rfl, _, _, rfl, _, _, rfl, _, _, rfl, rfl, ?_⟩
        refine ⟨_, rfl, _, rfl, p, _, _, _, rfl, rfl, SqL.of hp2, atI_nat (get_map_int gi), _, rfl, _, _, rfl, rfl, _, rfl, _, rfl, p, _, _, _, rfl, rfl, SqL.of hp2, atI_nat (get_map_int gj), _, _, rfl, rfl, _, rfl, ite2 (fun z => ?_) (fun z => ?_)⟩
        · have z0 : now.getD bb.i 0 + bb.d > now.getD bb.j 0 := of_decide_eq_true z
          refine ⟨_, rfl, _, rfl, p, _, _, _, rfl, rfl, SqL.of hp2, atI_nat (get_map_int gi), _, rfl, _, _, rfl, rfl, _, rfl, _, rfl, p, _, _, bb.j, rfl, rfl, hp2, ixN_nat (by rw [List.length_map]; omega), ?_⟩
          refine ⟨y3, some (.int bb.i), some (.int bb.j), some (.int bb.d), ?_, Same.off s2 np off_upd, ?_⟩
          · rw [decide_eq_true (raise_now hle (by omega) z0)]
            rfl
          · unfold relaxI
            rw [if_pos z0, upd_same, List.map_set]
        · have z0 : ¬ now.getD bb.i 0 + bb.d > now.getD bb.j 0 := fun q => z (decide_eq_true q)
          refine ⟨y3, some (.int bb.i), some (.int bb.j), some (.int bb.d), ?_, s2, ?_⟩
          · rw [raise_keep z0]; rfl
          · rw [raise_keep z0]; exact hp2
      · obtain ⟨y3, y5, y6, y7, rfl, s2, hp2⟩ := P2
        rw [List.length_map, hal, List.take_length] at hp2
        refine ⟨_, rfl, _, rfl, ?_⟩
        rw [List.length_map, hal, List.take_length]
        have hs : n + 1 - t = (n + 1 - (t + 1)) + 1 := by omega
        rw [hs] at hit
        by_cases z : passI bs cur = cur
        · rw [decide_eq_false (fun q => q z)]
          refine iteT ⟨_, rfl, ?_⟩
          unfold iterI at hit
          rw [if_pos z] at hit
          refine q1 cur _ p hit s2 np ?_
          rw [hp2, z]
        · rw [decide_eq_true z]
          refine iteF ⟨passI bs cur, _, _, _, _, _, rfl, s2, hp2, by rw [passI_len, hcl], ?_⟩
          unfold iterI at hit
          rw [if_neg z] at hit
          exact hit
    · obtain ⟨cur, y3, y4, y5, y6, y7, rfl, s1, hp, hcl, hit⟩ := P1
      rw [Nat.sub_self] at hit
      exact q2 _ hit s1
end
end K35

set_option Elab.async false
set_option linter.all false
set_option maxRecDepth 100000
set_option maxHeartbeats 8000000
namespace K35
open PySem PySem.Spec PyProof.Rows L2 Gd Rm Bm
theorem flat_rep {v : V} (m : Nat) : (List.replicate m [v]).flatten = List.replicate m v := by
  induction m with
  | zero => rfl
  | succ m ih => rw [List.replicate_succ, List.flatten_cons, ih, List.replicate_succ]; rfl
theorem eqv_ints : ∀ xs ys : List Int, PyData.eqvAll (xs.map PyData.int) (ys.map PyData.int) = decide (xs = ys)
  | [], [] => rfl
  | [], _ :: _ => rfl
  | _ :: _, [] => rfl
  | o :: xs, p :: ys => by
    show (PyData.eqv (.int o) (.int p) && PyData.eqvAll (xs.map PyData.int) (ys.map PyData.int)) = _
    have e : PyData.eqv (.int o) (.int p) = decide (o = p) := by
      by_cases z : o = p
      · subst z; simp [PyData.eqv]
      · simp [PyData.eqv, z]
    rw [e, eqv_ints xs ys]
    by_cases a : o = p <;> by_cases b : xs = ys <;> simp [a, b]
theorem eqv_intL (xs ys : List Int) : PyData.eqv (.list (xs.map PyData.int)) (.list (ys.map PyData.int)) = decide (xs = ys) := by
  rw [← eqv_ints]; rfl
theorem set_self {x : List Int} {j : Nat} : x.set j (x.getD j 0) = x := by
  refine List.ext_getElem? fun k => ?_
  rw [List.getElem?_set]
  by_cases z : j = k
  · subst z
    rw [if_pos rfl]
    by_cases q : j < x.length
    · rw [if_pos q, List.getD_eq_getElem?_getD, List.getElem?_eq_getElem q]; rfl
    · rw [if_neg q, List.getElem?_eq_none (by omega)]
  · rw [if_neg z]
theorem relax_max {x : List Int} {b : Bnd} : x.set b.j (if x.getD b.i 0 + b.d > x.getD b.j 0 then x.getD b.i 0 + b.d else x.getD b.j 0) = relaxI x b := by
  unfold relaxI
  split
  · rfl
  · exact set_self
theorem getD_at {x : List Int} {k : Nat} (h : k < x.length) : x[k]? = some (x.getD k 0) := by rw [List.getD_eq_getElem?_getD, List.getElem?_eq_getElem h]; rfl
section
variable {P : Program} {w : World} {K : PySem.W.Frag} {mg : Str → Option Value} {base : Heap}
def spLeastN : Sp := fun vs H Q _ => ∃ (c : Addr) (n : Nat) (bs : List Bnd), vs = [.int (n : Int), .ref c] ∧ Bs H c n bs ∧ bs.length ≤ 400 ∧
  (∀ z H' p, iterI bs (n + 1) (List.replicate n 0) = some z → Same H H' → H p = none → H' p = some (.lst (z.map V.int)) → Q (.ref p) H') ∧ (∀ H', iterI bs (n + 1) (List.replicate n 0) = none → Same H H' → Q .non H')
theorem ok_least_numbers (bt : Bt mg) (a : At K mg "least_numbers" s_least_numbers ["many", "bounds"]) (c_check_bounds : Cl P w K mg base 5 "check_bounds" spCheck) (c_least_above : Cl P w K mg base 1 "least_above" spAbove) : Cl P w K mg base 6 "least_numbers" spLeastN := by
  refine clG a sc_least_numbers (fun vs H Q E h => ?_) (fun f cdv A outer s H vs Q hg hr h => ?_)
  · obtain ⟨c, n, bs, rfl, _⟩ := h
    rfl
  · obtain ⟨c, n, bs, rfl, B, hl, q1, q2⟩ := h
    have n2 := B.n2
    refine ⟨_, (pss_cons (ps_expr (pe_cl c_check_bounds hg hr (by decide) (by rfl) (pa_cons (pv 0) (pa_cons (pv 1) pa_nil))))
      (pss_one (ps_ret (pe_cl c_least_above hg hr (by decide) (by rfl) (pa_cons (pe_op op_rep (pe_lst (pa_cons pe_int pa_nil)) (pv 0)) (pa_cons (pv 1) pa_nil)))))), ?_⟩
    refine ⟨_, rfl, _, rfl, c, n, bs, rfl, B, hl, fun H1 s1 => ?_⟩
    refine ⟨(by show 1 ≤ sizeLine; decide), fun Z1 nZ1 => ⟨_, rfl, Z1, (n : Int), _, rfl, rfl, upd_same, by omega, by omega, by show 1 * (n : Int).toNat ≤ sizeLine; rw [sizeLine_eq]; omega, fun A nA => ?_⟩⟩
    rw [Int.toNat_natCast, flat_rep] at *
    have sZ1 := same_upd (o := .lst [.int 0]) nZ1
    have sA := same_upd (o := .lst (List.replicate n (V.int 0))) nA
    have sT := (s1.trans sZ1).trans sA
    refine ⟨_, rfl, A, c, n, bs, List.replicate n 0, rfl, by rw [upd_same, List.map_replicate], List.length_replicate, B.same sT, fun z H' p hz s2 np hp => q1 z H' p hz (sT.trans s2) (sT.free np) hp, fun H' hz s2 => q2 H' hz (sT.trans s2)⟩
def spLifted : Sp := fun vs H Q _ => ∃ (x c : Addr) (n : Nat) (bs : List Bnd) (xs : List Int), vs = [.ref c, .ref x] ∧ H x = some (.lst (xs.map V.int)) ∧ xs.length = n ∧ Bs H c n bs ∧
  (∀ z H' p, iterI bs (n + 1) xs = some z → Same H H' → H p = none → H' p = some (.lst (z.map V.int)) → Q (.ref p) H') ∧ (∀ H', iterI bs (n + 1) xs = none → Same H H' → Q .non H')
theorem ok__law_lifted (bt : Bt mg) (a : At K mg "_law_lifted" s__law_lifted ["_law_bounds_here", "_law_begun"]) : Cl P w K mg base 1 "_law_lifted" spLifted := by
  refine clG a sc__law_lifted (fun vs H Q E h => ?_) (fun f cdv A outer s H vs Q hg hr h => ?_)
  · obtain ⟨a, b, n, bs, xs, rfl, _⟩ := h
    rfl
  · obtain ⟨x, c, n, bs, xs, rfl, hx, hn, B, q1, q2⟩ := h
    have n1 := B.n1
    have n2 := B.n2
    refine ⟨_, (pss_cons (ps_set (i := 2) sc__law_lifted.nd rfl (Or.inl rfl) (pe_callTy call_list_of (by rfl) bt.m_list (by decide +kernel) (pa_cons (pv 1) pa_nil)))
      (pss_cons (ps_for PassesOwn.never rfl (pi_range1 (by rfl) bt.m_range (pa_cons (pe_op op_add (pe_callB call_len_seq (by rfl) bt.m_len (by decide +kernel) (pa_cons (pv 2) pa_nil)) pe_int) pa_nil)) (pg_name (i := 3) sc__law_lifted.nd rfl (Or.inl rfl)) (pss_cons (ps_set (i := 4) sc__law_lifted.nd rfl (Or.inl rfl) (pe_callTy call_list_of (by rfl) bt.m_list (by decide +kernel) (pa_cons (pv 2) pa_nil)))
      (pss_cons (ps_for PassesOwn.never rfl (pi_list (pv 0)) (pg_tup rfl (pgs_cons (pg_name (i := 5) sc__law_lifted.nd rfl (Or.inl rfl)) (pgs_cons (pg_name (i := 6) sc__law_lifted.nd rfl (Or.inl rfl)) (pgs_cons (pg_name (i := 7) sc__law_lifted.nd rfl (Or.inl rfl)) pgs_nil)))) (pss_one (ps_asg (pe_callB (call_max2 rfl) (by rfl) bt.m_max (by decide +kernel) (pa_cons (pe_ix ix_list (pv 2) (pv 6) (fun _ _ => rfl)) (pa_cons (pe_op op_add (pe_ix ix_list (pv 2) (pv 5) (fun _ _ => rfl)) (pv 7)) pa_nil))) (pg_sub (pv 2) (pv 6) set_list))))
      (pss_one (ps_if (pt_cmpR (op_eqD hr.units) (pv 2) (pv 4) (nomark _)) (pss_one (ps_ret (pv 2))) pss_nil)))))
      (pss_one (ps_ret pe_non)))), ?_⟩
    refine ⟨_, rfl, x, _, rfl, .inl (SqL.of hx), fun p np => ?_⟩
    have s0 := same_upd (o := .lst (xs.map V.int)) np
    obtain ⟨as, hc, hT⟩ := B.ls
    have hal := hT.1
    refine ⟨_, rfl, p, _, rfl, .inl (SqL.of upd_same), _, _, rfl, rfl, _, rfl, by omega, by rw [List.length_map]; omega, ?_⟩
    have en : (((xs.map V.int).length : Nat) + 1 : Int).toNat = n + 1 := by rw [List.length_map]; omega
    rw [en]
    refine for_it walk_range (fun t σ H' => ∃ (cur : List Int) (y3 y4 y5 y6 y7 : Option V), σ = [some (.ref c), some (.ref x), some (.ref p), y3, y4, y5, y6, y7] ∧ Same H H' ∧ H' p = some (.lst (cur.map V.int)) ∧ cur.length = n ∧ iterI bs (n + 1) xs = iterI bs (n + 1 - t) cur)
      ⟨xs, _, _, _, _, _, rfl, s0, upd_same, hn, rfl⟩ (fun _ _ _ _ _ => True.intro) (fun t v σ H1 H2 ht P1 y => ?_) (fun σ H1 P1 => ?_)
    · obtain ⟨cur, y3, y4, y5, y6, y7, rfl, s1, hp, hcl, hit⟩ := P1
      obtain ⟨rfl, rfl⟩ := y
      refine ⟨_, rfl, p, _, rfl, .inl (SqL.of hp), fun Kp nK => ?_⟩
      have sK := same_upd (o := .lst (cur.map V.int)) nK
      have pK : p ≠ Kp := ne_of_none hp nK
      refine ⟨_, rfl, c, rfl, ⟨_, SqL.of ((s1.trans sK) _ _ hc)⟩, for_it (walk_list (xs := as.map V.ref)) (fun k σ H' => ∃ (y3 y5 y6 y7 : Option V), σ = [some (.ref c), some (.ref x), some (.ref p), y3, some (.ref Kp), y5, y6, y7] ∧ Same H H' ∧ H' p = some (.lst ((passI (bs.take k) cur).map V.int)) ∧ H' Kp = some (.lst (cur.map V.int)))
        ⟨_, _, _, _, rfl, s1.trans sK, sK _ _ hp, upd_same⟩ (fun _ _ H' _ P2 => by obtain ⟨_, _, _, _, _, s2, _⟩ := P2; exact SqL.of (s2 _ _ hc)) (fun k v σ H2 H3 hk P2 y => ?_) (fun σ H2 P2 => ?_)⟩
      · obtain ⟨y3, y5, y6, y7, rfl, s2, hp2, hK2⟩ := P2
        obtain ⟨rfl, e2⟩ := y
        have hk' : k < bs.length := by rw [List.length_map] at hk; omega
        obtain ⟨b, hb, hbt⟩ := hT.at_ hk'
        have e2' : v = .ref b := Option.some.inj (e2.symm.trans (get_map_ref hb))
        subst e2'
        have hbx := B.ix bs[k] (List.getElem_mem _)
        have hlen : (passI (bs.take k) cur).length = n := by rw [passI_len, hcl]
        rw [passI_take cur (List.getElem?_eq_getElem hk')]
        generalize passI (bs.take k) cur = now at *
        generalize bs[k] = bb at *
        have gi := getD_at (x := now) (k := bb.i) (by omega)
        have gj := getD_at (x := now) (k := bb.j) (by omega)
        refine ⟨b, _, rfl, SqT.of (s2 _ _ hbt), rfl, _, _, rfl, _, _, rfl, _, _, rfl, rfl, ?_⟩
        refine ⟨_, rfl, _, rfl, p, _, _, _, rfl, rfl, SqL.of hp2, atI_nat (get_map_int gj), _, rfl, _, rfl, p, _, _, _, rfl, rfl, SqL.of hp2, atI_nat (get_map_int gi), _, rfl, _, _, rfl, rfl, _, _, rfl, ?_⟩
        refine ⟨_, rfl, _, rfl, p, _, _, bb.j, rfl, rfl, hp2, ixN_nat (by rw [List.length_map]; omega), ?_⟩
        refine ⟨_, _, _, _, rfl, Same.off s2 np off_upd, ?_, by rw [upd_ne pK.symm]; exact hK2⟩
        rw [upd_same, ← relax_max, List.map_set]
      · obtain ⟨y3, y5, y6, y7, rfl, s2, hp2, hK2⟩ := P2
        rw [List.length_map, hal, List.take_length] at hp2
        refine ⟨_, rfl, _, rfl, _, _, .lst (SqL.of hp2) (dpInts _), .lst (SqL.of hK2) (dpInts _), shaped_ints _, shaped_ints _, _, rfl, ?_⟩
        rw [eqv_intL]
        have hs : n + 1 - t = (n + 1 - (t + 1)) + 1 := by omega
        rw [hs] at hit
        unfold iterI at hit
        refine ite2 (fun z => ?_) (fun z => ?_)
        · have z0 := of_decide_eq_true z
          rw [if_pos z0] at hit
          refine ⟨_, rfl, q1 cur _ p hit s2 np ?_⟩
          rw [hp2, z0]
        · have z0 : ¬ passI bs cur = cur := fun q => z (decide_eq_true q)
          rw [if_neg z0] at hit
          exact ⟨passI bs cur, _, _, _, _, _, rfl, s2, hp2, by rw [passI_len, hcl], hit⟩
    · obtain ⟨cur, y3, y4, y5, y6, y7, rfl, s1, hp, hcl, hit⟩ := P1
      rw [Nat.sub_self] at hit
      exact q2 _ hit s1
def spFul : Sp := fun vs H Q _ => ∃ (x c : Addr) (n : Nat) (bs : List Bnd) (xs : List Int), vs = [.ref c, .ref x] ∧ H x = some (.lst (xs.map V.int)) ∧ xs.length = n ∧ Bs H c n bs ∧ ∀ H', Same H H' → Q (.bl (ful bs xs)) H'
def misses (bs : List Bnd) (xs : List Int) : List Bnd := bs.filter fun b => decide (xs.getD b.j 0 < xs.getD b.i 0 + b.d)
theorem misses_ful (bs : List Bnd) (xs : List Int) : (misses bs xs).isEmpty = ful bs xs := by
  unfold misses ful
  induction bs with
  | nil => rfl
  | cons b bs ih =>
    rw [List.filter_cons, List.all_cons, ← ih]
    by_cases z : xs.getD b.i 0 + b.d ≤ xs.getD b.j 0
    · rw [decide_eq_true z, decide_eq_false (show ¬ xs.getD b.j 0 < xs.getD b.i 0 + b.d by omega)]; rfl
    · rw [decide_eq_false z, decide_eq_true (show xs.getD b.j 0 < xs.getD b.i 0 + b.d by omega)]; rfl
theorem misses_take {bs : List Bnd} {xs : List Int} {k : Nat} {b : Bnd} (h : bs[k]? = some b) : misses (bs.take (k + 1)) xs = if decide (xs.getD b.j 0 < xs.getD b.i 0 + b.d) = true then misses (bs.take k) xs ++ [b] else misses (bs.take k) xs := by
  unfold misses
  rw [List.take_add_one, h, List.filter_append]
  cases e : decide (xs.getD b.j 0 < xs.getD b.i 0 + b.d) with
  | true =>
    rw [if_pos rfl]
    show _ ++ List.filter _ [b] = _
    rw [List.filter_cons, if_pos e]; rfl
  | false =>
    rw [if_neg (by decide)]
    show _ ++ List.filter _ [b] = _
    rw [List.filter_cons, if_neg (by rw [e]; decide)]
    exact List.append_nil _
theorem ok__law_fulfilled (bt : Bt mg) (a : At K mg "_law_fulfilled" s__law_fulfilled ["_law_bounds_here", "_law_numbers"]) : Cl P w K mg base 1 "_law_fulfilled" spFul := by
  refine clG a sc__law_fulfilled (fun vs H Q E h => ?_) (fun f cdv A outer s H vs Q hg hr h => ?_)
  · obtain ⟨a, b, n, bs, xs, rfl, _⟩ := h
    rfl
  · obtain ⟨x, c, n, bs, xs, rfl, hx, hn, B, q⟩ := h
    obtain ⟨as, hc, hT⟩ := B.ls
    have hal := hT.1
    have hbl := B.len
    refine ⟨_, (pss_one (ps_ret (pe_cmpR (op_eqD hr.units) (pe_lc (own := [("_law_i", 2), ("_law_j", 3), ("_law_d", 4)]) (g := (gTup K 3 (gCons (gName 2) (gCons (gName 3) (gCons (gName 4) gNil))))) (by rfl) sc__law_fulfilled.nd (pi_list (pv 0)) (blkOk_by (N := n__law_fulfilled) (sc := defScope s__law_fulfilled) (by decide +kernel)) (fun _ _ _ _ _ => (pg_tup rfl (pgs_cons (pg_name (i := 2) sc__law_fulfilled.nd rfl (Or.inl rfl)) (pgs_cons (pg_name (i := 3) sc__law_fulfilled.nd rfl (Or.inl rfl)) (pgs_cons (pg_name (i := 4) sc__law_fulfilled.nd rfl (Or.inl rfl)) pgs_nil))))) (fun _ _ _ _ _ => (pts_one (pt_cmpR op_lt (pe_ix (r := rIxL K) ix_list (pv 1) (pv 3) (fun _ _ => rfl)) (pe_op op_add (pe_ix (r := rIxL K) ix_list (pv 1) (pv 2) (fun _ _ => rfl)) (pv 4)) (nomark _)))) (fun _ _ _ _ _ => pe_int)) (pe_lst pa_nil) (nomark _)))), ?_⟩
    refine ⟨_, rfl, c, rfl, ⟨_, SqL.of hc⟩, fun M nM => lc_it (walk_list (xs := as.map V.ref)) (fun i H' => Same H H' ∧ H' M = some (.lst ((misses (bs.take i) xs).map fun _ => V.int 1))) ⟨same_upd nM, upd_same⟩ (fun i H' _ p => SqL.of (p.1 _ _ hc)) (fun i v Hx H3 hi p y => ?_) (fun H3 p => ?_)⟩
    · obtain ⟨rfl, e2⟩ := y
      have hi' : i < bs.length := by rw [List.length_map] at hi; omega
      obtain ⟨b, hb, hbt⟩ := hT.at_ hi'
      have e2' : v = .ref b := Option.some.inj (e2.symm.trans (get_map_ref hb))
      subst e2'
      have hbx := B.ix bs[i] (List.getElem_mem _)
      rw [misses_take (List.getElem?_eq_getElem hi')]
      generalize bs[i] = bb at *
      have gi := getD_at (x := xs) (k := bb.i) (by omega)
      have gj := getD_at (x := xs) (k := bb.j) (by omega)
      have hx3 := p.1 _ _ hx
      refine ⟨b, _, rfl, SqT.of (p.1 _ _ hbt), rfl, _, _, rfl, _, _, rfl, _, _, rfl, rfl, rfl, ?_⟩
      refine ⟨_, rfl, _, rfl, x, _, _, _, rfl, rfl, SqL.of hx3, atI_nat (get_map_int gj), _, rfl, _, rfl, x, _, _, _, rfl, rfl, SqL.of hx3, atI_nat (get_map_int gi), _, rfl, _, _, rfl, rfl, _, _, rfl, rfl, _, rfl, ite2 (fun z => ?_) (fun z => ?_)⟩
      · refine ⟨_, p.2, ?_, Same.off p.1 nM off_upd, ?_⟩
        · rw [List.length_map]
          have : (misses (bs.take i) xs).length ≤ bs.length := by
            unfold misses
            refine Nat.le_trans (List.length_filter_le _ _) ?_
            rw [List.length_take]; omega
          exact small1000 (by omega)
        · rw [upd_same, if_pos z, List.map_append]; rfl
      · rw [if_neg z]
        exact p
    · rw [List.length_map, hal, List.take_length] at p
      refine ⟨Nat.zero_le _, fun Z nZ => ?_⟩
      have sZ := same_upd (o := .lst []) nZ
      have hM : (upd H3 Z (.lst [])) M = some (.lst (((misses bs xs).map fun _ => (1 : Int)).map V.int)) := by
        rw [List.map_map]; exact sZ _ _ p.2
      refine ⟨_, _, .lst (SqL.of hM) (dpInts _), .lst (SqL.of upd_same) .nil, shaped_ints _, shaped_nil, ?_⟩
      have e : PyData.eqv (.list ((((misses bs xs).map fun _ => (1 : Int))).map PyData.int)) (.list []) = ful bs xs := by
        rw [eqv_nil, List.isEmpty_map, List.isEmpty_map, misses_ful]
      rw [e]
      exact q _ (p.1.trans sZ)
end
end K35

set_option Elab.async false
set_option linter.all false
set_option maxRecDepth 100000
set_option maxHeartbeats 8000000
namespace K35
open PySem PySem.Spec PyProof.Rows L2 Gd Rm Bm
def nI (g : List Nat) : List Int := g.map fun k : Nat => (k : Int)
theorem nI_mem {g : List Nat} {k : Nat} : (k : Int) ∈ nI g ↔ k ∈ g := by
  unfold nI
  rw [List.mem_map]
  constructor
  · rintro ⟨j, hj, e⟩
    have : j = k := by omega
    subst this; exact hj
  · exact fun h => ⟨k, h, rfl⟩
theorem nI_nd {g : List Nat} (h : g.Nodup) : (nI g).Nodup := by
  induction g with
  | nil => exact List.nodup_nil
  | cons a g ih =>
    obtain ⟨n1, n2⟩ := List.nodup_cons.mp h
    exact List.nodup_cons.mpr ⟨fun m => n1 (nI_mem.mp m), ih n2⟩
/-- the places with a 0 -/
def zerosN (z : List Int) (k : Nat) : List Nat := (List.range k).filter fun i => decide (z.getD i 0 = 0)
theorem zeros_succ (z : List Int) (k : Nat) : zerosN z (k + 1) = if decide (z.getD k 0 = 0) = true then zerosN z k ++ [k] else zerosN z k := by
  unfold zerosN
  rw [List.range_succ, List.filter_append]
  cases e : decide (z.getD k 0 = 0) with
  | true =>
    rw [if_pos rfl]
    show _ ++ List.filter _ [k] = _
    rw [List.filter_cons, if_pos e]; rfl
  | false =>
    rw [if_neg (by decide)]
    show _ ++ List.filter _ [k] = _
    rw [List.filter_cons, if_neg (by rw [e]; decide)]
    exact List.append_nil _
theorem zeros_ok (z : List Int) (n : Nat) : GOk n (zerosN z n) ∧ ∀ k, k < n → z.getD k 0 = 0 → k ∈ zerosN z n := by
  unfold zerosN
  refine ⟨⟨List.nodup_range.filter _, fun k hk => List.mem_range.mp (List.mem_filter.mp hk).1⟩, fun k hk e => List.mem_filter.mpr ⟨List.mem_range.mpr hk, decide_eq_true e⟩⟩
theorem zeros_len (z : List Int) (k : Nat) : (zerosN z k).length ≤ k := by
  unfold zerosN
  refine Nat.le_trans (List.length_filter_le _ _) ?_
  rw [List.length_range]; exact Nat.le_refl _
theorem nI_snoc (g : List Nat) (k : Nat) : (nI g).map V.int ++ [V.int (k : Int)] = (nI (g ++ [k])).map V.int := by
  unfold nI; rw [List.map_append, List.map_append]; rfl
section
variable {P : Program} {w : World} {K : PySem.W.Frag} {mg : Str → Option Value} {base : Heap}
def spGround : Sp := fun vs H Q _ => ∃ (x c : Addr) (n : Nat) (bs : List Bnd) (z : List Int), vs = [.ref x, .ref c] ∧ H x = some (.lst (z.map V.int)) ∧ z.length = n ∧ Bs H c n bs ∧ iterI bs (n + 1) (List.replicate n 0) = some z ∧ ∀ H', Same H H' → Q (.bl true) H'
theorem ok__law_grounded (bt : Bt mg) (a : At K mg "_law_grounded" s__law_grounded ["_law_numbers", "_law_bounds_here"]) : Cl P w K mg base 1 "_law_grounded" spGround := by
  refine clG a sc__law_grounded (fun vs H Q E h => ?_) (fun f cdv A outer s H vs Q hg hr h => ?_)
  · obtain ⟨a, b, n, bs, xs, rfl, _⟩ := h
    rfl
  · obtain ⟨x, c, n, bs, z, rfl, hx, hn, B, hz, q⟩ := h
    have n1 := B.n1
    have n2 := B.n2
    obtain ⟨as, hc, hT⟩ := B.ls
    have hal := hT.1
    refine ⟨_, (pss_cons (ps_setLc (i := 2) (own := [("_law_spot", 7), ("_law_number", 8)]) (g := (gTup K 2 (gCons (gName 7) (gCons (gName 8) gNil)))) (by rfl) sc__law_grounded.nd rfl rfl (sw_true rfl rfl rfl (by decide +kernel)) (pi_enum (by rfl) bt.m_enumerate (pa_cons (pv 0) pa_nil)) (blkOk_by (N := n__law_grounded) (sc := defScope s__law_grounded) (by decide +kernel)) (fun _ _ _ _ _ => (pg_tup rfl (pgs_cons (pg_name (i := 7) sc__law_grounded.nd rfl (Or.inl rfl)) (pgs_cons (pg_name (i := 8) sc__law_grounded.nd rfl (Or.inl rfl)) pgs_nil)))) (fun _ _ _ _ _ => (pts_one (pt_cmpR op_eq (pv 8) pe_int (nomark _)))) (fun _ _ _ _ _ => (pv 7)))
      (pss_cons (ps_for PassesOwn.never rfl (pi_range1 (by rfl) bt.m_range (pa_cons (pe_callB call_len_seq (by rfl) bt.m_len (by decide +kernel) (pa_cons (pv 0) pa_nil)) pa_nil)) (pg_name (i := 3) sc__law_grounded.nd rfl (Or.inl rfl)) (pss_one (ps_for PassesOwn.never rfl (pi_list (pv 1)) (pg_tup rfl (pgs_cons (pg_name (i := 4) sc__law_grounded.nd rfl (Or.inl rfl)) (pgs_cons (pg_name (i := 5) sc__law_grounded.nd rfl (Or.inl rfl)) (pgs_cons (pg_name (i := 6) sc__law_grounded.nd rfl (Or.inl rfl)) pgs_nil)))) (pss_one (ps_if (PW.pt (pw_and (pt_cmpR op_in_seq (pv 4) (pv 2) (by rfl)) (pw_and (pt_cmpR op_eq (pe_ix ix_list (pv 0) (pv 5) (fun _ _ => rfl)) (pe_op op_add (pe_ix ix_list (pv 0) (pv 4) (fun _ _ => rfl)) (pv 6)) (nomark _)) (pw_and1 (pt_cmpR op_notIn_seq (pv 5) (pv 2) (by rfl)))))) (pss_one (ps_expr (pe_bm PySem.F.plainAttrs_list PySem.F.slot_list_append PySem.F.type_list_append mt_append (pv 2) (pa_cons (pv 5) pa_nil)))) pss_nil)))))
      (pss_one (ps_ret (pe_cmpR (op_eqD hr.units) (pe_callB cr_sortedI (by rfl) bt.m_sorted (by decide +kernel) (pa_cons (pv 2) pa_nil)) (pe_listRg rfl (by rfl) bt.m_list (prg_1 (by rfl) bt.m_range (pe_callB call_len_seq (by rfl) bt.m_len (by decide +kernel) (pa_cons (pv 0) pa_nil)))) (nomark _)))))), ?_⟩
    refine ⟨_, rfl, x, _, rfl, SqL.of hx, fun M nM => lc_it (walk_enum (xs := z.map V.int)) (fun i H' => Same H H' ∧ H' M = some (.lst ((nI (zerosN z i)).map V.int))) ⟨same_upd nM, upd_same⟩ (fun i H' _ p => SqL.of (p.1 _ _ hx)) (fun i v H2 H3 hi p y => ?_) (fun H3 p => ?_)⟩
    · obtain ⟨T, u, v, rfl, nT, rfl, e1, e2⟩ := y
      have hi' : i < z.length := by rw [List.length_map] at hi; exact hi
      have e1' : u = .int (i : Nat) := (Option.some.inj e1).symm
      subst e1'
      have e2' : v = .int (z.getD i 0) := Option.some.inj ((show (z.map V.int)[i]? = some v from e2).symm.trans (get_map_int (getD_at hi')))
      subst e2'
      have sT := same_upd (o := .tup [.int (i : Nat), .int (z.getD i 0)]) nT
      refine ⟨T, _, rfl, SqT.of upd_same, rfl, _, _, rfl, _, _, rfl, rfl, rfl, _, rfl, rfl, _, rfl, ?_⟩
      have ed : decide (V.int (z.getD i 0) = V.int 0) = decide (z.getD i 0 = 0) := by
        by_cases q : z.getD i 0 = 0
        · rw [decide_eq_true q, q]; rfl
        · rw [decide_eq_false q, decide_eq_false (fun e => q (V.int.inj e))]
      rw [ed, zeros_succ]
      refine ite2 (fun e => ?_) (fun e => ?_)
      · rw [if_pos e]
        refine ⟨_, rfl, _, sT _ _ p.2, ?_, Same.off (p.1.trans sT) nM off_upd, ?_⟩
        · have := zeros_len z i
          rw [List.length_map]; unfold nI; rw [List.length_map]; exact small1000 (by omega)
        · rw [upd_same]
          exact congrArg (fun l => some (HO.lst l)) (nI_snoc _ _)
      · rw [if_neg e]
        exact ⟨p.1.trans sT, sT _ _ p.2⟩
    · rw [List.length_map, hn] at p
      obtain ⟨g1, g2⟩ := zeros_ok z n
      refine ⟨_, rfl, x, _, rfl, .inl (SqL.of (p.1 _ _ hx)), _, rfl, by rw [List.length_map]; omega, by rw [List.length_map]; omega, ?_⟩
      rw [List.length_map, hn, Int.toNat_natCast]
      refine for_it walk_range (fun t σ H' => ∃ (y3 y4 y5 y6 y7 y8 : Option V), σ = [some (.ref x), some (.ref c), some (.ref M), y3, y4, y5, y6, y7, y8] ∧ Same H H' ∧ H' M = some (.lst ((nI (turns z bs t (zerosN z n))).map V.int)))
        ⟨_, _, _, _, _, _, rfl, p.1, p.2⟩ (fun _ _ _ _ _ => True.intro) (fun t v σ H4 H5 ht P1 y => ?_) (fun σ H4 P1 => ?_)
      · obtain ⟨y3, y4, y5, y6, y7, y8, rfl, s1, hM⟩ := P1
        obtain ⟨rfl, rfl⟩ := y
        rw [turns_succ]
        have hok := (turns_or (z := z) B.ix g1 t).1
        generalize turns z bs t (zerosN z n) = g at *
        refine ⟨_, rfl, c, rfl, ⟨_, SqL.of (s1 _ _ hc)⟩, for_it (walk_list (xs := as.map V.ref)) (fun k σ H' => ∃ (y3 y4 y5 y6 y7 y8 : Option V), σ = [some (.ref x), some (.ref c), some (.ref M), y3, y4, y5, y6, y7, y8] ∧ Same H H' ∧ H' M = some (.lst ((nI (turn z (bs.take k) g)).map V.int)) ∧ GOk n (turn z (bs.take k) g))
          ⟨_, _, _, _, _, _, rfl, s1, hM, hok⟩ (fun _ _ H' _ P2 => by obtain ⟨_, _, _, _, _, _, _, s2, _⟩ := P2; exact SqL.of (s2 _ _ hc)) (fun k v σ H6 H7 hk P2 y => ?_) (fun σ H6 P2 => ?_)⟩
        · obtain ⟨y3, y4, y5, y6, y7, y8, rfl, s2, hM2, ok2⟩ := P2
          obtain ⟨rfl, e2⟩ := y
          have hk' : k < bs.length := by rw [List.length_map] at hk; omega
          obtain ⟨b, hb, hbt⟩ := hT.at_ hk'
          have e2' : v = .ref b := Option.some.inj (e2.symm.trans (get_map_ref hb))
          subst e2'
          have hbx := B.ix bs[k] (List.getElem_mem _)
          rw [turn_take g (List.getElem?_eq_getElem hk')]
          have ok3 := grow_ok (z := z) (b := bs[k]) hbx.2 ok2
          generalize turn z (bs.take k) g = now at *
          generalize bs[k] = bb at *
          have hln := nd_le n now ok2.nd ok2.lt
          have gi := getD_at (x := z) (k := bb.i) (by omega)
          have gj := getD_at (x := z) (k := bb.j) (by omega)
          have hx3 := s2 _ _ hx
          refine ⟨b, _, rfl, SqT.of (s2 _ _ hbt), rfl, _, _, rfl, _, _, rfl, _, _, rfl, rfl, ?_⟩
          refine ⟨_, rfl, _, rfl, M, _, rfl, .inl (SqL.of hM2), rfl, flat_ints _, _, rfl, ?_⟩
          rw [inv_int]
          have di : decide ((bb.i : Int) ∈ nI now) = decide (bb.i ∈ now) := by
            by_cases q : bb.i ∈ now
            · rw [decide_eq_true q, decide_eq_true (nI_mem.mpr q)]
            · rw [decide_eq_false q, decide_eq_false (fun m => q (nI_mem.mp m))]
          have dj : decide ((bb.j : Int) ∈ nI now) = decide (bb.j ∈ now) := by
            by_cases q : bb.j ∈ now
            · rw [decide_eq_true q, decide_eq_true (nI_mem.mpr q)]
            · rw [decide_eq_false q, decide_eq_false (fun m => q (nI_mem.mp m))]
          rw [di]
          have keep : ¬ (bb.i ∈ now ∧ z.getD bb.j 0 = z.getD bb.i 0 + bb.d ∧ ¬ bb.j ∈ now) → grow z now bb = now := fun c => by unfold grow; rw [if_neg c]
          refine ite2 (fun q1 => ?_) (fun q1 => iteF ?_)
          · have q1' := of_decide_eq_true q1
            refine ⟨_, rfl, _, rfl, x, _, _, _, rfl, rfl, SqL.of hx3, atI_nat (get_map_int gj), _, rfl, _, rfl, x, _, _, _, rfl, rfl, SqL.of hx3, atI_nat (get_map_int gi), _, rfl, _, _, rfl, rfl, rfl, _, rfl, ?_⟩
            have ed : decide (V.int (z.getD bb.j 0) = V.int (z.getD bb.i 0 + bb.d)) = decide (z.getD bb.j 0 = z.getD bb.i 0 + bb.d) := by
              by_cases q : z.getD bb.j 0 = z.getD bb.i 0 + bb.d
              · rw [decide_eq_true q, q]; exact decide_eq_true rfl
              · rw [decide_eq_false q, decide_eq_false (fun e => q (V.int.inj e))]
            show (if decide (V.int (z.getD bb.j 0) = V.int (z.getD bb.i 0 + bb.d)) = true then _ else _)
            rw [ed]
            refine ite2 (fun q2 => ?_) (fun q2 => iteF ?_)
            · have q2' := of_decide_eq_true q2
              refine ⟨_, rfl, _, rfl, M, _, rfl, .inl (SqL.of hM2), rfl, flat_ints _, _, rfl, ?_⟩
              rw [inv_int, dj]
              cases q3 : decide (bb.j ∈ now) with
              | true => exact iteF ⟨_, _, _, _, _, _, rfl, s2, by rw [keep fun c => c.2.2 (of_decide_eq_true q3)]; exact hM2, ok3⟩
              | false =>
                have q3' : ¬ bb.j ∈ now := of_decide_eq_false q3
                refine iteT ⟨_, rfl, .inl ⟨rfl, _, SqL.of hM2⟩, _, rfl, M, _, _, rfl, rfl, hM2, ?_, _, _, _, _, _, _, rfl, Same.off s2 nM off_upd, ?_, ok3⟩
                · rw [List.length_map]; unfold nI; rw [List.length_map]; exact small1000 (by omega)
                · rw [upd_same]
                  unfold grow
                  rw [if_pos ⟨q1', q2', q3'⟩]
                  exact congrArg (fun l => some (HO.lst l)) (nI_snoc _ _)
            · exact ⟨_, _, _, _, _, _, rfl, s2, by rw [keep fun c => q2 (decide_eq_true c.2.1)]; exact hM2, ok3⟩
          · exact ⟨_, _, _, _, _, _, rfl, s2, by rw [keep fun c => q1 (decide_eq_true c.1)]; exact hM2, ok3⟩
        · obtain ⟨y3, y4, y5, y6, y7, y8, rfl, s2, hM2, ok2⟩ := P2
          rw [List.length_map, hal, List.take_length] at hM2
          exact ⟨_, _, _, _, _, _, rfl, s2, hM2⟩
      · obtain ⟨y3, y4, y5, y6, y7, y8, rfl, s1, hM⟩ := P1
        obtain ⟨gk, gall⟩ := grounded B.ix hz g1 g2
        generalize turns z bs n (zerosN z n) = g at *
        refine ⟨_, rfl, M, nI g, rfl, SqL.of hM, fun ns' p1 hp ho np1 => ?_⟩
        have k1 := same_upd (o := .lst (ns'.map V.int)) np1
        refine ⟨_, rfl, x, _, rfl, .inl (SqL.of ((s1.trans k1) _ _ hx)), _, rfl, ?_, fun p2 np2 => ?_⟩
        · rw [List.length_map]
          exact ⟨by omega, by omega, by omega, by omega, by omega⟩
        have k2 := same_upd (o := .lst (rgV 0 ((z.map V.int).length : Nat))) np2
        have er : rgV 0 ((z.map V.int).length : Nat) = ((List.range n).map fun k : Nat => (k : Int)).map V.int := by
          unfold rgV
          rw [List.length_map, hn, List.map_map]
          have : ((n : Int) - 0).toNat = n := by omega
          rw [this]
          refine List.map_congr_left fun k _ => ?_
          show V.int (0 + (k : Int)) = V.int (k : Int)
          rw [Int.zero_add]
        have e : ns' = (List.range n).map fun k : Nat => (k : Int) := by
          refine same_sorted (a := nI g) (b := (List.range n).map fun k : Nat => (k : Int)) (fun k => ?_) (nI_nd gk.nd) (nI_nd List.nodup_range) hp (List.Perm.refl _) ho ?_
          · constructor
            · intro m
              obtain ⟨j, hj, rfl⟩ := List.mem_map.mp m
              exact List.mem_map.mpr ⟨j, List.mem_range.mpr (gk.lt j hj), rfl⟩
            · intro m
              obtain ⟨j, hj, rfl⟩ := List.mem_map.mp m
              exact nI_mem.mpr (gall j (List.mem_range.mp hj))
          · rw [List.pairwise_map]
            exact List.pairwise_le_range.imp fun h => by omega
        refine ⟨_, _, .lst (SqL.of (k2 _ _ upd_same)) (dpInts ns'), .lst (SqL.of (by rw [upd_same, er])) (dpInts _), shaped_ints _, shaped_ints _, ?_⟩
        rw [eqv_intL, decide_eq_true e]
        exact q _ ((s1.trans k1).trans k2)
/-- what is given for the numbers: is it a list of so many, and do they fulfil -/
inductive NumV (H : Hp) (n : Nat) (bs : List Bnd) : V → Bool → Prop
  | num {a : Addr} {xs : List Int} (h : H a = some (.lst (xs.map V.int))) : NumV H n bs (.ref a) (decide (xs.length = n) && ful bs xs)
  | non : NumV H n bs .non false
  | int (i : Int) : NumV H n bs (.int i) false
  | str (z : Str) : NumV H n bs (.str z) false
  | tup {a : Addr} {xs : List V} (h : H a = some (.tup xs)) : NumV H n bs (.ref a) false
  | dic {a : Addr} {xs : List (Key × V)} (h : H a = some (.dK xs)) : NumV H n bs (.ref a) false
  | rep {a : Addr} {v : V} (h : H a = some (.lst (List.replicate n v))) (hv : IsI H v false) : NumV H n bs (.ref a) false
theorem IsI.same {H H' : Hp} {v : V} {b : Bool} (h : IsI H v b) (s : Same H H') : IsI H' v b := by
  cases h with
  | int i => exact .int i
  | bl b => exact .bl b
  | non => exact .non
  | str z => exact .str z
  | lst h => exact .lst (s _ _ h)
def spHolds : Sp := fun vs H Q _ => ∃ (v : V) (c : Addr) (n : Nat) (bs : List Bnd) (b : Bool), vs = [.int (n : Int), .ref c, v] ∧ Bs H c n bs ∧ bs.length ≤ 400 ∧ NumV H n bs v b ∧ (∀ a xs, v = .ref a → H a = some (.lst xs) → xs.length ≤ 1000) ∧ ∀ H', Same H H' → Q (.bl b) H'
theorem ok_holds (bt : Bt mg) (a : At K mg "holds" s_holds ["many", "bounds", "numbers"]) (c_check_bounds : Cl P w K mg base 5 "check_bounds" spCheck) (c_is_an_integer : Cl P w K mg base 1 "is_an_integer" spIntG) : Cl P w K mg base 6 "holds" spHolds := by
  refine clG a sc_holds (fun vs H Q E h => ?_) (fun f cdv A outer s H vs Q hg hr h => ?_)
  · obtain ⟨v, c, n, bs, b, rfl, _⟩ := h
    rfl
  · obtain ⟨v, c, n, bs, b, rfl, B, hl, hv, hsm, q⟩ := h
    have n1 := B.n1
    have n2 := B.n2
    refine ⟨_, (pss_cons (ps_expr (pe_cl c_check_bounds hg hr (by decide) (by rfl) (pa_cons (pv 0) (pa_cons (pv 1) pa_nil))))
      (pss_cons (ps_if (PW.pt (pw_or (pt_not (pt_val (pe_callB call_isi (by rfl) bt.m_isinstance (by decide +kernel) (pa_cons (pv 2) (pa_cons (pe_bltn (v := .ty "list") (by rfl) bt.m_list (by decide +kernel) rfl) pa_nil))))) (pw_or1 (pt_cmpR op_ne (pe_callB call_len_seq (by rfl) bt.m_len (by decide +kernel) (pa_cons (pv 2) pa_nil)) (pv 0) (nomark _))))) (pss_one (ps_ret pe_bl)) pss_nil)
      (pss_cons (ps_if (pt_not (pt_val (pe_callB (cr_all rfl) (by rfl) bt.m_all (by decide +kernel) (pa_cons (pe_lc (own := [("number", 6)]) (g := (gName 6)) (by rfl) sc_holds.nd (pi_list (pv 2)) (blkOk_by (N := n_holds) (sc := defScope s_holds) (by decide +kernel)) (fun _ _ _ _ _ => (pg_name (i := 6) sc_holds.nd rfl (Or.inl rfl))) (fun _ _ _ _ _ => pts_nil) (fun _ _ _ _ _ => (pe_cl c_is_an_integer hg hr (by decide) (by rfl) (pa_cons (pv 6) pa_nil)))) pa_nil)))) (pss_one (ps_ret pe_bl)) pss_nil)
      (pss_one (ps_ret (pe_callB (cr_all rfl) (by rfl) bt.m_all (by decide +kernel) (pa_cons (pe_lc (own := [("i", 3), ("j", 4), ("d", 5)]) (g := (gTup K 3 (gCons (gName 3) (gCons (gName 4) (gCons (gName 5) gNil))))) (by rfl) sc_holds.nd (pi_list (pv 1)) (blkOk_by (N := n_holds) (sc := defScope s_holds) (by decide +kernel)) (fun _ _ _ _ _ => (pg_tup rfl (pgs_cons (pg_name (i := 3) sc_holds.nd rfl (Or.inl rfl)) (pgs_cons (pg_name (i := 4) sc_holds.nd rfl (Or.inl rfl)) (pgs_cons (pg_name (i := 5) sc_holds.nd rfl (Or.inl rfl)) pgs_nil))))) (fun _ _ _ _ _ => pts_nil) (fun _ _ _ _ _ => (pe_cmpR op_ge (pe_ix (r := rIxL K) ix_list (pv 2) (pv 4) (fun _ _ => rfl)) (pe_op op_add (pe_ix (r := rIxL K) ix_list (pv 2) (pv 3) (fun _ _ => rfl)) (pv 5)) (nomark _)))) pa_nil))))))), ?_⟩
    refine ⟨_, rfl, _, rfl, c, n, bs, rfl, B, hl, fun H1 s1 => ?_⟩
    cases hv with
    | non => exact ⟨_, rfl, _, _, _, _, false, rfl, .ty "list", .base .non, kit_ty (by decide +kernel), _, rfl, iteT (q _ s1)⟩
    | int i => exact ⟨_, rfl, _, _, _, _, false, rfl, .ty "list", .base (.int i), kit_ty (by decide +kernel), _, rfl, iteT (q _ s1)⟩
    | str z => exact ⟨_, rfl, _, _, _, _, false, rfl, .ty "list", .base (.str z), kit_ty (by decide +kernel), _, rfl, iteT (q _ s1)⟩
    | tup h => exact ⟨_, rfl, _, _, _, _, false, rfl, .ty "list", .base (.tup (s1 _ _ h)), kit_ty (by decide +kernel), _, rfl, iteT (q _ s1)⟩
    | dic h => exact ⟨_, rfl, _, _, _, _, false, rfl, .ty "list", .base (.dK (s1 _ _ h)), kit_ty (by decide +kernel), _, rfl, iteT (q _ s1)⟩
    | @rep ad v h hv =>
      have h1 := s1 _ _ h
      refine ⟨_, rfl, _, _, _, _, true, rfl, .ty "list", .base (.lst h1), kit_ty (by decide +kernel), _, rfl, iteF ?_⟩
      refine ⟨_, rfl, ad, _, rfl, .inl (SqL.of h1), _, rfl, rfl, false, ?_, iteF ?_⟩
      · rw [List.length_replicate]; exact (show V.bl (!decide (V.int (n : Int) = V.int (n : Int))) = V.bl false by simp)
      refine ⟨_, rfl, ad, rfl, ⟨_, SqL.of h1⟩, fun M nM => lc_it (walk_list (xs := List.replicate n v)) (fun i H' => Same H1 H' ∧ H' M = some (.lst ((List.replicate i false).map V.bl))) ⟨same_upd nM, upd_same⟩ (fun i H' _ p => SqL.of (p.1 _ _ h1)) (fun i x Hx H3 hi p y => ?_) (fun H3 p => ?_)⟩
      · obtain ⟨rfl, e2⟩ := y
        have hi' : i < n := by rw [List.length_replicate] at hi; exact hi
        have e2' : v = x := by
          rw [List.getElem?_replicate, if_pos hi'] at e2
          exact Option.some.inj e2
        subst e2'
        refine ⟨rfl, _, rfl, _, false, rfl, hv.same (s1.trans p.1), _, p.2, ?_, Same.off p.1 nM off_upd, ?_⟩
        · rw [List.length_map, List.length_replicate]; exact small1000 (by omega)
        · rw [upd_same, List.replicate_succ', List.map_append]; rfl
      · refine ⟨M, _, rfl, SqL.of p.2, _, rfl, ?_⟩
        have e : (List.replicate (List.replicate n v).length false).all id = false := by
          rw [List.length_replicate]
          cases n with
          | zero => omega
          | succ m => rw [List.replicate_succ]; rfl
        rw [e]
        exact iteT (q _ (s1.trans p.1))
    | @num ad xs h =>
      have h1 := s1 _ _ h
      have hsz := hsm ad _ rfl h
      rw [List.length_map] at hsz
      refine ⟨_, rfl, _, _, _, _, true, rfl, .ty "list", .base (.lst h1), kit_ty (by decide +kernel), _, rfl, iteF ?_⟩
      refine ⟨_, rfl, ad, _, rfl, .inl (SqL.of h1), _, rfl, rfl, _, rfl, ?_⟩
      rw [List.length_map]
      by_cases hn : xs.length = n
      · have e : (!decide (V.int (xs.length : Nat) = V.int (n : Int))) = false := by rw [hn]; simp
        rw [e, decide_eq_true hn] at *
        refine iteF ?_
        refine ⟨_, rfl, ad, rfl, ⟨_, SqL.of h1⟩, fun M nM => lc_it (walk_list (xs := xs.map V.int)) (fun i H' => Same H1 H' ∧ H' M = some (.lst ((List.replicate i true).map V.bl))) ⟨same_upd nM, upd_same⟩ (fun i H' _ p => SqL.of (p.1 _ _ h1)) (fun i x Hx H3 hi p y => ?_) (fun H3 p => ?_)⟩
        · obtain ⟨rfl, e2⟩ := y
          have hi' : i < xs.length := by rw [List.length_map] at hi; exact hi
          have ex : V.int (xs.getD i 0) = x := Option.some.inj ((get_map_int (getD_at hi')).symm.trans e2)
          subst ex
          refine ⟨rfl, _, rfl, _, true, rfl, .int _, _, p.2, ?_, Same.off p.1 nM off_upd, ?_⟩
          · rw [List.length_map, List.length_replicate]; exact small1000 (by omega)
          · rw [upd_same, List.replicate_succ', List.map_append]; rfl
        · refine ⟨M, _, rfl, SqL.of p.2, _, rfl, ?_⟩
          have e : (List.replicate (xs.map V.int).length true).all id = true := by
            rw [List.all_eq_true]
            intro x hx
            exact (List.mem_replicate.mp hx).2
          rw [e]
          refine iteF ?_
          have s13 := s1.trans p.1
          obtain ⟨as, hc, hT⟩ := (B.same s13).ls
          have hal := hT.1
          refine ⟨_, rfl, c, rfl, ⟨_, SqL.of hc⟩, fun M2 nM2 => lc_it (walk_list (xs := as.map V.ref)) (fun i H' => Same H3 H' ∧ H' M2 = some (.lst (((bs.take i).map fun b => decide (xs.getD b.i 0 + b.d ≤ xs.getD b.j 0)).map V.bl))) ⟨same_upd nM2, upd_same⟩ (fun i H' _ p => SqL.of (p.1 _ _ hc)) (fun i x Hx H5 hi p5 y => ?_) (fun H5 p5 => ?_)⟩
          · obtain ⟨rfl, e2⟩ := y
            have hi' : i < bs.length := by rw [List.length_map] at hi; omega
            obtain ⟨b, hb, hbt⟩ := hT.at_ hi'
            have e2' : x = .ref b := Option.some.inj (e2.symm.trans (get_map_ref hb))
            subst e2'
            have hbx := B.ix bs[i] (List.getElem_mem _)
            have htk : bs.take (i + 1) = bs.take i ++ [bs[i]] := by rw [List.take_add_one, List.getElem?_eq_getElem hi']; rfl
            rw [htk]
            generalize bs[i] = bb at *
            have gi := getD_at (x := xs) (k := bb.i) (by omega)
            have gj := getD_at (x := xs) (k := bb.j) (by omega)
            have hx3 := (s13.trans p5.1) _ _ h
            refine ⟨b, _, rfl, SqT.of (p5.1 _ _ hbt), rfl, _, _, rfl, _, _, rfl, _, _, rfl, rfl, rfl, ?_⟩
            refine ⟨_, rfl, _, rfl, ad, _, _, _, rfl, rfl, SqL.of hx3, atI_nat (get_map_int gj), _, rfl, _, rfl, ad, _, _, _, rfl, rfl, SqL.of hx3, atI_nat (get_map_int gi), _, rfl, _, _, rfl, rfl, _, _, rfl, rfl, _, p5.2, ?_, Same.off p5.1 nM2 off_upd, ?_⟩
            · rw [List.length_map, List.length_map, List.length_take]; exact small1000 (by omega)
            · rw [upd_same, List.map_append, List.map_append]; rfl
          · rw [List.length_map, hal, List.take_length] at p5
            refine ⟨M2, _, rfl, SqL.of p5.2, ?_⟩
            have e : (bs.map fun b => decide (xs.getD b.i 0 + b.d ≤ xs.getD b.j 0)).all id = (true && ful bs xs) := by
              rw [List.all_map]; rfl
            rw [e]
            exact q _ (s13.trans p5.1)
      · have e : (!decide (V.int (xs.length : Nat) = V.int (n : Int))) = true := by
          rw [decide_eq_false (fun z => hn (by have := V.int.inj z; omega))]; rfl
        rw [e]
        refine iteT ?_
        have e2 : (decide (xs.length = n) && ful bs xs) = false := by rw [decide_eq_false hn]; rfl
        rw [e2] at q
        exact q _ s1
end
end K35

set_option Elab.async false
set_option linter.all false
set_option maxRecDepth 100000
set_option maxHeartbeats 8000000
namespace K35
open PySem PySem.Spec PyProof.Rows L2 Gd Rm Bm
theorem Reel.upd {H : Hp} {r b : Addr} {n : Nat} {o : HO} (h : Reel H r n) (ne : b ≠ r) : Reel (upd H b o) r n := by
  obtain ⟨x, y, z, g, g'⟩ := h
  exact ⟨x, y, z, by rw [upd_ne ne.symm]; exact g, g'⟩
theorem Reel.new {H : Hp} {r b : Addr} {n : Nat} (h : Reel H r n) (nb : H b = none) : b ≠ r := by
  obtain ⟨_, _, _, hr, _⟩ := h
  exact (ne_of_none hr nb).symm
theorem Reel.free {H H1 : Hp} {r b : Addr} {n : Nat} (o : Off r H H1) (h : Reel H1 r n) (nb : H1 b = none) : H b = none := by
  obtain ⟨_, _, _, hr, _⟩ := h
  exact o.free hr nb
theorem Reel.lst {α : Type} {f : α → List V} {H H' : Hp} {r c : Addr} {n : Nat} {es : List α} (h : Reel H r n) (hl : Lst f H c es) (ne : c ≠ r) (o : Off r H H') : Lst f H' c es := by
  obtain ⟨_, _, _, hr, _⟩ := h
  exact hl.off hr ne o
theorem Reel.ne {α : Type} {f : α → List V} {H : Hp} {r c : Addr} {n : Nat} {es : List α} (h : Reel H r n) (hl : Lst f H c es) : c ≠ r := by
  obtain ⟨_, _, _, hr, _⟩ := h
  obtain ⟨as, hc, _⟩ := hl
  intro z
  rw [z, hr] at hc
  cases as with
  | nil => cases hc
  | cons _ _ => cases hc
/-- what a drawn list of bounds is -/
structure Drawn (n : Nat) (m : Nat) (bs : List Bnd) : Prop where
  ix : Ix n bs
  len : bs.length = m
  size : ∀ b ∈ bs, b.d.natAbs < 10 ^ 32
theorem lay_bnds : ∀ bs : List Bnd, PyData.canLayAll0 (bs.map bndD) = true ∧ PyData.depthAll (bs.map bndD) ≤ 1
  | [] => ⟨rfl, by decide⟩
  | b :: bs => by
    obtain ⟨x, y⟩ := lay_bnds bs
    refine ⟨?_, ?_⟩
    · show (PyData.canLay0 (bndD b) && PyData.canLayAll0 (bs.map bndD)) = true
      rw [x]; rfl
    · show max (PyData.depth (bndD b)) (PyData.depthAll (bs.map bndD)) ≤ 1
      have : PyData.depth (bndD b) = 1 := rfl
      omega
theorem shaped_bnds (bs : List Bnd) : SeqAt.shaped (bndsD bs) = true := by
  obtain ⟨a, b⟩ := lay_bnds bs
  show (PyData.canLayAll0 (bs.map bndD) && decide (PyData.depthAll (bs.map bndD) + 1 ≤ 64)) = true
  rw [a, decide_eq_true (by omega)]; rfl
theorem cut2 (b : Bnd) : cutV (bndV b) none (some 2) = [.int (b.i : Int), .int (b.j : Int)] := rfl
section
variable {P : Program} {w : World} {K : PySem.W.Frag} {mg : Str → Option Value} {base : Heap}
def spDrawn : Sp := fun vs H Q _ => ∃ (r : Addr) (k n m : Nat), vs = [.ref r, .int (n : Int), .int (m : Int)] ∧ Reel H r k ∧ k + 3000 < most ∧ 0 < n ∧ n ≤ 50 ∧ m ≤ 400 ∧
  ∀ H' p bs, Off r H H' → H p = none → Reel H' r (k + 2500) → Lst bndV H' p bs → Drawn n m bs → Q (.ref p) H'
theorem ok__law_bounds (bt : Bt mg) (a : At K mg "_law_bounds" s__law_bounds ["_law_pool_here", "_law_many", "_law_size"]) (c__law_draw : Cl P w K mg base 1 "_law_draw" spDraw) : Cl P w K mg base 2 "_law_bounds" spDrawn := by
  refine clG a sc__law_bounds (fun vs H Q E h => ?_) (fun f cdv A outer s H vs Q hg hr h => ?_)
  · obtain ⟨r, k, n, m, rfl, _⟩ := h
    rfl
  · obtain ⟨r, k, n, m, rfl, R, hk, hn, hn2, hm, q⟩ := h
    have hk' : k + 3000 < 1000000000 := hk
    refine ⟨_, (pss_cons (ps_set (i := 3) sc__law_bounds.nd rfl (Or.inr rfl) (pe_ix ix_list (pe_lst (pa_cons pe_int (pa_cons pe_int (pa_cons (pe_op op_powW pe_int pe_int) (pa_cons (pe_op op_powW pe_int pe_int) pa_nil))))) (pe_cl c__law_draw hg hr (by decide) (by rfl) (pa_cons (pv 0) (pa_cons pe_int pa_nil))) (fun _ _ => rfl)))
      (pss_cons (ps_par (i := 5) (j := 6) rfl sc__law_bounds.nd rfl rfl (by decide) rfl rfl (pa_cons (pe_lc (own := [("_law_turn", 4)]) (g := (gName 4)) (by rfl) sc__law_bounds.nd (pi_range1 (by rfl) bt.m_range (pa_cons (pv 1) pa_nil)) (blkOk_by (N := n__law_bounds) (sc := defScope s__law_bounds) (by decide +kernel)) (fun _ _ _ _ _ => (pg_name (i := 4) sc__law_bounds.nd rfl (Or.inl rfl))) (fun _ _ _ _ _ => pts_nil) (fun _ _ _ _ _ => (pe_cl c__law_draw hg hr (by decide) (by rfl) (pa_cons (pv 0) (pa_cons (pv 3) pa_nil))))) (pa_cons (pe_lst pa_nil) pa_nil)) (by rfl))
      (pss_cons (ps_for PassesOwn.never rfl (pi_range1 (by rfl) bt.m_range (pa_cons (pv 2) pa_nil)) (pg_name (i := 4) sc__law_bounds.nd rfl (Or.inl rfl)) (pss_cons (ps_par (i := 7) (j := 8) rfl sc__law_bounds.nd rfl rfl (by decide) rfl rfl (pa_cons (pe_cl c__law_draw hg hr (by decide) (by rfl) (pa_cons (pv 0) (pa_cons (pv 1) pa_nil))) (pa_cons (pe_cl c__law_draw hg hr (by decide) (by rfl) (pa_cons (pv 0) (pa_cons (pv 1) pa_nil))) pa_nil)) (by rfl))
      (pss_cons (ps_set (i := 9) sc__law_bounds.nd rfl (Or.inl rfl) (pe_ix ix_list (pe_lst (pa_cons pe_int (pa_cons pe_int (pa_cons (pe_cl c__law_draw hg hr (by decide) (by rfl) (pa_cons (pv 0) (pa_cons pe_int pa_nil))) (pa_cons (pe_cl c__law_draw hg hr (by decide) (by rfl) (pa_cons (pv 0) (pa_cons (pv 3) pa_nil))) pa_nil))))) (pe_cl c__law_draw hg hr (by decide) (by rfl) (pa_cons (pv 0) (pa_cons pe_int pa_nil))) (fun _ _ => rfl)))
      (pss_one (ps_expr (pe_bm PySem.F.plainAttrs_list PySem.F.slot_list_append PySem.F.type_list_append mt_append (pv 6) (pa_cons (pe_tup (pa_cons (pv 7) (pa_cons (pv 8) (pa_cons (pe_op op_sub (pe_op op_sub (pe_ix ix_list (pv 5) (pv 8) (fun _ _ => rfl)) (pe_ix ix_list (pv 5) (pv 7) (fun _ _ => rfl))) (pv 9)) pa_nil)))) pa_nil)))))))
      (C8.pss_cut (ps_if (PW.pt (pw_and (pt_cmpR op_eq (pe_cl c__law_draw hg hr (by decide) (by rfl) (pa_cons (pv 0) (pa_cons pe_int pa_nil))) pe_int (nomark _)) (pw_and1 (pt_cmpR (op_neD hr.units) (pv 6) (pe_lst pa_nil) (nomark _))))) (pss_cons (ps_set (i := 10) sc__law_bounds.nd rfl (Or.inl rfl) (pe_cl c__law_draw hg hr (by decide) (by rfl) (pa_cons (pv 0) (pa_cons (pe_callB call_len_seq (by rfl) bt.m_len (by decide +kernel) (pa_cons (pv 6) pa_nil)) pa_nil))))
      (pss_one (ps_asg (pe_op op_catT (pe_slice sl_tup (pe_ix ix_list (pv 6) (pv 10) (fun _ _ => rfl)) po_none (po_some pe_int)) (pe_tup (pa_cons (pe_op op_add (pe_op op_add (pe_ix ix_tup (pe_ix ix_list (pv 6) (pv 10) (fun _ _ => rfl)) pe_int (fun _ _ => rfl)) pe_int) (pe_cl c__law_draw hg hr (by decide) (by rfl) (pa_cons (pv 0) (pa_cons (pv 3) pa_nil)))) pa_nil))) (pg_sub (pv 6) (pv 10) set_list)))) pss_nil)
      (pss_one (ps_ret (pv 6))))))), ?_⟩
    refine ⟨_, _, rfl, rfl, powW (n := 40) (k := 9) (by decide) (by decide), _, _, rfl, rfl, powW (n := 40) (k := 30) (by decide) (by decide), (by show 4 ≤ sizeLine; decide), fun T nT => ?_⟩
    have sT := same_upd (o := .lst [.int 3, .int 50, .int (10 ^ (9 : Int).toNat), .int (10 ^ (30 : Int).toNat)]) nT
    have Tr : T ≠ r := R.new nT
    refine ⟨_, rfl, r, 4, k, rfl, by decide, by decide, by show k < 1000000000; omega, R.same sT, fun d1 H1 d10 d11 R1 o1 => ?_⟩
    have hT1 : H1 T = some (.lst (([3, 50, 10 ^ 9, 10 ^ 30] : List Int).map V.int)) := o1 _ _ upd_same Tr
    obtain ⟨top, at0, m0⟩ := getI (ns := ([3, 50, 10 ^ 9, 10 ^ 30] : List Int)) d10 (by show d1 < 4; exact d11)
    have htop : 2 ≤ top ∧ top ≤ 10 ^ 30 := by
      have hm := List.mem_of_getElem? m0
      simp only [List.mem_cons, List.mem_nil_iff, or_false] at hm
      rcases hm with rfl | rfl | rfl | rfl <;> decide
    refine ⟨T, _, d1, _, rfl, rfl, SqL.of hT1, at0, ?_⟩
    have ob : Off r H H1 := (Off.of sT).trans o1
    clear at0 m0 hT1 o1
    refine ⟨_, rfl, (n : Int), rfl, by omega, by omega, ?_⟩
    rw [Int.toNat_natCast]
    refine fun F nF => lc_it walk_range (fun i H' => Off r H1 H' ∧ Reel H' r (k + 1 + i) ∧ ∃ fs : List Int, H' F = some (.lst (fs.map V.int)) ∧ fs.length = i ∧ ∀ x ∈ fs, 0 ≤ x ∧ x < 10 ^ 30)
      ⟨Off.of (same_upd nF), R1.same (same_upd nF), [], upd_same, rfl, fun x h => by simp at h⟩ (fun _ _ _ _ => True.intro) (fun i x H2 H3 hi p y => ?_) (fun H2 p => ?_)
    · obtain ⟨o2, R2, fs, hF, hfl, hfs⟩ := p
      obtain ⟨rfl, rfl⟩ := y
      have Fr : F ≠ r := R1.new nF
      refine ⟨rfl, ⟨_, rfl, _, rfl, r, top, k + 1 + i, rfl, by omega, by omega, by show _ < 1000000000; omega, R2, fun d H4 d0 d1 R4 o4 => ?_⟩⟩
      refine ⟨_, o4 _ _ hF Fr, ?_, (o2.trans o4).new nF, R4.upd Fr, fs ++ [d], ?_, by rw [List.length_append, hfl]; rfl, fun x hx => ?_⟩
      · rw [List.length_map]; exact small1000 (by omega)
      · rw [upd_same, List.map_append]; rfl
      · rcases List.mem_append.mp hx with z | z
        · exact hfs x z
        · rw [List.mem_singleton.mp z]; omega
    · obtain ⟨o2, R2, fs, hF, hfl, hfs⟩ := p
      have Fr : F ≠ r := R1.new nF
      have nF0 : H F = none := R1.free ob nF
      refine ⟨Nat.zero_le _, fun D nD => ⟨_, _, rfl, ?_⟩⟩
      have sD := same_upd (o := .lst []) nD
      have nD0 : H D = none := R2.free (ob.trans o2) nD
      have Dr : D ≠ r := R2.new nD
      have FD : F ≠ D := ne_of_none hF nD
      refine ⟨_, rfl, (m : Int), rfl, by omega, by omega, ?_⟩
      rw [Int.toNat_natCast]
      refine for_it walk_range (fun i σ H' => ∃ (y4 y7 y8 y9 y10 : Option V) (bs : List Bnd), σ = [some (.ref r), some (.int (n : Int)), some (.int (m : Int)), some (.int top), y4, some (.ref F), some (.ref D), y7, y8, y9, y10] ∧ Off r H H' ∧ Reel H' r (k + 60 + 5 * i) ∧ H' F = some (.lst (fs.map V.int)) ∧ Lst bndV H' D bs ∧ Drawn n i bs ∧ ∀ b ∈ bs, b.d.natAbs < 10 ^ 31)
        ⟨_, _, _, _, _, [], rfl, (ob.trans o2).sameTrans sD, (R2.same sD).mono (by omega), sD _ _ hF, ⟨[], upd_same, Tups.nil⟩, ⟨fun b h => by simp at h, rfl, fun b h => by simp at h⟩, fun b h => by simp at h⟩ (fun _ _ _ _ _ => True.intro) (fun i x σ H4 H5 hi P2 y => ?_) (fun σ H4 P2 => ?_)
      · obtain ⟨y4, y7, y8, y9, y10, bs, rfl, o5, R5, hF5, hL5, dr, h31⟩ := P2
        obtain ⟨rfl, rfl⟩ := y
        refine ⟨_, rfl, _, rfl, r, n, k + 60 + 5 * i, rfl, by omega, by omega, by show _ < 1000000000; omega, R5, fun ia H6 i0 i1 R6 o6 => ?_⟩
        refine ⟨_, rfl, _, rfl, r, n, k + 60 + 5 * i + 1, rfl, by omega, by omega, by show _ < 1000000000; omega, R6, fun ja H7 j0 j1 R7 o7 => ⟨_, _, rfl, ?_⟩⟩
        obtain ⟨ib, rfl⟩ := Int.eq_ofNat_of_zero_le i0
        obtain ⟨jb, rfl⟩ := Int.eq_ofNat_of_zero_le j0
        have o67 := o6.trans o7
        have hF7 := o67 _ _ hF5 Fr
        have hL7 := R5.lst hL5 Dr o67
        have o57 := o5.trans o67
        have gi := getD_at (x := fs) (k := ib) (by omega)
        have gj := getD_at (x := fs) (k := jb) (by omega)
        have bi := hfs _ (List.mem_of_getElem? gi)
        have bj := hfs _ (List.mem_of_getElem? gj)
        -- free
        refine ⟨_, rfl, r, 3, k + 60 + 5 * i + 2, rfl, by decide, by decide, by show _ < 1000000000; omega, R7, fun e1 H8 e10 e11 R8 o8 => ?_⟩
        refine ⟨_, rfl, _, rfl, r, top, k + 60 + 5 * i + 3, rfl, by omega, by omega, by show _ < 1000000000; omega, R8, fun e2 H9 e20 e21 R9 o9 => ⟨(by show 4 ≤ sizeLine; decide), fun W nW => ?_⟩⟩
        have sW := same_upd (o := .lst [.int 0, .int 0, .int e1, .int e2]) nW
        refine ⟨_, rfl, r, 4, k + 60 + 5 * i + 4, rfl, by decide, by decide, by show _ < 1000000000; omega, R9.same sW, fun e3 H10 e30 e31 R10 o10 => ?_⟩
        have Wr : W ≠ r := R9.new nW
        have hW : H10 W = some (.lst (([0, 0, e1, e2] : List Int).map V.int)) := o10 _ _ upd_same Wr
        obtain ⟨less, atl, ml⟩ := getI (ns := ([0, 0, e1, e2] : List Int)) e30 (by show e3 < 4; exact e31)
        have hless : 0 ≤ less ∧ less ≤ 10 ^ 30 := by
          have hm := List.mem_of_getElem? ml
          simp only [List.mem_cons, List.mem_nil_iff, or_false] at hm
          rcases hm with rfl | rfl | rfl | rfl
          · decide
          · decide
          · exact ⟨e10, by omega⟩
          · exact ⟨e20, by omega⟩
        have o710 : Off r H7 H10 := ((o8.trans o9).sameTrans sW).trans o10
        have hF10 := o710 _ _ hF7 Fr
        have hL10 := R7.lst hL7 Dr o710
        have o510 := o57.trans o710
        refine ⟨W, _, e3, _, rfl, rfl, SqL.of hW, atl, ?_⟩
        obtain ⟨as, hD, hT⟩ := hL10
        have hal := hT.1
        have hdl := dr.len
        refine ⟨_, rfl, .inl ⟨rfl, _, SqL.of hD⟩, _, rfl, _, rfl, ?_⟩
        refine ⟨_, rfl, _, rfl, F, _, _, _, rfl, rfl, SqL.of hF10, atI_nat (get_map_int gj), _, rfl, _, rfl, F, _, _, _, rfl, rfl, SqL.of hF10, atI_nat (get_map_int gi), _, _, rfl, rfl, _, rfl, _, _, rfl, rfl, (by show 3 ≤ sizeLine; decide), fun p np => ?_⟩
        have sp := same_upd (o := .tup [.int (ib : Int), .int (jb : Int), .int (fs.getD jb 0 - fs.getD ib 0 - less)]) np
        have hDp := sp _ _ hD
        have pD : p ≠ D := (ne_of_none hD np).symm
        refine ⟨D, _, .ref p, rfl, rfl, hDp, by rw [List.length_map]; exact small1000 (by omega), ?_⟩
        have all31 : ∀ b ∈ bs ++ [(⟨ib, jb, fs.getD jb 0 - fs.getD ib 0 - less⟩ : Bnd)], b.d.natAbs < 10 ^ 31 := fun b hb => by
          rcases List.mem_append.mp hb with z | z
          · exact h31 b z
          · rw [List.mem_singleton.mp z]
            show (fs.getD jb 0 - fs.getD ib 0 - less).natAbs < 10 ^ 31
            omega
        refine ⟨_, _, _, _, _, bs ++ [⟨ib, jb, fs.getD jb 0 - fs.getD ib 0 - less⟩], rfl, (o510.sameTrans sp).new nD0, ((R10.same sp).upd Dr).mono (by omega), ?_, ?_, ⟨fun b hb => ?_, by rw [List.length_append, hdl]; rfl, fun b hb => Nat.lt_trans (all31 b hb) (by decide)⟩, all31⟩
        · rw [upd_ne FD]; exact sp _ _ hF10
        · exact ⟨as ++ [p], by rw [upd_same, List.map_append]; rfl, Tups.snoc ((hT.same sp).off hDp off_upd) (by rw [upd_ne pD]; exact upd_same)⟩
        · rcases List.mem_append.mp hb with z | z
          · exact dr.ix b z
          · rw [List.mem_singleton.mp z]
            show ib < n ∧ jb < n
            omega
      · obtain ⟨y4, y7, y8, y9, y10, bs, rfl, o5, R5, hF5, hL5, dr, h31⟩ := P2
        have hdl := dr.len
        have big : (10 : Int) ^ 40 > 1000 := by decide
        refine ⟨fun σ' H' => ∃ (y4 y7 y8 y9 y10 : Option V) (bs : List Bnd), σ' = [some (.ref r), some (.int (n : Int)), some (.int (m : Int)), some (.int top), y4, some (.ref F), some (.ref D), y7, y8, y9, y10] ∧ Off r H H' ∧ Reel H' r (k + 60 + 5 * m + 5) ∧ Lst bndV H' D bs ∧ Drawn n m bs, ?_, ?_⟩
        · refine ⟨_, rfl, r, 4, k + 60 + 5 * m, rfl, by decide, by decide, by show _ < 1000000000; omega, R5, fun e1 H6 e10 e11 R6 o6 => ⟨rfl, _, rfl, ite2 (fun z => ?_) (fun z => ?_)⟩⟩
          · have hL6 := R5.lst hL5 Dr o6
            refine ⟨_, rfl, Nat.zero_le _, fun Z nZ => ?_⟩
            have sZ := same_upd (o := .lst []) nZ
            refine ⟨_, _, lstB_dp (hL6.same sZ), .lst (SqL.of upd_same) .nil, shaped_bnds bs, shaped_nil, !bs.isEmpty, congrArg V.bl (by show (!PyData.eqv (.list (bs.map bndD)) (.list [])) = _; rw [eqv_nil, List.isEmpty_map]), ?_⟩
            have R7 := R6.same sZ
            have o57 := (o5.trans o6).sameTrans sZ
            have hL7 := hL6.same sZ
            cases hb : bs.isEmpty with
            | true => exact iteF ⟨_, _, _, _, _, bs, rfl, o57, R7.mono (by omega), hL7, dr⟩
            | false =>
              have hm1 : 1 ≤ m := by
                cases bs with
                | nil => cases hb
                | cons _ _ => rw [List.length_cons] at hdl; omega
              refine iteT ?_
              obtain ⟨as, hD, hT⟩ := id hL7
              have hal := hT.1
              refine ⟨_, rfl, _, rfl, D, _, rfl, .inl (SqL.of hD), r, _, k + 60 + 5 * m + 1, rfl, by rw [List.length_map]; omega, by rw [List.length_map]; omega, by show _ < 1000000000; omega, R7, fun sa H8 s0 s1 R8 o8 => ?_⟩
              obtain ⟨sp, rfl⟩ := Int.eq_ofNat_of_zero_le s0
              rw [List.length_map] at s1
              have hsp : sp < bs.length := by omega
              have hL8 := R7.lst hL7 Dr o8
              obtain ⟨as8, hD8, hT8⟩ := id hL8
              have hal8 := hT8.1
              obtain ⟨b, hb8, hbt8⟩ := hT8.at_ hsp
              refine ⟨_, rfl, _, rfl, D, _, _, _, rfl, rfl, SqL.of hD8, atI_nat (get_map_ref hb8), 2, rfl, b, _, rfl, SqT.of hbt8, (fun z => absurd z.2 (show ¬ HT.sIx 3 3 (some 2) = 3 by decide)), fun p1 np1 => ?_⟩
              rw [cut2]
              have k1 := same_upd (o := .tup [.int (bs[sp].i : Int), .int (bs[sp].j : Int)]) np1
              have hD9 := k1 _ _ hD8
              have hb9 := k1 _ _ hbt8
              refine ⟨_, rfl, _, rfl, D, _, _, _, rfl, rfl, SqL.of hD9, atI_nat (get_map_ref hb8), b, _, _, _, rfl, rfl, SqT.of hb9, atI_nat (j := 2) rfl, _, _, rfl, rfl, ?_⟩
              refine ⟨_, rfl, _, rfl, r, top, k + 60 + 5 * m + 1 + 1, rfl, by omega, by omega, by show _ < 1000000000; omega, R8.same k1, fun e2 H10 e20 e21 R10 o10 => ⟨_, _, rfl, rfl, (by show 1 ≤ sizeLine; decide), fun p2 np2 => ?_⟩⟩
              have k2 := same_upd (o := .tup [.int (bs[sp].d + 1 + e2)]) np2
              have p1r : p1 ≠ r := R8.new np1
              have hp1 := k2 _ _ (o10 _ _ (upd_same (a := p1) (o := .tup [.int (bs[sp].i : Int), .int (bs[sp].j : Int)])) p1r)
              have o811 := ((Off.of k1).trans o10).sameTrans k2
              refine ⟨p1, p2, _, _, rfl, rfl, SqT.of hp1, SqT.of upd_same, (by intro z; cases z), (by show 2 + 1 ≤ sizeLine; decide), (fun z => by cases z), fun _ p3 np3 => ?_⟩
              have k3 := same_upd (o := .tup ([.int (bs[sp].i : Int), .int (bs[sp].j : Int)] ++ [.int (bs[sp].d + 1 + e2)])) np3
              have o812 := o811.sameTrans k3
              have hD12 := o812 _ _ hD8 Dr
              have R12 := (R10.same k2).same k3
              have hL12 := R8.lst hL8 Dr o812
              refine ⟨_, rfl, _, rfl, D, _, _, sp, rfl, rfl, hD12, ixN_nat (by rw [List.length_map]; omega), ?_⟩
              have hmem : bs[sp] ∈ bs := List.getElem_mem _
              have hdx := dr.ix _ hmem
              have hsz := h31 _ hmem
              have hT12 : Tups _ bndV as8 bs := ⟨hal8, fun i a e x y => o812 _ _ (hT8.2 i a e x y) (by
                obtain ⟨_, _, _, hr8, _⟩ := id R8
                exact ne_of (hT8.2 i a e x y) hr8 (by intro z; cases z))⟩
              have p3D : p3 ≠ D := by
                intro z
                rw [z] at np3
                have : H8 D = none := by
                  cases e : H8 D with
                  | none => rfl
                  | some o => have := o811 _ _ e Dr; rw [np3] at this; cases this
                rw [hD8] at this; cases this
              refine ⟨_, _, _, _, _, bs.set sp ⟨bs[sp].i, bs[sp].j, bs[sp].d + 1 + e2⟩, rfl, ((o57.trans o8).trans o812).new nD0, (R12.upd Dr).mono (by omega), ⟨as8.set sp p3, by rw [upd_same, List.map_set], by rw [List.length_set, List.length_set]; exact hal8, fun i a e x y => ?_⟩, fun x hx => ?_, by rw [List.length_set]; exact hdl, fun x hx => ?_⟩
              · rw [List.getElem?_set] at x y
                by_cases z : sp = i
                · subst z
                  rw [if_pos rfl, if_pos (by omega)] at x y
                  have e1 : p3 = a := Option.some.inj x
                  have e2' : (⟨bs[sp].i, bs[sp].j, bs[sp].d + 1 + e2⟩ : Bnd) = e := Option.some.inj y
                  subst e1 e2'
                  rw [upd_ne p3D, upd_same]; rfl
                · rw [if_neg z] at x y
                  have := hT12.2 i a e x y
                  rw [upd_ne (ne_of this hD12 (by intro z; cases z))]
                  exact this
              · rcases List.mem_or_eq_of_mem_set hx with h | rfl
                · exact dr.ix x h
                · exact hdx
              · rcases List.mem_or_eq_of_mem_set hx with h | rfl
                · exact dr.size x h
                · show (bs[sp].d + 1 + e2).natAbs < 10 ^ 32
                  omega
          · exact ⟨_, _, _, _, _, bs, rfl, o5.trans o6, R6.mono (by omega), R5.lst hL5 Dr o6, dr⟩
        · rintro σ' H' ⟨y4, y7, y8, y9, y10, bs, rfl, o6, R6, hL6, dr6⟩
          exact ⟨_, rfl, q _ D bs o6 nD0 (R6.mono (by omega)) hL6 dr6⟩
end
end K35

set_option Elab.async false
set_option linter.all false
set_option maxRecDepth 100000
set_option maxHeartbeats 16000000
namespace K35
open PySem PySem.Spec PyProof.Rows L2 Gd Rm Bm
theorem cutTake {xs : List V} {d : Int} (h0 : 0 ≤ d) (h1 : d ≤ (xs.length : Int)) : cutV xs none (some d) = xs.take d.toNat := by
  unfold cutV
  rw [HT.sIx_none]
  have e : d = ((d.toNat : Nat) : Int) := by omega
  rw [e, show HT.sIx xs.length xs.length (some ((d.toNat : Nat) : Int)) = min d.toNat xs.length from HT.sIx_nat xs.length xs.length d.toNat]
  rw [List.drop_zero, Nat.sub_zero, Int.toNat_natCast]
  rw [Nat.min_eq_left (by omega)]
theorem cutDrop {xs : List V} {k : Nat} (h1 : k ≤ xs.length) : cutV xs (some (k : Int)) none = xs.drop k := by
  unfold cutV
  rw [HT.sIx_none, HT.sIx_nat, Nat.min_eq_left h1]
  exact List.take_of_length_le (by rw [List.length_drop]; omega)
theorem cutLast {xs : List V} (h : 1 ≤ xs.length) : cutV xs none (some (-1)) = xs.take (xs.length - 1) := by
  unfold cutV
  rw [HT.sIx_none]
  have e : HT.sIx xs.length xs.length (some (-1)) = xs.length - 1 := by
    show (if (-1 : Int) < 0 then ((-1 : Int) + (xs.length : Int)).toNat else min ((-1 : Int).toNat) xs.length) = _
    rw [if_pos (by decide)]
    omega
  rw [e]
  rfl
theorem at0 {xs : List Int} (h : 0 < xs.length) : (xs.map V.int)[0]? = some (.int (xs.getD 0 0)) := get_map_int (getD_at h)
theorem NumV.same {H H' : Hp} {n : Nat} {bs : List Bnd} {v : V} {b : Bool} (h : NumV H n bs v b) (s : Same H H') : NumV H' n bs v b := by
  cases h with
  | num h => exact .num (s _ _ h)
  | non => exact .non
  | int i => exact .int i
  | str z => exact .str z
  | tup h => exact .tup (s _ _ h)
  | dic h => exact .dic (s _ _ h)
  | rep h hv => exact .rep (s _ _ h) (hv.same s)
theorem NumV.short {H : Hp} {n : Nat} {bs : List Bnd} {a : Addr} {ys : List Int} (h : H a = some (.lst (ys.map V.int))) (hn : ys.length ≠ n) : NumV H n bs (.ref a) false := by
  have e := NumV.num (n := n) (bs := bs) h
  rw [decide_eq_false hn] at e
  exact e
/-- an odd value, of a size that may be looked at -/
def Nv (H : Hp) (n : Nat) (bs : List Bnd) (v : V) : Prop := NumV H n bs v false ∧ ∀ a zs, v = .ref a → H a = some (.lst zs) → zs.length ≤ 1000
theorem Nv.same {H H' : Hp} {n : Nat} {bs : List Bnd} {v : V} (h : Nv H n bs v) (s : Same H H') : Nv H' n bs v := by
  refine ⟨h.1.same s, fun a zs e h' => ?_⟩
  subst e
  have key : ∀ o, H a = some o → H a = some (.lst zs) := fun o e => by
    have := s _ _ e
    rw [h'] at this
    rw [e, this]
  have : ∃ o, H a = some o := by
    have h1 := h.1
    generalize hb : false = b at h1
    generalize hv : V.ref a = v at h1
    cases h1 with
    | num h => cases hv; exact ⟨_, h⟩
    | non => cases hv
    | int i => cases hv
    | str z => cases hv
    | tup h => cases hv; exact ⟨_, h⟩
    | dic h => cases hv; exact ⟨_, h⟩
    | rep h _ => cases hv; exact ⟨_, h⟩
  obtain ⟨o, ho⟩ := this
  exact h.2 a zs rfl (key o ho)
theorem nv_flat {H : Hp} {n : Nat} {bs : List Bnd} {v : V} (h : NumV H n bs v false) (e : ∀ a, v ≠ .ref a) : Nv H n bs v := ⟨h, fun a _ q => absurd q (e a)⟩
theorem nv_short {H : Hp} {n : Nat} {bs : List Bnd} {a : Addr} {ys : List Int} (h : H a = some (.lst (ys.map V.int))) (hn : ys.length ≠ n) (hl : ys.length ≤ 1000) : Nv H n bs (.ref a) :=
  ⟨NumV.short h hn, fun b zs e h' => by cases e; rw [h] at h'; cases h'; rw [List.length_map]; exact hl⟩
theorem nv_rep {H : Hp} {n : Nat} {bs : List Bnd} {a : Addr} {v : V} (h : H a = some (.lst (List.replicate n v))) (hv : IsI H v false) (hl : n ≤ 1000) : Nv H n bs (.ref a) :=
  ⟨.rep h hv, fun b zs e h' => by cases e; rw [h] at h'; cases h'; rw [List.length_replicate]; exact hl⟩
theorem nv_tup {H : Hp} {n : Nat} {bs : List Bnd} {a : Addr} {xs : List V} (h : H a = some (.tup xs)) : Nv H n bs (.ref a) :=
  ⟨.tup h, fun b zs e h' => by cases e; rw [h] at h'; cases h'⟩
theorem nv_dic {H : Hp} {n : Nat} {bs : List Bnd} {a : Addr} {xs : List (Key × V)} (h : H a = some (.dK xs)) : Nv H n bs (.ref a) :=
  ⟨.dic h, fun b zs e h' => by cases e; rw [h] at h'; cases h'⟩
section
variable {P : Program} {w : World} {K : PySem.W.Frag} {mg : Str → Option Value} {base : Heap}
def spJudged : Sp := fun vs H Q _ => ∃ (r c x : Addr) (k n : Nat) (bs : List Bnd) (xs : List Int), vs = [.ref r, .int (n : Int), .ref c, .ref x] ∧ Reel H r k ∧ k + 100 < most ∧ Bs H c n bs ∧ bs.length ≤ 400 ∧ c ≠ r ∧ H x = some (.lst (xs.map V.int)) ∧ x ≠ r ∧ xs.length = n ∧
  ∀ H', Off r H H' → Reel H' r (k + 7) → Q (.bl true) H'
theorem ok__law_judged_right (bt : Bt mg) (a : At K mg "_law_judged_right" s__law_judged_right ["_law_pool_here", "_law_many", "_law_bounds_here", "_law_numbers"]) (c__law_draw : Cl P w K mg base 1 "_law_draw" spDraw) (c_holds : Cl P w K mg base 6 "holds" spHolds)
    (c__law_fulfilled : Cl P w K mg base 1 "_law_fulfilled" spFul) : Cl P w K mg base 7 "_law_judged_right" spJudged := by
  refine clG a sc__law_judged_right (fun vs H Q E h => ?_) (fun f cdv A outer s H vs Q hg hr h => ?_)
  · obtain ⟨r, c, x, k, n, bs, xs, rfl, _⟩ := h
    rfl
  · obtain ⟨r, c, x, k, n, bs, xs, rfl, R, hk, B, hl4, cr, hx, xr, hn, q⟩ := h
    have hk' : k + 100 < 1000000000 := hk
    have n1 := B.n1
    have n2 := B.n2
    refine ⟨_, (pss_cons (ps_set (i := 4) sc__law_judged_right.nd rfl (Or.inr rfl) (pe_op op_add pe_int (pe_cl c__law_draw hg hr (by decide) (by rfl) (pa_cons (pv 0) (pa_cons pe_int pa_nil)))))
      (pss_cons (ps_set (i := 5) sc__law_judged_right.nd rfl (Or.inl rfl) (pe_lst (pa_cons (pv 3) (pa_cons (pe_lc (own := [("_law_number", 10)]) (g := (gName 10)) (by rfl) sc__law_judged_right.nd (pi_list (pv 3)) (blkOk_by (N := n__law_judged_right) (sc := defScope s__law_judged_right) (by decide +kernel)) (fun _ _ _ _ _ => (pg_name (i := 10) sc__law_judged_right.nd rfl (Or.inl rfl))) (fun _ _ _ _ _ => pts_nil) (fun _ _ _ _ _ => (pe_op op_add (pv 10) (pv 4)))) (pa_cons (pe_lc (own := [("_law_number", 10)]) (g := (gName 10)) (by rfl) sc__law_judged_right.nd (pi_list (pv 3)) (blkOk_by (N := n__law_judged_right) (sc := defScope s__law_judged_right) (by decide +kernel)) (fun _ _ _ _ _ => (pg_name (i := 10) sc__law_judged_right.nd rfl (Or.inl rfl))) (fun _ _ _ _ _ => pts_nil) (fun _ _ _ _ _ => (pe_op op_sub (pv 10) (pv 4)))) pa_nil)))))
      (pss_cons (ps_for PassesOwn.never rfl (pi_range1 (by rfl) bt.m_range (pa_cons pe_int pa_nil)) (pg_name (i := 6) sc__law_judged_right.nd rfl (Or.inl rfl)) (pss_cons (ps_set (i := 7) sc__law_judged_right.nd rfl (Or.inl rfl) (pe_cl c__law_draw hg hr (by decide) (by rfl) (pa_cons (pv 0) (pa_cons (pv 1) pa_nil))))
      (pss_one (ps_expr (pe_bm PySem.F.plainAttrs_list PySem.F.slot_list_append PySem.F.type_list_append mt_append (pv 5) (pa_cons (pe_op op_cat (pe_op op_cat (pe_slice sl_list (pv 3) po_none (po_some (pv 7))) (pe_lst (pa_cons (pe_op op_add (pe_ix ix_list (pv 3) (pv 7) (fun _ _ => rfl)) (pe_ix ix_list (pe_lst (pa_cons pe_int (pa_cons (pe_un un_neg pe_int) pa_nil))) (pe_cl c__law_draw hg hr (by decide) (by rfl) (pa_cons (pv 0) (pa_cons pe_int pa_nil))) (fun _ _ => rfl))) pa_nil))) (pe_slice sl_list (pv 3) (po_some (pe_op op_add (pv 7) pe_int)) po_none)) pa_nil))))))
      (pss_cons (ps_for PassesOwn.never rfl (pi_list (pv 5)) (pg_name (i := 8) sc__law_judged_right.nd rfl (Or.inl rfl)) (pss_one (ps_if (pt_cmpR op_ne (pe_callB (call_repA hg hr) (by rfl) bt.m_repr (by decide +kernel) (pa_cons (pe_cl c_holds hg hr (by decide) (by rfl) (pa_cons (pv 1) (pa_cons (pv 2) (pa_cons (pv 8) pa_nil)))) pa_nil)) (pe_callB (call_repA hg hr) (by rfl) bt.m_repr (by decide +kernel) (pa_cons (pe_cl c__law_fulfilled hg hr (by decide) (by rfl) (pa_cons (pv 2) (pa_cons (pv 8) pa_nil))) pa_nil)) (nomark _)) (pss_one (ps_ret pe_bl)) pss_nil)))
      (pss_cons (ps_set (i := 9) sc__law_judged_right.nd rfl (Or.inl rfl) (pe_lst (pa_cons pe_non (pa_cons pe_int (pa_cons pe_str (pa_cons pe_dnewK (pa_cons (pe_slice sl_list (pv 3) po_none (po_some (pe_un un_neg pe_int))) (pa_cons (pe_op op_cat (pv 3) (pe_lst (pa_cons (pe_ix ix_list (pv 3) pe_int (fun _ _ => rfl)) pa_nil))) (pa_cons (pe_callTy call_tuple_of (by rfl) bt.m_tuple (by decide +kernel) (pa_cons (pv 3) pa_nil)) (pa_cons (pe_op op_rep (pe_lst (pa_cons pe_bl pa_nil)) (pv 1)) (pa_cons (pe_op op_rep (pe_lst (pa_cons pe_non pa_nil)) (pv 1)) pa_nil)))))))))))
      (pss_cons (ps_set (i := 9) sc__law_judged_right.nd rfl (Or.inl rfl) (pe_op op_cat (pv 9) (pe_lst (pa_cons (pe_op op_rep (pe_lst (pa_cons pe_str pa_nil)) (pv 1)) (pa_cons (pe_op op_rep (pe_lst (pa_cons (pv 3) pa_nil)) (pv 1)) pa_nil)))))
      (pss_one (ps_ret (pe_cmpR (op_eqD hr.units) (pe_lc (own := [("_law_thing", 8)]) (g := (gName 8)) (by rfl) sc__law_judged_right.nd (pi_list (pv 9)) (blkOk_by (N := n__law_judged_right) (sc := defScope s__law_judged_right) (by decide +kernel)) (fun _ _ _ _ _ => (pg_name (i := 8) sc__law_judged_right.nd rfl (Or.inl rfl))) (fun _ _ _ _ _ => (pts_one (pt_cmpR op_notBl (pe_cl c_holds hg hr (by decide) (by rfl) (pa_cons (pv 1) (pa_cons (pv 2) (pa_cons (pv 8) pa_nil)))) pe_bl (nomark _)))) (fun _ _ _ _ _ => (pv 8))) (pe_lst pa_nil) (nomark _)))))))))), ?_⟩
    refine ⟨_, rfl, r, 9, k, rfl, by decide, by decide, by show k < 1000000000; omega, R, fun u H1 u0 u1 R1 o1 => ⟨_, _, rfl, rfl, ?_⟩⟩
    have hx1 := o1 _ _ hx xr
    have B1 : Bs H1 c n bs := { B with ls := R.lst B.ls cr o1 }
    clear hx B
    refine ⟨_, rfl, _, rfl, x, rfl, ⟨_, SqL.of hx1⟩, fun M1 nM1 => lc_it (walk_list (xs := xs.map V.int)) (fun i H' => Same H1 H' ∧ H' M1 = some (.lst (((xs.take i).map fun v => v + (1 + u)).map V.int))) ⟨same_upd nM1, upd_same⟩ (fun i H' _ p => SqL.of (p.1 _ _ hx1)) (fun i v Hx H3 hi p y => ?_) (fun H2 p => ?_)⟩
    · obtain ⟨rfl, e2⟩ := y
      have hi' : i < xs.length := by rw [List.length_map] at hi; exact hi
      have ex : V.int (xs.getD i 0) = v := Option.some.inj ((get_map_int (getD_at hi')).symm.trans e2)
      subst ex
      refine ⟨rfl, _, rfl, _, rfl, _, _, rfl, rfl, _, p.2, ?_, Same.off p.1 nM1 off_upd, ?_⟩
      · rw [List.length_map, List.length_map, List.length_take]; exact small1000 (by omega)
      · rw [upd_same, List.take_add_one, getD_at hi', List.map_append, List.map_append]; rfl
    rw [List.length_map, List.take_length] at p
    obtain ⟨s2, hM1⟩ := p
    have hx2 := s2 _ _ hx1
    refine ⟨_, rfl, x, rfl, ⟨_, SqL.of hx2⟩, fun M2 nM2 => lc_it (walk_list (xs := xs.map V.int)) (fun i H' => Same H2 H' ∧ H' M2 = some (.lst (((xs.take i).map fun v => v - (1 + u)).map V.int))) ⟨same_upd nM2, upd_same⟩ (fun i H' _ p => SqL.of (p.1 _ _ hx2)) (fun i v Hx H3 hi p y => ?_) (fun H3 p => ?_)⟩
    · obtain ⟨rfl, e2⟩ := y
      have hi' : i < xs.length := by rw [List.length_map] at hi; exact hi
      have ex : V.int (xs.getD i 0) = v := Option.some.inj ((get_map_int (getD_at hi')).symm.trans e2)
      subst ex
      refine ⟨rfl, _, rfl, _, rfl, _, _, rfl, rfl, _, p.2, ?_, Same.off p.1 nM2 off_upd, ?_⟩
      · rw [List.length_map, List.length_map, List.length_take]; exact small1000 (by omega)
      · rw [upd_same, List.take_add_one, getD_at hi', List.map_append, List.map_append]; rfl
    rw [List.length_map, List.take_length] at p
    obtain ⟨s3, hM2⟩ := p
    refine ⟨(by show 3 ≤ sizeLine; decide), fun Sm nSm => ?_⟩
    have sS := same_upd (o := .lst [.ref x, .ref M1, .ref M2]) nSm
    have s13 := (s2.trans s3).trans sS
    have M1r : M1 ≠ r := R1.new nM1
    have M2r : M2 ≠ r := (R1.same s2).new nM2
    have Smr : Sm ≠ r := (R1.same (s2.trans s3)).new nSm
    have nSm1 : H1 Sm = none := (s2.trans s3).free nSm
    have nSm0 : H Sm = none := R1.free o1 nSm1
    have hx3 := s13 _ _ hx1
    have hM1' := (s3.trans sS) _ _ hM1
    have hM2' := sS _ _ hM2
    have R3 := R1.same s13
    have B3 := B1.same s13
    have hS3 := upd_same (H := H3) (a := Sm) (o := .lst [.ref x, .ref M1, .ref M2])
    have o3 := o1.sameTrans s13
    have oSm : ∀ {a : Addr}, H3 a ≠ none → a ≠ Sm := fun {a} h e => h (e ▸ nSm)
    have xS : x ≠ Sm := oSm (by rw [(s2.trans s3) _ _ hx1]; intro z; cases z)
    have cS : c ≠ Sm := by
      obtain ⟨as, hc, _⟩ := B1.ls
      exact oSm (by rw [(s2.trans s3) _ _ hc]; intro z; cases z)
    refine (fun (G : ∀ H4 : Hp, Reel H4 r (k + 1) → Bs H4 c n bs → Off r H H4 → H4 x = some (.lst (xs.map V.int)) → H4 Sm = some (.lst ([x, M1, M2].map V.ref)) → (∀ a ∈ [x, M1, M2], a ≠ r ∧ a ≠ Sm ∧ ∃ ys : List Int, H4 a = some (.lst (ys.map V.int)) ∧ ys.length = n) → _) => G _ R3 B3 o3 hx3 hS3 (fun a ha => ?_)) (fun H4 R4 B4 o4 hx4 hS4 all4 => ?_)
    · simp only [List.mem_cons, List.mem_nil_iff, or_false] at ha
      rcases ha with rfl | rfl | rfl
      · exact ⟨xr, xS, xs, hx3, hn⟩
      · exact ⟨M1r, oSm (by rw [s3 _ _ hM1]; intro z; cases z), _, hM1', by rw [List.length_map]; exact hn⟩
      · exact ⟨M2r, oSm (by rw [hM2]; intro z; cases z), _, hM2', by rw [List.length_map]; exact hn⟩
    clear hx1 hx2 hx3 hM1 hM2 hM1' hM2' hS3 s13 s2 s3 sS R3 B3 o3 R1 B1 nM1 nM2 nSm nSm1 oSm o1
    have big : (10 : Int) ^ 40 > 1000 := by decide
    refine ⟨3, rfl, by decide, by decide, for_it walk_range (fun t σ H' => ∃ (y6 y7 y8 y9 y10 : Option V) (as : List Addr), σ = [some (.ref r), some (.int (n : Int)), some (.ref c), some (.ref x), some (.int (1 + u)), some (.ref Sm), y6, y7, y8, y9, y10] ∧ Reel H' r (k + 1 + 2 * t) ∧ Bs H' c n bs ∧ Off r H H' ∧ H' x = some (.lst (xs.map V.int)) ∧ H' Sm = some (.lst (as.map V.ref)) ∧ as.length = 3 + t ∧
        ∀ a ∈ as, a ≠ r ∧ a ≠ Sm ∧ ∃ ys : List Int, H' a = some (.lst (ys.map V.int)) ∧ ys.length = n)
      ⟨_, _, _, _, _, [x, M1, M2], rfl, R4, B4, o4, hx4, hS4, rfl, all4⟩ (fun _ _ _ _ _ => True.intro) (fun t v σ H5 H6 ht p y => ?_) (fun σ H5 p => ?_)⟩
    · obtain ⟨y6, y7, y8, y9, y10, as, rfl, R5, B5, o5, hx5, hS5, hal, all5⟩ := p
      obtain ⟨rfl, rfl⟩ := y
      have ht3 : t < 3 := ht
      refine ⟨_, rfl, _, rfl, r, n, k + 1 + 2 * t, rfl, by omega, by omega, by show _ < 1000000000; omega, R5, fun sa H7 s0 s1 R7 o7 => ?_⟩
      obtain ⟨sp, rfl⟩ := Int.eq_ofNat_of_zero_le s0
      have hsp : sp < xs.length := by omega
      have hx7 := o7 _ _ hx5 xr
      have hS7 := o7 _ _ hS5 Smr
      refine ⟨_, rfl, .inl ⟨rfl, _, SqL.of hS7⟩, ?_⟩
      refine ⟨_, rfl, _, rfl, sp, rfl, x, _, rfl, SqL.of hx7, fun A nA => ?_⟩
      rw [cutTake (by omega) (by rw [List.length_map]; omega), Int.toNat_natCast, ← List.map_take]
      have kA := same_upd (o := .lst ((xs.take sp).map V.int)) nA
      refine ⟨_, rfl, _, rfl, x, _, _, _, rfl, rfl, SqL.of (kA _ _ hx7), atI_nat (get_map_int (getD_at hsp)), ?_⟩
      refine ⟨_, rfl, (by show 2 ≤ sizeLine; decide), fun W nW => ?_⟩
      have kW := same_upd (o := .lst [.int 1, .int (-1)]) nW
      have Wr : W ≠ r := (R7.same kA).new nW
      refine ⟨_, rfl, r, 2, k + 1 + 2 * t + 1, rfl, by decide, by decide, by show _ < 1000000000; omega, (R7.same kA).same kW, fun e H8 e0 e1 R8 o8 => ?_⟩
      have hW : H8 W = some (.lst (([1, -1] : List Int).map V.int)) := o8 _ _ upd_same Wr
      obtain ⟨pm, apm, _⟩ := getI (ns := ([1, -1] : List Int)) e0 (by show e < 2; exact e1)
      refine ⟨W, _, e, _, rfl, rfl, SqL.of hW, apm, _, _, rfl, rfl, (by show 1 ≤ sizeLine; decide), fun Bq nB => ?_⟩
      have kB := same_upd (o := .lst [.int (xs.getD sp 0 + pm)]) nB
      have Ar : A ≠ r := R7.new nA
      have o78 : Off r H7 H8 := ((Off.of (kA.trans kW)).trans o8)
      have hA8 := o8 _ _ (kW _ _ (upd_same (a := A) (o := .lst ((xs.take sp).map V.int)))) Ar
      have hlt : (xs.take sp).length = sp := by rw [List.length_take]; omega
      refine ⟨A, Bq, _, _, rfl, rfl, kB _ _ hA8, upd_same, by rw [List.length_map, hlt]; show sp + 1 ≤ sizeLine; rw [sizeLine_eq]; omega, fun C nC => ?_⟩
      have kC := same_upd (o := .lst ((xs.take sp).map V.int ++ [.int (xs.getD sp 0 + pm)])) nC
      have hx8 := o78 _ _ hx7 xr
      refine ⟨_, rfl, _, rfl, _, _, rfl, rfl, (sp : Int) + 1, rfl, x, _, rfl, SqL.of ((kB.trans kC) _ _ hx8), fun D nD => ?_⟩
      have ec : cutV (xs.map V.int) (some ((sp : Int) + 1)) none = (xs.drop (sp + 1)).map V.int := by
        rw [show (sp : Int) + 1 = ((sp + 1 : Nat) : Int) by omega, cutDrop (by rw [List.length_map]; omega), List.map_drop]
      rw [ec]
      have kD := same_upd (o := .lst ((xs.drop (sp + 1)).map V.int)) nD
      refine ⟨C, D, _, _, rfl, rfl, kD _ _ upd_same, upd_same, ?_, fun E nE => ?_⟩
      · rw [List.length_append, List.length_map, List.length_map, hlt, List.length_drop]
        show sp + 1 + _ ≤ sizeLine
        rw [sizeLine_eq]; omega
      have eE : (xs.take sp).map V.int ++ [V.int (xs.getD sp 0 + pm)] ++ (xs.drop (sp + 1)).map V.int = (xs.take sp ++ [xs.getD sp 0 + pm] ++ xs.drop (sp + 1)).map V.int := by
        rw [List.map_append, List.map_append]; rfl
      rw [eE]
      have kE := same_upd (o := .lst ((xs.take sp ++ [xs.getD sp 0 + pm] ++ xs.drop (sp + 1)).map V.int)) nE
      have k89 := ((kB.trans kC).trans kD).trans kE
      have hS8 := o78 _ _ hS7 Smr
      have hS9 := k89 _ _ hS8
      have R9 := R8.same k89
      have Er : E ≠ r := (R8.same ((kB.trans kC).trans kD)).new nE
      have ES : E ≠ Sm := fun e => by
        have := ((kB.trans kC).trans kD) _ _ hS8
        rw [e] at nE
        rw [nE] at this; cases this
      have o59 := (o7.trans o78).sameTrans k89
      refine ⟨Sm, _, .ref E, rfl, rfl, hS9, by rw [List.length_map, hal]; exact small1000 (by omega), ?_⟩
      refine ⟨_, _, _, _, _, as ++ [E], rfl, (R9.upd Smr).mono (by omega), ?_, (o5.trans o59).new nSm0, by rw [upd_ne xS]; exact o59 _ _ hx5 xr, by rw [upd_same, List.map_append]; rfl, by rw [List.length_append, hal]; rfl, fun a ha => ?_⟩
      · have B9 : Bs _ c n bs := { B5 with ls := R5.lst B5.ls cr o59 }
        exact B9.off hS9 cS off_upd
      · rcases List.mem_append.mp ha with h | h
        · obtain ⟨a1, a2, ys, a3, a4⟩ := all5 a h
          exact ⟨a1, a2, ys, by rw [upd_ne a2]; exact o59 _ _ a3 a1, a4⟩
        · rw [List.mem_singleton.mp h]
          refine ⟨Er, ES, xs.take sp ++ [xs.getD sp 0 + pm] ++ xs.drop (sp + 1), by rw [upd_ne ES, upd_same], ?_⟩
          rw [List.length_append, List.length_append, hlt, List.length_drop]
          show sp + 1 + _ = n
          omega
    · obtain ⟨y6, y7, y8, y9, y10, as, rfl, R5, B5, o5, hx5, hS5, hal, all5⟩ := p
      refine ⟨_, rfl, Sm, rfl, ⟨_, SqL.of hS5⟩, for_it (walk_list (xs := as.map V.ref)) (fun t σ H' => ∃ (y6 y7 y8 y9 y10 : Option V), σ = [some (.ref r), some (.int (n : Int)), some (.ref c), some (.ref x), some (.int (1 + u)), some (.ref Sm), y6, y7, y8, y9, y10] ∧ Same H5 H')
        ⟨_, _, _, _, _, rfl, Same.refl _⟩ (fun _ _ H' _ p => by obtain ⟨_, _, _, _, _, _, s⟩ := p; exact SqL.of (s _ _ hS5)) (fun t v σ H6 H7 ht p y => ?_) (fun σ H6 p => ?_)⟩
      · obtain ⟨y6, y7, y8, y9, y10, rfl, s6⟩ := p
        obtain ⟨rfl, e2⟩ := y
        have ht' : t < as.length := by rw [List.length_map] at ht; exact ht
        have e2' : v = .ref as[t] := Option.some.inj (e2.symm.trans (get_map_ref (List.getElem?_eq_getElem ht')))
        subst e2'
        obtain ⟨a1, a2, ys, a3, a4⟩ := all5 as[t] (List.getElem_mem ht')
        generalize as[t] = ad at *
        have h7 := s6 _ _ a3
        refine ⟨_, rfl, _, rfl, _, rfl, .ref ad, c, n, bs, _, rfl, B5.same s6, hl4, .num h7, fun a zs e h => ?_, fun H8 s8 => ?_⟩
        · cases e
          rw [h7] at h
          cases h
          rw [List.length_map]; omega
        have eb : (decide (ys.length = n) && ful bs ys) = ful bs ys := by rw [decide_eq_true a4]; rfl
        rw [eb]
        have fb := fit_bool (ful bs ys)
        refine ⟨_, _, rfl, .bl _, fb.sh, by have := fb.dp; omega, (by have := fb.ln; rw [sizeLine_eq]; omega), ?_⟩
        refine ⟨_, rfl, _, rfl, ad, c, n, bs, ys, rfl, s8 _ _ h7, a4, (B5.same s6).same s8, fun H9 s9 => ?_⟩
        refine ⟨_, _, rfl, .bl _, fb.sh, by have := fb.dp; omega, (by have := fb.ln; rw [sizeLine_eq]; omega), rfl, false, ?_, iteF ⟨_, _, _, _, _, rfl, (s6.trans s8).trans s9⟩⟩
        exact (show V.bl (!decide (V.str (PyData.bool (ful bs ys)).shown = V.str (PyData.bool (ful bs ys)).shown)) = V.bl false by simp)
      · obtain ⟨y6, y7, y8, y9, y10, rfl, s6⟩ := p
        have hx6 := s6 _ _ hx5
        have B6 := B5.same s6
        have R6 := R5.same s6
        have o6 := o5.sameTrans s6
        clear all5 hS5 hx5 B5 R5 o5 s6 hx4 hS4 all4 B4 R4 o4 hal
        -- odd ones
        intro d nd
        refine ⟨_, rfl, _, rfl, -1, rfl, x, _, rfl, SqL.of ((same_upd nd) _ _ hx6), fun A1 n1 => ?_⟩
        rw [cutLast (by rw [List.length_map]; omega), List.length_map, ← List.map_take]
        have k0 := same_upd (o := .dK []) nd
        have k1 := same_upd (o := .lst ((xs.take (xs.length - 1)).map V.int)) n1
        have g0 := at0 (xs := xs) (by omega)
        have t1 := k0.trans k1
        refine ⟨_, rfl, _, rfl, x, _, _, _, rfl, rfl, SqL.of (t1 _ _ hx6), atI_nat (j := 0) g0, (by show 1 ≤ sizeLine; decide), fun Bq nB => ?_⟩
        have k2 := same_upd (o := .lst [.int (xs.getD 0 0)]) nB
        have t2 := t1.trans k2
        refine ⟨x, Bq, _, _, rfl, rfl, t2 _ _ hx6, upd_same, by rw [List.length_map]; show _ + 1 ≤ sizeLine; rw [sizeLine_eq]; omega, fun C nC => ?_⟩
        have eC : xs.map V.int ++ [V.int (xs.getD 0 0)] = (xs ++ [xs.getD 0 0]).map V.int := by rw [List.map_append]; rfl
        rw [eC]
        have k3 := same_upd (o := .lst ((xs ++ [xs.getD 0 0]).map V.int)) nC
        have t3 := t2.trans k3
        refine ⟨_, rfl, x, _, rfl, .inl ⟨SqL.of (t3 _ _ hx6), fun tp ntp => ?_⟩⟩
        have k4 := same_upd (o := .tup (xs.map V.int)) ntp
        have t4 := t3.trans k4
        have szr : 1 * (n : Int).toNat ≤ sizeLine := by rw [sizeLine_eq]; omega
        refine ⟨(by show 1 ≤ sizeLine; decide), fun Z1 nZ1 => ⟨_, rfl, Z1, (n : Int), _, rfl, rfl, upd_same, by omega, by omega, szr, fun R1 nR1 => ?_⟩⟩
        rw [Int.toNat_natCast, flat_rep] at *
        have k5 := (same_upd (o := .lst [.bl true]) nZ1).trans (same_upd (o := .lst (List.replicate n (V.bl true))) nR1)
        have t5 := t4.trans k5
        refine ⟨(by show 1 ≤ sizeLine; decide), fun Z2 nZ2 => ⟨_, rfl, Z2, (n : Int), _, rfl, rfl, upd_same, by omega, by omega, by rw [Int.toNat_natCast]; exact szr, fun R2 nR2 => ?_⟩⟩
        rw [Int.toNat_natCast, flat_rep] at *
        have k6 := (same_upd (o := .lst [.non]) nZ2).trans (same_upd (o := .lst (List.replicate n V.non)) nR2)
        have t6 := t5.trans k6
        refine ⟨(by show 9 ≤ sizeLine; decide), fun Od nOd => ?_⟩
        have k7 := same_upd (o := .lst [.non, .int 0, .str "", .ref d, .ref A1, .ref C, .ref tp, .ref R1, .ref R2]) nOd
        have t7 := t6.trans k7
        refine (fun (G : ∀ H9 : Hp, Same H6 H9 → H9 Od = some (.lst [.non, .int 0, .str "", .ref d, .ref A1, .ref C, .ref tp, .ref R1, .ref R2]) → (∀ v ∈ ([.non, .int 0, .str "", .ref d, .ref A1, .ref C, .ref tp, .ref R1, .ref R2] : List V), Nv H9 n bs v) → _) => G _ t7 upd_same (fun v hv => ?_)) (fun H9 t9 hOd f1 => ?_)
        · simp only [List.mem_cons, List.mem_nil_iff, or_false] at hv
          rcases hv with rfl | rfl | rfl | rfl | rfl | rfl | rfl | rfl | rfl
          · exact nv_flat .non (fun a => by intro z; cases z)
          · exact nv_flat (.int 0) (fun a => by intro z; cases z)
          · exact nv_flat (.str "") (fun a => by intro z; cases z)
          · exact nv_dic ((k1.trans (k2.trans (k3.trans (k4.trans (k5.trans (k6.trans k7)))))) _ _ upd_same)
          · exact nv_short ((k2.trans (k3.trans (k4.trans (k5.trans (k6.trans k7))))) _ _ upd_same) (by rw [List.length_take]; omega) (by rw [List.length_take]; omega)
          · exact nv_short ((k4.trans (k5.trans (k6.trans k7))) _ _ upd_same) (by rw [List.length_append]; show _ + 1 ≠ n; omega) (by rw [List.length_append]; show _ + 1 ≤ _; omega)
          · exact nv_tup ((k5.trans (k6.trans k7)) _ _ upd_same)
          · exact nv_rep ((k6.trans k7) _ _ upd_same) (.bl true) (by omega)
          · exact nv_rep (k7 _ _ upd_same) .non (by omega)
        clear k0 k1 k2 k3 k4 k5 k6 k7 t1 t2 t3 t4 t5 t6 t7
        refine ⟨_, rfl, (by show 1 ≤ sizeLine; decide), fun Z3 nZ3 => ⟨_, rfl, Z3, (n : Int), _, rfl, rfl, upd_same, by omega, by omega, by rw [Int.toNat_natCast]; exact szr, fun R3 nR3 => ?_⟩⟩
        rw [Int.toNat_natCast, flat_rep] at *
        have k8 := (same_upd (o := .lst [.str "0"]) nZ3).trans (same_upd (o := .lst (List.replicate n (V.str "0"))) nR3)
        refine ⟨_, rfl, (by show 1 ≤ sizeLine; decide), fun Z4 nZ4 => ⟨_, rfl, Z4, (n : Int), _, rfl, rfl, upd_same, by omega, by omega, by rw [Int.toNat_natCast]; exact szr, fun R4 nR4 => ?_⟩⟩
        rw [Int.toNat_natCast, flat_rep] at *
        have k9 := (same_upd (o := .lst [.ref x]) nZ4).trans (same_upd (o := .lst (List.replicate n (V.ref x))) nR4)
        refine ⟨(by show 2 ≤ sizeLine; decide), fun Y nY => ?_⟩
        have k10 := same_upd (o := .lst [.ref R3, .ref R4]) nY
        refine ⟨Od, Y, _, _, rfl, rfl, ((k8.trans k9).trans k10) _ _ hOd, upd_same, (by show 9 + 2 ≤ sizeLine; decide), fun O2 nO2 => ?_⟩
        have k11 := same_upd (o := .lst ([.non, .int 0, .str "", .ref d, .ref A1, .ref C, .ref tp, .ref R1, .ref R2] ++ [.ref R3, .ref R4])) nO2
        have t10 := ((k8.trans k9).trans k10).trans k11
        refine (fun (G : ∀ H10 : Hp, Same H6 H10 → H10 O2 = some (.lst ([.non, .int 0, .str "", .ref d, .ref A1, .ref C, .ref tp, .ref R1, .ref R2] ++ [.ref R3, .ref R4])) → (∀ v ∈ ([.non, .int 0, .str "", .ref d, .ref A1, .ref C, .ref tp, .ref R1, .ref R2] ++ [.ref R3, .ref R4] : List V), Nv H10 n bs v) → _) => G _ (t9.trans t10) upd_same (fun v hv => ?_)) (fun H10 s10 hO2 f2 => ?_)
        · rcases List.mem_append.mp hv with hv | hv
          · exact (f1 v hv).same t10
          · simp only [List.mem_cons, List.mem_nil_iff, or_false] at hv
            rcases hv with rfl | rfl
            · exact nv_rep ((k9.trans (k10.trans k11)) _ _ upd_same) (.str "0") (by omega)
            · exact nv_rep ((k10.trans k11) _ _ upd_same) (.lst ((t9.trans t10) _ _ hx6)) (by omega)
        generalize ([.non, .int 0, .str "", .ref d, .ref A1, .ref C, .ref tp, .ref R1, .ref R2] ++ [.ref R3, .ref R4] : List V) = odds at *
        refine ⟨_, rfl, O2, rfl, ⟨_, SqL.of hO2⟩, fun M nM => lc_it (walk_list (xs := odds)) (fun i H' => Same H10 H' ∧ H' M = some (.lst [])) ⟨same_upd nM, upd_same⟩ (fun i H' _ p => SqL.of (p.1 _ _ hO2)) (fun i v Hx H11 hi p y => ?_) (fun H11 p => ?_)⟩
        · obtain ⟨rfl, e2⟩ := y
          have nvv := (f2 v (List.mem_of_getElem? e2)).same p.1
          exact ⟨rfl, _, rfl, _, rfl, _, rfl, v, c, n, bs, false, rfl, B6.same (s10.trans p.1), hl4, nvv.1, nvv.2, fun H12 s12 => ⟨false, false, rfl, rfl, _, rfl, iteF ⟨p.1.trans s12, s12 _ _ p.2⟩⟩⟩
        · refine ⟨Nat.zero_le _, fun Z nZ => ⟨_, _, .lst (SqL.of ((same_upd nZ) _ _ p.2)) .nil, .lst (SqL.of upd_same) .nil, shaped_nil, shaped_nil, ?_⟩⟩
          have sf := (s10.trans p.1).trans (same_upd (o := .lst []) nZ)
          exact q _ (o6.sameTrans sf) ((R6.same sf).mono (by omega))
end
end K35

set_option Elab.async false
set_option linter.all false
set_option maxRecDepth 100000
set_option maxHeartbeats 16000000
namespace K35
open PySem PySem.Spec PyProof.Rows L2 Gd Rm Bm
theorem neV (x : V) : V.bl (!decide (x = x)) = V.bl false := by simp
theorem Drawn.fit {n m : Nat} {bs : List Bnd} (h : Drawn n m bs) (hn : n ≤ 50) (hm : m ≤ 400) : Fit 1100000 2 (bndsD bs) :=
  fit_bnds (fun b hb => ⟨by have := (h.ix b hb).1; omega, by have := (h.ix b hb).2; omega, Nat.lt_trans (h.size b hb) (by decide)⟩) (by rw [h.len]; omega)
theorem fit_ints {xs : List Int} (h : ∀ v ∈ xs, v.natAbs < 2 ^ 200) (hl : xs.length ≤ 1000) : Fit 1100000 1 (.list (xs.map PyData.int)) := by
  refine Fit.mono (fit_list (L := 210) (n := 0) fun d hd => ?_) (by rw [List.length_map]; omega) (Nat.le_refl _)
  obtain ⟨v, hv, rfl⟩ := List.mem_map.mp hd
  exact fit_int (h v hv)
theorem line_of {L n : Nat} {d : PyData} (h : Fit L n d) (hl : L ≤ 1100000) : d.shown.length ≤ sizeLine := by
  have := h.ln
  rw [sizeLine_eq]; omega
theorem Drawn.told {n m : Nat} {bs : List Bnd} {z : List Int} (h : Drawn n m bs) (hn : n ≤ 50) (hm : m ≤ 400) (hz : iterI bs (n + 1) (List.replicate n 0) = some z) : Fit 1100000 1 (.list (z.map PyData.int)) := by
  refine fit_ints (fun v hv => ?_) (by rw [iter_len hz]; omega)
  have a := iter_small (B := 10 ^ 32) (fun b hb => Nat.le_of_lt (h.size b hb)) hz v hv
  rw [h.len] at a
  have b : (n + 1) * (m * 10 ^ 32) ≤ 51 * (400 * 10 ^ 32) := Nat.mul_le_mul (by omega) (Nat.mul_le_mul_right _ hm)
  exact Nat.lt_of_le_of_lt (Nat.le_trans a b) (by decide)
section
variable {P : Program} {w : World} {K : PySem.W.Frag} {mg : Str → Option Value} {base : Heap}
def spRight : Sp := fun vs H Q _ => ∃ (r c : Addr) (k n m : Nat) (bs : List Bnd), vs = [.ref r, .int (n : Int), .ref c] ∧ Reel H r k ∧ k + 100 < most ∧ Lst bndV H c bs ∧ Drawn n m bs ∧ 1 ≤ n ∧ n ≤ 50 ∧ m ≤ 400 ∧
  ∀ H', Off r H H' → Reel H' r (k + 7) → Q (.bl true) H'
theorem ok__law_right (bt : Bt mg) (a : At K mg "_law_right" s__law_right ["_law_pool_here", "_law_many", "_law_bounds_here"]) (c__law_lifted : Cl P w K mg base 1 "_law_lifted" spLifted) (c_least_numbers : Cl P w K mg base 6 "least_numbers" spLeastN)
    (c_is_bounds : Cl P w K mg base 4 "is_bounds" spBounds) (c_holds : Cl P w K mg base 6 "holds" spHolds) (c__law_fulfilled : Cl P w K mg base 1 "_law_fulfilled" spFul) (c__law_grounded : Cl P w K mg base 1 "_law_grounded" spGround) (c__law_judged_right : Cl P w K mg base 7 "_law_judged_right" spJudged) : Cl P w K mg base 8 "_law_right" spRight := by
  refine clG a sc__law_right (fun vs H Q E h => ?_) (fun f cdv A outer s H vs Q hg hr h => ?_)
  · obtain ⟨r, c, k, n, m, bs, rfl, _⟩ := h
    rfl
  · obtain ⟨r, c, k, n, m, bs, rfl, R, hk, hL, D, n1, n2, hm, q⟩ := h
    have hk' : k + 100 < 1000000000 := hk
    have hlen := D.len
    have cr : c ≠ r := R.ne hL
    have B : Bs H c n bs := ⟨hL, D.ix, n1, n2, by omega⟩
    have l4 : bs.length ≤ 400 := by omega
    have fb := D.fit n2 hm
    have szr : 1 * (n : Int).toNat ≤ sizeLine := by rw [sizeLine_eq]; omega
    refine ⟨_, (pss_cons (ps_par (i := 3) (j := 4) rfl sc__law_right.nd rfl rfl (by decide) rfl rfl (pa_cons (pe_callB (call_repA hg hr) (by rfl) bt.m_repr (by decide +kernel) (pa_cons (pv 2) pa_nil)) (pa_cons (pe_cl c__law_lifted hg hr (by decide) (by rfl) (pa_cons (pv 2) (pa_cons (pe_op op_rep (pe_lst (pa_cons pe_int pa_nil)) (pv 1)) pa_nil))) pa_nil)) (by rfl))
      (pss_cons (ps_set (i := 5) sc__law_right.nd rfl (Or.inl rfl) (pe_cl c_least_numbers hg hr (by decide) (by rfl) (pa_cons (pv 1) (pa_cons (pv 2) pa_nil))))
      (pss_cons (ps_if (PW.pt (pw_or (pt_cmpR op_notBl (pe_cl c_is_bounds hg hr (by decide) (by rfl) (pa_cons (pv 2) (pa_cons (pv 1) pa_nil))) pe_bl (nomark _)) (pw_or (pt_cmpR op_ne (pe_cmpR op_isN (pv 5) pe_non (nomark _)) (pe_cmpR op_isN (pv 4) pe_non (nomark _)) (nomark _)) (pw_or1 (pt_cmpR op_ne (pe_callB (call_repA hg hr) (by rfl) bt.m_repr (by decide +kernel) (pa_cons (pv 2) pa_nil)) (pv 3) (nomark _)))))) (pss_one (ps_ret pe_bl)) pss_nil)
      (pss_cons (ps_if (pt_cmpR op_isN (pv 5) pe_non (nomark _)) (pss_cons (ps_set (i := 6) sc__law_right.nd rfl (Or.inl rfl) (pe_op op_rep (pe_lst (pa_cons pe_int pa_nil)) (pv 1)))
      (pss_one (ps_ret (pe_cmpR op_eq (pe_callB (call_repA hg hr) (by rfl) bt.m_repr (by decide +kernel) (pa_cons (pe_cl c_holds hg hr (by decide) (by rfl) (pa_cons (pv 1) (pa_cons (pv 2) (pa_cons (pv 6) pa_nil)))) pa_nil)) (pe_callB (call_repA hg hr) (by rfl) bt.m_repr (by decide +kernel) (pa_cons (pe_cl c__law_fulfilled hg hr (by decide) (by rfl) (pa_cons (pv 2) (pa_cons (pv 6) pa_nil))) pa_nil)) (nomark _))))) pss_nil)
      (pss_cons (ps_if (PW.pt (pw_or (pt_not (pt_val (pe_callB call_isi (by rfl) bt.m_isinstance (by decide +kernel) (pa_cons (pv 5) (pa_cons (pe_bltn (v := .ty "list") (by rfl) bt.m_list (by decide +kernel) rfl) pa_nil))))) (pw_or (pt_cmpR op_ne (pe_callB call_len_seq (by rfl) bt.m_len (by decide +kernel) (pa_cons (pv 5) pa_nil)) (pv 1) (nomark _)) (pw_or (pt_cmpR op_lt (pe_callB (cr_min rfl) (by rfl) bt.m_min (by decide +kernel) (pa_cons (pv 5) pa_nil)) pe_int (nomark _)) (pw_or1 (pt_not (pt_val (pe_cl c__law_fulfilled hg hr (by decide) (by rfl) (pa_cons (pv 2) (pa_cons (pv 5) pa_nil)))))))))) (pss_one (ps_ret pe_bl)) pss_nil)
      (pss_cons (ps_if (PW.pt (pw_or (pt_not (pt_val (pe_cl c__law_grounded hg hr (by decide) (by rfl) (pa_cons (pv 5) (pa_cons (pv 2) pa_nil))))) (pw_or1 (pt_not (pt_val (pe_cl c__law_judged_right hg hr (by decide) (by rfl) (pa_cons (pv 0) (pa_cons (pv 1) (pa_cons (pv 2) (pa_cons (pv 5) pa_nil)))))))))) (pss_one (ps_ret pe_bl)) pss_nil)
      (pss_cons (ps_expr (pe_bm PySem.F.plainAttrs_list PySem.F.slot_list_append PySem.F.type_list_append mt_append (pv 5) (pa_cons pe_int pa_nil)))
      (pss_one (ps_ret (pe_cmpR op_eq (pe_callB (call_repA hg hr) (by rfl) bt.m_repr (by decide +kernel) (pa_cons (pe_cl c_least_numbers hg hr (by decide) (by rfl) (pa_cons (pv 1) (pa_cons (pv 2) pa_nil))) pa_nil)) (pe_callB (call_repA hg hr) (by rfl) bt.m_repr (by decide +kernel) (pa_cons (pv 4) pa_nil)) (nomark _))))))))))), ?_⟩
    refine ⟨_, rfl, _, _, rfl, lstB_dp hL, fb.sh, by have := fb.dp; omega, line_of fb (Nat.le_refl _), ?_⟩
    refine ⟨_, rfl, (by show 1 ≤ sizeLine; decide), fun Z1 nZ1 => ⟨_, rfl, Z1, (n : Int), _, rfl, rfl, upd_same, by omega, by omega, szr, fun A1 nA1 => ?_⟩⟩
    rw [Int.toNat_natCast, flat_rep] at *
    have k1 := (same_upd (o := .lst [.int 0]) nZ1).trans (same_upd (o := .lst (List.replicate n (V.int 0))) nA1)
    cases hz : iterI bs (n + 1) (List.replicate n 0) with
    | none =>
      refine ⟨A1, c, n, bs, List.replicate n 0, rfl, by rw [upd_same, List.map_replicate], List.length_replicate, B.same k1, (fun z H' p h => by rw [hz] at h; cases h), fun H1 _ s1 => ⟨_, _, rfl, ?_⟩⟩
      have t1 := k1.trans s1
      refine ⟨_, rfl, _, rfl, c, n, bs, rfl, B.same t1, l4, (fun z H' p h => by rw [hz] at h; cases h), fun H2 _ s2 => ?_⟩
      have t2 := t1.trans s2
      refine ⟨_, rfl, _, rfl, c, n, bs, rfl, B.same t2, l4, fun H3 s3 => ⟨true, true, rfl, rfl, _, rfl, iteF ?_⟩⟩
      have t3 := t2.trans s3
      refine ⟨_, rfl, rfl, _, rfl, rfl, rfl, false, neV _, iteF ?_⟩
      refine ⟨_, rfl, _, _, rfl, lstB_dp (hL.same t3), fb.sh, by have := fb.dp; omega, line_of fb (Nat.le_refl _), _, rfl, rfl, false, neV _, iteF ?_⟩
      refine ⟨_, rfl, rfl, _, rfl, iteT ?_⟩
      refine ⟨(by show 1 ≤ sizeLine; decide), fun Z2 nZ2 => ⟨_, rfl, Z2, (n : Int), _, rfl, rfl, upd_same, by omega, by omega, by rw [Int.toNat_natCast]; exact szr, fun A2 nA2 => ?_⟩⟩
      rw [Int.toNat_natCast, flat_rep] at *
      have k2 := (same_upd (o := .lst [.int 0]) nZ2).trans (same_upd (o := .lst (List.replicate n (V.int 0))) nA2)
      have t4 := t3.trans k2
      have hA2 : ∀ {H' : Hp}, Same (upd (upd H3 Z2 (.lst [.int 0])) A2 (.lst (List.replicate n (V.int 0)))) H' → H' A2 = some (.lst ((List.replicate n (0 : Int)).map V.int)) := fun {H'} s => by
        rw [List.map_replicate]; exact s _ _ upd_same
      refine ⟨_, rfl, _, rfl, _, rfl, .ref A2, c, n, bs, _, rfl, B.same t4, l4, .num (hA2 (Same.refl _)), fun a zs e h => ?_, fun H5 s5 => ?_⟩
      · cases e
        rw [hA2 (Same.refl _)] at h
        cases h
        rw [List.length_map, List.length_replicate]; omega
      have eb : (decide ((List.replicate n (0 : Int)).length = n) && ful bs (List.replicate n 0)) = ful bs (List.replicate n 0) := by rw [decide_eq_true List.length_replicate]; rfl
      rw [eb]
      have f1 := fit_bool (ful bs (List.replicate n 0))
      refine ⟨_, _, rfl, .bl _, f1.sh, by have := f1.dp; omega, line_of f1 (by decide), ?_⟩
      refine ⟨_, rfl, _, rfl, A2, c, n, bs, _, rfl, hA2 s5, List.length_replicate, B.same (t4.trans s5), fun H6 s6 => ?_⟩
      refine ⟨_, _, rfl, .bl _, f1.sh, by have := f1.dp; omega, line_of f1 (by decide), rfl, ?_⟩
      have ed : ∀ x : V, decide (x = x) = true := fun x => decide_eq_true rfl
      rw [ed]
      have t6 := (t4.trans s5).trans s6
      exact q _ (Off.of t6) ((R.same t6).mono (by omega))
    | some z =>
      have zl := iter_len hz
      have zp := iter_pos D.ix hz
      have fz := D.told n2 hm hz
      refine ⟨A1, c, n, bs, List.replicate n 0, rfl, by rw [upd_same, List.map_replicate], List.length_replicate, B.same k1, fun z' H1 p1 h s1 np1 hp1 => ?_, (fun H' h => by rw [hz] at h; cases h)⟩
      rw [hz] at h
      cases h
      refine ⟨_, _, rfl, ?_⟩
      have t1 := k1.trans s1
      refine ⟨_, rfl, _, rfl, c, n, bs, rfl, B.same t1, l4, fun z' H2 p2 h s2 np2 hp2 => ?_, (fun H' h => by rw [hz] at h; cases h)⟩
      rw [hz] at h
      cases h
      have t2 := t1.trans s2
      have hp12 := s2 _ _ hp1
      have p12 : p1 ≠ p2 := ne_of_none hp1 np2
      have np2H : H p2 = none := t1.free np2
      have p1r : p1 ≠ r := (R.same k1).new np1
      have p2r : p2 ≠ r := R.new np2H
      refine ⟨_, rfl, _, rfl, c, n, bs, rfl, B.same t2, l4, fun H3 s3 => ⟨true, true, rfl, rfl, _, rfl, iteF ?_⟩⟩
      have t3 := t2.trans s3
      refine ⟨_, rfl, rfl, _, rfl, rfl, rfl, false, neV _, iteF ?_⟩
      refine ⟨_, rfl, _, _, rfl, lstB_dp (hL.same t3), fb.sh, by have := fb.dp; omega, line_of fb (Nat.le_refl _), _, rfl, rfl, false, neV _, iteF ?_⟩
      refine ⟨_, rfl, rfl, _, rfl, iteF ?_⟩
      have h1 := s3 _ _ hp12
      have h2 := s3 _ _ hp2
      refine ⟨_, rfl, _, _, _, _, true, rfl, .ty "list", .base (.lst h2), kit_ty (by decide +kernel), _, rfl, iteF ?_⟩
      refine ⟨_, rfl, p2, _, rfl, .inl (SqL.of h2), _, rfl, rfl, false, ?_, iteF ?_⟩
      · rw [List.length_map, zl]; exact neV _
      refine ⟨_, rfl, p2, z, rfl, SqL.of h2, by omega, fun mn m1 m2 => ⟨_, _, rfl, rfl, false, congrArg V.bl (decide_eq_false (by have := zp mn m1; omega)), iteF ?_⟩⟩
      refine ⟨_, rfl, _, rfl, p2, c, n, bs, z, rfl, h2, zl, B.same t3, fun H4 s4 => ⟨true, congrArg V.bl (ful_of D.ix hz), iteF ?_⟩⟩
      have t4 := t3.trans s4
      refine ⟨_, rfl, _, rfl, p2, c, n, bs, z, rfl, s4 _ _ h2, zl, B.same t4, hz, fun H5 s5 => ⟨_, rfl, iteF ?_⟩⟩
      have t5 := t4.trans s5
      have h25 := (s4.trans s5) _ _ h2
      have h15 := (s4.trans s5) _ _ h1
      refine ⟨_, rfl, _, rfl, _, rfl, _, rfl, r, c, p2, k, n, bs, z, rfl, R.same t5, hk, B.same t5, l4, cr, h25, p2r, zl, fun H6 o6 R6 => ⟨_, rfl, iteF ?_⟩⟩
      have h26 := o6 _ _ h25 p2r
      have h16 := o6 _ _ h15 p1r
      have hL6 := (R.same t5).lst (hL.same t5) cr o6
      obtain ⟨asc, hc6, _⟩ := id hL6
      refine ⟨_, rfl, .inl ⟨rfl, _, SqL.of h26⟩, p2, _, .int 0, rfl, rfl, h26, by rw [List.length_map]; exact small1000 (by omega), ?_⟩
      have cp2 : c ≠ p2 := by
        obtain ⟨as, hc, _⟩ := id hL
        exact ne_of_none hc np2H
      have hL7 : Lst bndV (upd H6 p2 (.lst (z.map V.int ++ [.int 0]))) c bs := hL6.off h26 cp2 off_upd
      have B7 : Bs (upd H6 p2 (.lst (z.map V.int ++ [.int 0]))) c n bs := ⟨hL7, D.ix, n1, n2, by omega⟩
      have R7 := R6.upd (o := .lst (z.map V.int ++ [.int 0])) p2r
      have h17 : upd H6 p2 (.lst (z.map V.int ++ [.int 0])) p1 = some (.lst (z.map V.int)) := by rw [upd_ne p12]; exact h16
      have o7 : Rm.Off r H (upd H6 p2 (.lst (z.map V.int ++ [.int 0]))) := (((Off.of t5).trans o6)).new np2H
      refine ⟨_, rfl, _, rfl, c, n, bs, rfl, B7, l4, fun z' H8 p3 h s8 np3 hp3 => ?_, (fun H' h => by rw [hz] at h; cases h)⟩
      rw [hz] at h
      cases h
      refine ⟨_, _, rfl, .lst (SqL.of hp3) (dpInts z), fz.sh, by have := fz.dp; omega, line_of fz (Nat.le_refl _), ?_⟩
      refine ⟨_, rfl, _, _, rfl, .lst (SqL.of (s8 _ _ h17)) (dpInts z), fz.sh, by have := fz.dp; omega, line_of fz (Nat.le_refl _), rfl, ?_⟩
      have ed : ∀ x : V, decide (x = x) = true := fun x => decide_eq_true rfl
      rw [ed]
      exact q _ (o7.sameTrans s8) (R7.same s8)
end
end K35

set_option Elab.async false
set_option linter.all false
set_option maxRecDepth 100000
set_option maxHeartbeats 16000000
namespace K35
open PySem PySem.Spec PyProof.Rows L2 Gd Rm Bm
theorem range_pick {α : Type} : ∀ xs : List α, (List.range xs.length).filterMap (fun i => xs[i]?) = xs
  | [] => rfl
  | x :: xs => by
    rw [List.length_cons, List.range_succ_eq_map, List.filterMap_cons, List.filterMap_map]
    show x :: List.filterMap (fun i => xs[i]?) (List.range xs.length) = x :: xs
    rw [range_pick xs]
theorem back49 {α : Type} {xs : List α} (h : xs.length = 49) : stepV xs none none (-1) = xs.reverse := by
  have e : stepIx 49 none none (-1) = (List.range 49).reverse := by decide +kernel
  unfold stepV
  rw [h, e, List.filterMap_reverse, ← h, range_pick]
theorem tups_rev {α : Type} {H : Hp} {f : α → List V} {as : List Addr} {es : List α} (h : Tups H f as es) : Tups H f as.reverse es.reverse := by
  have hl := h.1
  refine ⟨by rw [List.length_reverse, List.length_reverse, h.1], fun i b x hb hx => ?_⟩
  have hi : i < as.length := by
    have := (List.getElem?_eq_some_iff.mp hb).1
    rwa [List.length_reverse] at this
  rw [List.getElem?_reverse hi] at hb
  rw [List.getElem?_reverse (by omega), ← hl] at hx
  exact h.2 _ b x hb hx
theorem eraseMap {α β : Type} (f : α → β) : ∀ (ns : List α) (j : Nat), (ns.map f).eraseIdx j = (ns.eraseIdx j).map f
  | [], _ => rfl
  | _ :: _, 0 => rfl
  | n :: ns, j + 1 => by
    show f n :: (ns.map f).eraseIdx j = f n :: (ns.eraseIdx j).map f
    rw [eraseMap f ns j]
theorem tups_drop {α : Type} {H : Hp} {f : α → List V} {as : List Addr} {es : List α} (h : Tups H f as es) (n : Nat) : Tups H f (as.drop n) (es.drop n) := by
  refine ⟨by rw [List.length_drop, List.length_drop, h.1], fun i b x hb hx => ?_⟩
  rw [List.getElem?_drop] at hb hx
  exact h.2 _ b x hb hx
theorem tups_erase {α : Type} {H : Hp} {f : α → List V} {as : List Addr} {es : List α} (h : Tups H f as es) (n : Nat) : Tups H f (as.eraseIdx n) (es.eraseIdx n) := by
  rw [List.eraseIdx_eq_take_drop_succ, List.eraseIdx_eq_take_drop_succ]
  exact (h.take n).append (tups_drop h (n + 1))
def chainB : List Bnd := (List.range 49).map fun s => ⟨s, s + 1, 10 ^ 30⟩
theorem chain_ix : Ix 50 chainB.reverse := by decide +kernel
theorem chain_1 : iterI chainB.reverse 51 (List.replicate 50 0) = some ((List.range 50).map fun s : Nat => (s : Int) * 10 ^ 30) := by decide +kernel
theorem chain_2 : iterI (chainB.reverse ++ [⟨49, 0, 0⟩]) 51 (List.replicate 50 0) = none := by decide +kernel
section
variable {P : Program} {w : World} {K : PySem.W.Frag} {mg : Str → Option Value} {base : Heap}
def spLaw (K : PySem.W.Frag) : Sp := fun vs H Q _ => ∃ (a : Addr) (ns : List Int), vs = [.ref a] ∧ SqL K H a (ns.map V.int) ∧ ns.length ≤ 63 ∧ ∀ H', Q (.bl true) H'
theorem ok_law {f : Addr} {fd : FuncData} (bt : Bt mg) (a : Fun K "law" "law" s_law f fd) (c__law_pool : Cl P w K mg base 1 "_law_pool" (spPool K)) (c__law_draw : Cl P w K mg base 1 "_law_draw" spDraw) (c__law_bounds : Cl P w K mg base 2 "_law_bounds" spDrawn)
    (c__law_right : Cl P w K mg base 8 "_law_right" spRight) (c_least_numbers : Cl P w K mg base 6 "least_numbers" spLeastN) : FnG P w K mg base 9 f fd ["_law_script"] (spLaw K) := by
  refine fnG a sc_law (fun vs H Q E h => ?_) (fun cdv A outer s H vs Q hg hr h => ?_)
  · obtain ⟨a, e, rfl, _⟩ := h
    rfl
  · obtain ⟨sc, ns, rfl, hS, hl, q⟩ := h
    refine ⟨_, (pss_cons (ps_for PassesOwn.never rfl (pi_range1 (by rfl) bt.m_range (pa_cons (pe_callB (call_max2 rfl) (by rfl) bt.m_max (by decide +kernel) (pa_cons pe_int (pa_cons (pe_callB (call_min2 rfl) (by rfl) bt.m_min (by decide +kernel) (pa_cons pe_int (pa_cons (pe_callB call_len_seq (by rfl) bt.m_len (by decide +kernel) (pa_cons (pv 0) pa_nil)) pa_nil))) pa_nil))) pa_nil)) (pg_name (i := 1) sc_law.nd rfl (Or.inl rfl)) (pss_cons (ps_set (i := 2) sc_law.nd rfl (Or.inl rfl) (pe_cl c__law_pool hg hr (by decide) (by rfl) (pa_cons (pv 0) (pa_cons (pv 1) pa_nil))))
      (pss_one (ps_for PassesOwn.never rfl (pi_list (pe_lst (pa_cons (pe_op op_add pe_int (pe_cl c__law_draw hg hr (by decide) (by rfl) (pa_cons (pv 2) (pa_cons pe_int pa_nil)))) (pa_cons (pe_op op_add pe_int (pe_cl c__law_draw hg hr (by decide) (by rfl) (pa_cons (pv 2) (pa_cons pe_int pa_nil)))) (pa_cons (pe_ix ix_list (pe_lst (pa_cons pe_int (pa_cons pe_int pa_nil))) (pe_callTy call_int1 (by rfl) bt.m_int (by decide +kernel) (pa_cons (pe_or (pe_cmpR op_gt (pv 1) pe_int (nomark _)) (pe_one (pe_cmpR op_gt (pe_callB call_len_seq (by rfl) bt.m_len (by decide +kernel) (pa_cons (pv 0) pa_nil)) pe_int (nomark _)))) pa_nil)) (fun _ _ => rfl)) pa_nil))))) (pg_name (i := 3) sc_law.nd rfl (Or.inl rfl)) (pss_cons (ps_set (i := 4) sc_law.nd rfl (Or.inl rfl) (pe_lst (pa_cons (pe_cl c__law_draw hg hr (by decide) (by rfl) (pa_cons (pv 2) (pa_cons pe_int pa_nil))) (pa_cons (pe_op op_mulW pe_int (pv 3)) (pa_cons (pe_ix ix_list (pe_lst (pa_cons pe_int (pa_cons pe_int pa_nil))) (pe_callTy call_int1 (by rfl) bt.m_int (by decide +kernel) (pa_cons (pe_cmpR op_gt (pv 1) pe_int (nomark _)) pa_nil)) (fun _ _ => rfl)) pa_nil)))))
      (pss_cons (ps_set (i := 5) sc_law.nd rfl (Or.inl rfl) (pe_cl c__law_bounds hg hr (by decide) (by rfl) (pa_cons (pv 2) (pa_cons (pv 3) (pa_cons (pe_ix ix_list (pv 4) (pe_cl c__law_draw hg hr (by decide) (by rfl) (pa_cons (pv 2) (pa_cons pe_int pa_nil))) (fun _ _ => rfl)) pa_nil)))))
      (pss_cons (ps_if (pt_not (pt_val (pe_cl c__law_right hg hr (by decide) (by rfl) (pa_cons (pv 2) (pa_cons (pv 3) (pa_cons (pv 5) pa_nil)))))) (pss_one (ps_ret pe_bl)) pss_nil)
      (pss_one (ps_if (pt_cmpR (op_neD hr.units) (pv 5) (pe_lst pa_nil) (nomark _)) (pss_cons (ps_expr (pe_bm PySem.F.plainAttrs_list PySem.F.slot_list_pop PySem.F.type_list_pop mt_popAt (pv 5) (pa_cons (pe_cl c__law_draw hg hr (by decide) (by rfl) (pa_cons (pv 2) (pa_cons (pe_callB call_len_seq (by rfl) bt.m_len (by decide +kernel) (pa_cons (pv 5) pa_nil)) pa_nil))) pa_nil)))
      (pss_cons (ps_expr (pe_bm PySem.F.plainAttrs_list PySem.F.slot_list_append PySem.F.type_list_append mt_append (pv 5) (pa_cons (pe_tup (pa_cons (pe_cl c__law_draw hg hr (by decide) (by rfl) (pa_cons (pv 2) (pa_cons (pv 3) pa_nil))) (pa_cons (pe_cl c__law_draw hg hr (by decide) (by rfl) (pa_cons (pv 2) (pa_cons (pv 3) pa_nil))) (pa_cons (pe_op op_sub (pe_cl c__law_draw hg hr (by decide) (by rfl) (pa_cons (pv 2) (pa_cons pe_int pa_nil))) pe_int) pa_nil)))) pa_nil)))
      (pss_one (ps_if (pt_not (pt_val (pe_cl c__law_right hg hr (by decide) (by rfl) (pa_cons (pv 2) (pa_cons (pv 3) (pa_cons (pv 5) pa_nil)))))) (pss_one (ps_ret pe_bl)) pss_nil)))) pss_nil)))))))))
      (pss_cons (ps_set (i := 6) sc_law.nd rfl (Or.inl rfl) (pe_slk (pe_lc (own := [("_law_spot", 7)]) (g := (gName 7)) (by rfl) sc_law.nd (pi_range1 (by rfl) bt.m_range (pa_cons pe_int pa_nil)) (blkOk_by (N := n_law) (sc := defScope s_law) (by decide +kernel)) (fun _ _ _ _ _ => (pg_name (i := 7) sc_law.nd rfl (Or.inl rfl))) (fun _ _ _ _ _ => pts_nil) (fun _ _ _ _ _ => (pe_tup (pa_cons (pv 7) (pa_cons (pe_op op_add (pv 7) pe_int) (pa_cons (pe_op op_powW pe_int pe_int) pa_nil)))))) po_none po_none (po_some (pe_un un_neg pe_int))))
      (pss_cons (ps_if (pt_cmpR (op_neD hr.units) (pe_cl c_least_numbers hg hr (by decide) (by rfl) (pa_cons pe_int (pa_cons (pv 6) pa_nil))) (pe_lc (own := [("_law_spot", 7)]) (g := (gName 7)) (by rfl) sc_law.nd (pi_range1 (by rfl) bt.m_range (pa_cons pe_int pa_nil)) (blkOk_by (N := n_law) (sc := defScope s_law) (by decide +kernel)) (fun _ _ _ _ _ => (pg_name (i := 7) sc_law.nd rfl (Or.inl rfl))) (fun _ _ _ _ _ => pts_nil) (fun _ _ _ _ _ => (pe_op op_mulW (pv 7) (pe_op op_powW pe_int pe_int)))) (nomark _)) (pss_one (ps_ret pe_bl)) pss_nil)
      (pss_cons (ps_if (pt_cmpR op_notN (pe_cl c_least_numbers hg hr (by decide) (by rfl) (pa_cons pe_int (pa_cons (pe_op op_cat (pv 6) (pe_lst (pa_cons (pe_tup (pa_cons pe_int (pa_cons pe_int (pa_cons pe_int pa_nil)))) pa_nil))) pa_nil))) pe_non (nomark _)) (pss_one (ps_ret pe_bl)) pss_nil)
      (pss_one (ps_ret (pe_cmpR (op_eqD hr.units) (pe_lc (own := [("_law_d", 8)]) (g := (gName 8)) (by rfl) sc_law.nd (pi_list (pe_lst (pa_cons (pe_un un_neg pe_int) (pa_cons pe_int (pa_cons pe_int pa_nil))))) (blkOk_by (N := n_law) (sc := defScope s_law) (by decide +kernel)) (fun _ _ _ _ _ => (pg_name (i := 8) sc_law.nd rfl (Or.inl rfl))) (fun _ _ _ _ _ => pts_nil) (fun _ _ _ _ _ => (pe_cl c_least_numbers hg hr (by decide) (by rfl) (pa_cons pe_int (pa_cons (pe_lst (pa_cons (pe_tup (pa_cons pe_int (pa_cons pe_int (pa_cons (pv 8) pa_nil)))) pa_nil)) pa_nil))))) (pe_lst (pa_cons (pe_lst (pa_cons pe_int pa_nil)) (pa_cons (pe_lst (pa_cons pe_int pa_nil)) (pa_cons pe_non pa_nil)))) (nomark _)))))))), ?_⟩
    refine ⟨_, rfl, sc, _, rfl, .inl hS, _, _, rfl, ?_⟩
    refine ⟨1, _, rfl, _, rfl, ?_, ?_, ?_⟩
    · (repeat' split) <;> omega
    · (repeat' split) <;> omega
    refine for_it walk_range (fun i σ H' => Same H H' ∧ ∃ y1 y2 y3 y4 y5 y6 y7 y8, σ = [some (.ref sc), y1, y2, y3, y4, y5, y6, y7, y8]) ⟨Same.refl _, _, _, _, _, _, _, _, _, rfl⟩ (fun _ _ _ _ _ => True.intro) (fun i x σ Hx H1 hi p y => ?_) (fun σ H1 p => ?_)
    · obtain ⟨s1, y1, y2, y3, y4, y5, y6, y7, y8, rfl⟩ := p
      obtain ⟨rfl, hx⟩ := y
      have hx : x = .int (0 + (i : Int)) := hx
      have e0 : (0 : Int) + (i : Int) = ((i : Nat) : Int) := Int.zero_add _
      rw [e0] at hx
      subst hx
      have hi4 : i < 100 := by
        refine Nat.lt_of_lt_of_le hi ?_
        (repeat' split) <;> omega
      have hS1 : SqL K H1 sc (ns.map V.int) := s1.seq hS
      refine ⟨_, rfl, _, rfl, sc, ns, i, rfl, hS1, hl, hi4, fun r H2 s2 nr R2 => ?_⟩
      refine ⟨_, rfl, r, 4, 0, rfl, by decide, by decide, by decide, R2, fun d1 H3 d10 d11 R3 o3 => ⟨_, _, rfl, rfl, ?_⟩⟩
      refine ⟨_, rfl, r, 12, 1, rfl, by decide, by decide, by decide, R3, fun d2 H4 d20 d21 R4 o4 => ⟨_, _, rfl, rfl, ?_⟩⟩
      have oS : ∀ {H5 : Hp}, Off r H2 H5 → SqL K H5 sc (ns.map V.int) := fun {H5} o => by
        rcases hS1 with h | h
        · rcases h with h | ⟨ob, h⟩
          · exact .inl (.inl (o _ _ (s2 _ _ h) (ne_of_none h nr)))
          · exact .inl (.inr ⟨ob, o _ _ (s2 _ _ h) (ne_of_none h nr)⟩)
        · exact .inr h
      refine ⟨(by show 2 ≤ sizeLine; decide), fun W nW => ?_⟩
      have sW := same_upd (o := .lst [.int 50, .int 20]) nW
      have o5 := ((o3.trans o4).sameTrans sW)
      have R5 := R4.same sW
      have hW := upd_same (H := H4) (a := W) (o := .lst [.int 50, .int 20])
      have pick : ∀ b : Bool, ∃ v : Int, 20 ≤ v ∧ v ≤ 50 ∧ atI [V.int 50, V.int 20] (if b = true then 1 else 0) = some (.int v) := fun b => by
        cases b
        · exact ⟨50, by decide, by decide, rfl⟩
        · exact ⟨20, by decide, by decide, rfl⟩
      refine ⟨_, rfl, _, _, rfl, rfl, _, rfl, ite2 (fun _ => .inr ⟨_, rfl, ?_⟩) (fun _ => ⟨_, rfl, sc, _, rfl, .inl (oS o5), _, _, rfl, rfl, .inr ⟨_, rfl, ?_⟩⟩)⟩
      all_goals
        obtain ⟨v3, v30, v31, hat⟩ := pick _
        refine ⟨W, _, _, _, rfl, rfl, SqL.of hW, hat, (by show 3 ≤ sizeLine; decide), fun L nL => ?_⟩
        have sL := same_upd (o := .lst ([1 + d1, 1 + d2, v3].map V.int)) nL
        have o6 := o5.sameTrans sL
        have R6 := R5.same sL
        have hL := upd_same (H := upd H4 W (.lst [.int 50, .int 20])) (a := L) (o := .lst ([1 + d1, 1 + d2, v3].map V.int))
        have Lr : L ≠ r := R5.new nL
        refine (fun (G : ∀ H6 : Hp, Rm.Off r H2 H6 → Reel H6 r 2 → H6 L = some (.lst ([1 + d1, 1 + d2, v3].map V.int)) → _) => G _ o6 R6 hL) (fun H6 o6 R6 hL => ?_)
        refine ⟨L, rfl, ⟨_, SqL.of hL⟩, for_it (walk_list (xs := [1 + d1, 1 + d2, v3].map V.int)) (fun t σ H' => Off r H6 H' ∧ Reel H' r (2 + 3000 * t) ∧ ∃ y3 y4 y5 y6 y7 y8, σ = [some (.ref sc), some (.int (i : Int)), some (.ref r), y3, y4, y5, y6, y7, y8])
          ⟨Off.refl _, R6, _, _, _, _, _, _, rfl⟩ (fun _ _ H' _ p => SqL.of (p.1 _ _ hL Lr)) (fun t x σ H7 H8 ht p y => ?_) (fun σ H7 p => ?_)⟩
        · obtain ⟨o7, R7, y3, y4, y5, y6, y7, y8, rfl⟩ := p
          obtain ⟨rfl, e2⟩ := y
          have ht3 : t < 3 := ht
          obtain ⟨M, rfl, M1, M2⟩ : ∃ M : Int, x = .int M ∧ 1 ≤ M ∧ M ≤ 50 := by
            match t, ht3, e2 with
            | 0, _, e2 => exact ⟨_, (Option.some.inj e2).symm, by omega, by omega⟩
            | 1, _, e2 => exact ⟨_, (Option.some.inj e2).symm, by omega, by omega⟩
            | 2, _, e2 => exact ⟨_, (Option.some.inj e2).symm, by omega, by omega⟩
          obtain ⟨n, rfl⟩ := Int.eq_ofNat_of_zero_le (show 0 ≤ M by omega)
          refine ⟨_, rfl, r, 9, 2 + 3000 * t, rfl, by decide, by decide, by show _ < 1000000000; omega, R7, fun e1 H9 e10 e11 R9 o9 => ?_⟩
          refine ⟨_, rfl, _, _, rfl, rfl, wide_mul (a := 40) (b := 40) (by decide) (by omega) (by decide) (by decide) (by decide), ?_⟩
          refine ⟨(by show 2 ≤ sizeLine; decide), fun W2 nW2 => ?_⟩
          obtain ⟨v4, v40, v41, hat4⟩ : ∃ v : Int, 50 ≤ v ∧ v ≤ 400 ∧ atI [V.int 400, V.int 60] (if decide ((i : Int) > 0) = true then 1 else 0) = some (.int v) := by
            cases decide ((i : Int) > 0)
            · exact ⟨400, by decide, by decide, rfl⟩
            · exact ⟨60, by decide, by decide, rfl⟩
          refine ⟨_, rfl, _, _, rfl, rfl, .inr ⟨_, rfl, W2, _, _, _, rfl, rfl, SqL.of upd_same, hat4, (by show 3 ≤ sizeLine; decide), fun S nS => ?_⟩⟩
          have sW2 := same_upd (o := .lst [.int 400, .int 60]) nW2
          have sS := same_upd (o := .lst ([e1, 3 * (n : Int), v4].map V.int)) nS
          have R10 := R9.same (sW2.trans sS)
          have o10 := (o7.trans o9).sameTrans (sW2.trans sS)
          have Sr : S ≠ r := (R9.same sW2).new nS
          refine ⟨_, rfl, _, rfl, _, rfl, _, rfl, r, 3, 2 + 3000 * t + 1, rfl, by decide, by decide, by show _ < 1000000000; omega, R10, fun e2' H11 e20 e21 R11 o11 => ?_⟩
          have hS11 := o11 _ _ (upd_same (a := S) (o := .lst ([e1, 3 * (n : Int), v4].map V.int))) Sr
          obtain ⟨sz, asz, msz⟩ := getI (ns := [e1, 3 * (n : Int), v4]) e20 (by show e2' < 3; exact e21)
          have bsz : 0 ≤ sz ∧ sz ≤ 400 := by
            have hm := List.mem_of_getElem? msz
            simp only [List.mem_cons, List.mem_nil_iff, or_false] at hm
            omega
          obtain ⟨m, rfl⟩ := Int.eq_ofNat_of_zero_le bsz.1
          refine ⟨S, _, e2', _, rfl, rfl, SqL.of hS11, asz, r, 2 + 3000 * t + 1 + 1, n, m, rfl, R11, by show _ < 1000000000; omega, by omega, by omega, by omega, fun H12 C bs o12 nC R12 hC D => ?_⟩
          have o612 := (o10.trans o11).trans o12
          have nC6 : H6 C = none := R11.free (o10.trans o11) nC
          have Cr : C ≠ r := R11.new nC
          refine ⟨_, rfl, _, rfl, _, rfl, r, C, 2 + 3000 * t + 1 + 1 + 2500, n, m, bs, rfl, R12, by show _ < 1000000000; omega, hC, D, by omega, by omega, by omega, fun H13 o13 R13 => ⟨_, rfl, iteF ?_⟩⟩
          have hC13 := R12.lst hC Cr o13
          have o613 := o612.trans o13
          refine ⟨_, rfl, Nat.zero_le _, fun Z nZ => ?_⟩
          have sZ := same_upd (o := .lst []) nZ
          have hCZ := hC13.same sZ
          have RZ := R13.same sZ
          have o6Z := o613.sameTrans sZ
          refine ⟨_, _, lstB_dp hCZ, .lst (SqL.of upd_same) .nil, shaped_bnds bs, shaped_nil, !bs.isEmpty, congrArg V.bl (by show (!PyData.eqv (.list (bs.map bndD)) (.list [])) = _; rw [eqv_nil, List.isEmpty_map]), ?_⟩
          cases hb : bs.isEmpty with
          | true => exact iteF ⟨o6Z, RZ.mono (by omega), _, _, _, _, _, _, rfl⟩
          | false =>
            have hdl := D.len
            have hm1 : 1 ≤ m := by
              cases bs with
              | nil => cases hb
              | cons _ _ => rw [List.length_cons] at hdl; omega
            refine iteT ?_
            have big : (10 : Int) ^ 40 > 1000 := by decide
            obtain ⟨as, hc, hT⟩ := id hCZ
            have hal := hT.1
            refine ⟨_, rfl, .inl ⟨rfl, _, SqL.of hc⟩, _, rfl, _, rfl, C, _, rfl, .inl (SqL.of hc), r, _, 2 + 3000 * t + 2510, rfl, by rw [List.length_map]; omega, by rw [List.length_map]; omega, by show _ < 1000000000; omega, RZ.mono (by omega), fun sa H14 s0 s1' R14 o14 => ?_⟩
            obtain ⟨sp, rfl⟩ := Int.eq_ofNat_of_zero_le s0
            rw [List.length_map] at s1'
            have hsp : sp < bs.length := by omega
            have hC14 := RZ.lst hCZ Cr o14
            obtain ⟨as14, hc14, hT14⟩ := id hC14
            have hal14 := hT14.1
            obtain ⟨b, hb14, hbt14⟩ := hT14.at_ hsp
            have hix := seqIndex_of (k := (sp : Int)) (n := (as14.map V.ref).length) (by omega) (by rw [List.length_map]; omega)
            rw [Int.toNat_natCast] at hix
            refine ⟨C, _, _, sp, .ref b, rfl, rfl, hc14, by omega, by omega, hix, get_map_ref hb14, ?_⟩
            rw [eraseMap]
            have hc15 := upd_same (H := H14) (a := C) (o := .lst ((as14.eraseIdx sp).map V.ref))
            have hT15 := tups_erase (hT14.off hc14 (off_upd (o := .lst ((as14.eraseIdx sp).map V.ref)))) sp
            have R15 := R14.upd (o := .lst ((as14.eraseIdx sp).map V.ref)) Cr
            have o15 := (o6Z.trans o14).new (o := .lst ((as14.eraseIdx sp).map V.ref)) nC6
            have hel : (as14.eraseIdx sp).length + 1 = m := by rw [List.length_eraseIdx, if_pos (by omega)]; omega
            refine (fun (G : ∀ H15 : Hp, H15 C = some (.lst ((as14.eraseIdx sp).map V.ref)) → Tups H15 bndV (as14.eraseIdx sp) (bs.eraseIdx sp) → Reel H15 r (2 + 3000 * t + 2510 + 1) → Rm.Off r H6 H15 → _) => G _ hc15 hT15 R15 o15) (fun H15 hc15 hT15 R15 o15 => ?_)
            refine ⟨_, rfl, .inl ⟨rfl, _, SqL.of hc15⟩, ?_⟩
            refine ⟨_, rfl, _, rfl, r, n, _, rfl, by omega, by omega, by show _ < 1000000000; omega, R15, fun ia H16 i0 i1 R16 o16 => ?_⟩
            refine ⟨_, rfl, _, rfl, r, n, _, rfl, by omega, by omega, by show _ < 1000000000; omega, R16, fun ja H17 j0 j1 R17 o17 => ?_⟩
            refine ⟨_, rfl, r, 12, _, rfl, by decide, by decide, by show _ < 1000000000; omega, R17, fun e3 H18 e30 e31 R18 o18 => ⟨_, _, rfl, rfl, (by show 3 ≤ sizeLine; decide), fun p np => ?_⟩⟩
            obtain ⟨ib, rfl⟩ := Int.eq_ofNat_of_zero_le i0
            obtain ⟨jb, rfl⟩ := Int.eq_ofNat_of_zero_le j0
            have o1518 := (o16.trans o17).trans o18
            obtain ⟨_, _, _, hr15, _⟩ := id R15
            have hc18 := o1518 _ _ hc15 Cr
            have hT18 := hT15.off hr15 o1518
            have kp := same_upd (o := .tup [.int (ib : Int), .int (jb : Int), .int (e3 - 9)]) np
            have hc19 := kp _ _ hc18
            have pC : p ≠ C := (ne_of_none hc18 np).symm
            refine ⟨C, _, .ref p, rfl, rfl, hc19, by rw [List.length_map]; exact small1000 (by omega), ?_⟩
            have hL20 : Lst bndV (upd (upd H18 p (.tup [.int (ib : Int), .int (jb : Int), .int (e3 - 9)])) C (.lst ((as14.eraseIdx sp).map V.ref ++ [.ref p]))) C (bs.eraseIdx sp ++ [⟨ib, jb, e3 - 9⟩]) :=
              ⟨as14.eraseIdx sp ++ [p], by rw [upd_same, List.map_append]; rfl, Tups.snoc ((hT18.same kp).off hc19 off_upd) (by rw [upd_ne pC]; exact upd_same)⟩
            have R20 := (R18.same kp).upd (o := .lst ((as14.eraseIdx sp).map V.ref ++ [.ref p])) Cr
            have o20 := ((o15.trans o1518).sameTrans kp).new (o := .lst ((as14.eraseIdx sp).map V.ref ++ [.ref p])) nC6
            have D20 : Drawn n m (bs.eraseIdx sp ++ [⟨ib, jb, e3 - 9⟩]) := by
              refine ⟨fun x hx => ?_, by rw [List.length_append, List.length_eraseIdx, if_pos hsp, List.length_singleton]; omega, fun x hx => ?_⟩
              · rcases List.mem_append.mp hx with h | h
                · exact D.ix x (List.mem_of_mem_eraseIdx h)
                · rw [List.mem_singleton.mp h]
                  show ib < n ∧ jb < n
                  omega
              · rcases List.mem_append.mp hx with h | h
                · exact D.size x (List.mem_of_mem_eraseIdx h)
                · rw [List.mem_singleton.mp h]
                  show (e3 - 9).natAbs < 10 ^ 32
                  omega
            refine ⟨_, rfl, _, rfl, _, rfl, r, C, 2 + 3000 * t + 2520, n, m, _, rfl, R20.mono (by omega), by show _ < 1000000000; omega, hL20, D20, by omega, by omega, by omega, fun H21 o21 R21 => ⟨_, rfl, iteF ?_⟩⟩
            exact ⟨o20.trans o21, R21.mono (by omega), _, _, _, _, _, _, rfl⟩
        · obtain ⟨o7, R7, y3, y4, y5, y6, y7, y8, rfl⟩ := p
          exact ⟨Same.off (s1.trans s2) (s1.free nr) (o6.trans o7), _, _, _, _, _, _, _, _, rfl⟩
    · obtain ⟨s1, y1, y2, y3, y4, y5, y6, y7, y8, rfl⟩ := p
      refine ⟨49, rfl, by decide, by decide, fun M nM => lc_it walk_range (fun k H' => Lst bndV H' M (chainB.take k)) ⟨[], upd_same, Tups.nil⟩ (fun _ _ _ _ => True.intro) (fun k x H2 H3 hk p y => ?_) (fun H2 p => ?_)⟩
      · obtain ⟨rfl, rfl⟩ := y
        obtain ⟨as, hM, hT⟩ := p
        have hk49 : k < 49 := hk
        have hcb : chainB[k]? = some ⟨k, k + 1, 10 ^ 30⟩ := by
          unfold chainB
          rw [List.getElem?_map, List.getElem?_range hk49]; rfl
        have hal := hT.1
        refine ⟨rfl, ⟨_, rfl, _, rfl, _, _, rfl, rfl, _, _, rfl, rfl, powW (n := 40) (k := 30) (by decide) (by decide), (by show 3 ≤ sizeLine; decide), fun p np => ?_⟩⟩
        have ev : ([.int (0 + (k : Int)), .int (0 + (k : Int) + 1), .int (10 ^ (30 : Int).toNat)] : List V) = bndV ⟨k, k + 1, 10 ^ 30⟩ := by
          unfold bndV
          rw [Int.zero_add]; rfl
        have sp := same_upd (o := .tup [.int (0 + (k : Int)), .int (0 + (k : Int) + 1), .int (10 ^ (30 : Int).toNat)]) np
        have hM2 := sp _ _ hM
        have pM : p ≠ M := (ne_of_none hM np).symm
        refine ⟨_, hM2, ?_, as ++ [p], by rw [upd_same, List.map_append]; rfl, ?_⟩
        · rw [List.length_map, hal, List.length_take]; exact small1000 (by omega)
        · rw [List.take_add_one, hcb]
          refine Tups.snoc ((hT.same sp).off hM2 off_upd) ?_
          rw [upd_ne pM, upd_same, ev]
      · obtain ⟨as, hM, hT⟩ := p
        have ht : chainB.take (49 : Int).toNat = chainB := by decide +kernel
        rw [ht] at hT
        have hal : as.length = 49 := by rw [hT.1]; decide +kernel
        have hb := back49 (xs := as.map V.ref) (by rw [List.length_map]; exact hal)
        refine ⟨_, rfl, _, rfl, M, _, -1, rfl, rfl, by decide, SqL.of hM, by show (stepV (as.map V.ref) none none (-1)).length ≤ _; rw [hb, List.length_reverse]; exact Nat.le_refl _, fun C nC => ?_⟩
        rw [hb]
        have sC := same_upd (o := .lst (as.map V.ref).reverse) nC
        have hTr := (tups_rev hT).same sC
        have hcC : upd H2 C (.lst (as.map V.ref).reverse) C = some (.lst (as.reverse.map V.ref)) := by rw [upd_same, List.map_reverse]
        have l4 : chainB.reverse.length ≤ 400 := by decide +kernel
        refine ⟨_, rfl, C, 50, _, rfl, ⟨⟨as.reverse, hcC, hTr⟩, chain_ix, by decide, by decide, by decide +kernel⟩, l4, fun z H3 p h s3 np hp => ?_, fun H' h => by rw [chain_1] at h; cases h⟩
        rw [chain_1] at h
        cases h
        -- the list that is due
        refine ⟨50, rfl, by decide, by decide, fun Y nY => lc_it walk_range (fun k H' => Same H3 H' ∧ H' Y = some (.lst (((List.range k).map fun s : Nat => (s : Int) * 10 ^ 30).map V.int))) ⟨same_upd nY, upd_same⟩ (fun _ _ _ _ => True.intro) (fun k x H4 H5 hk p4 y => ?_) (fun H4 p4 => ?_)⟩
        · obtain ⟨rfl, rfl⟩ := y
          have hk50 : k < 50 := hk
          refine ⟨rfl, _, rfl, _, _, rfl, rfl, powW (n := 40) (k := 30) (by decide) (by decide), _, _, rfl, rfl, wide_mul (a := 40) (b := 140) (by omega) (by decide) (by decide) (by decide) (by decide), _, p4.2, ?_, Same.off p4.1 nY off_upd, ?_⟩
          · rw [List.length_map, List.length_map, List.length_range]; exact small1000 (by omega)
          · rw [upd_same, List.range_succ, List.map_append, List.map_append]
            show some (HO.lst (_ ++ [V.int ((0 + (k : Int)) * 10 ^ (30 : Int).toNat)])) = _
            rw [Int.zero_add]; rfl
        · have hp4 := p4.1 _ _ hp
          have hY := p4.2
          rw [show (50 : Int).toNat = 50 from rfl] at hY
          refine ⟨_, _, .lst (SqL.of hp4) (dpInts _), .lst (SqL.of hY) (dpInts _), shaped_ints _, shaped_ints _, false, congrArg V.bl (by rw [eqv_intL, decide_eq_true rfl]; rfl), iteF ?_⟩
          have s4 := s3.trans p4.1
          -- one more bound: none
          refine ⟨_, rfl, (by show 3 ≤ sizeLine; decide), fun p5 np5 => ⟨(by show 1 ≤ sizeLine; decide), fun D nD => ?_⟩⟩
          have k5 := same_upd (o := .tup [.int 49, .int 0, .int 0]) np5
          have kD := same_upd (o := .lst [.ref p5]) nD
          refine ⟨C, D, _, _, rfl, rfl, ((s4.trans k5).trans kD) _ _ hcC, upd_same, by rw [List.length_map, List.length_reverse, hal]; show 49 + 1 ≤ sizeLine; decide, fun U nU => ?_⟩
          have kU := same_upd (o := .lst (as.reverse.map V.ref ++ [.ref p5])) nU
          refine ⟨U, 50, chainB.reverse ++ [⟨49, 0, 0⟩], rfl, ⟨⟨as.reverse ++ [p5], by rw [upd_same, List.map_append]; rfl, Tups.snoc (hTr.same (((s4.trans k5).trans kD).trans kU)) ((kD.trans kU) _ _ upd_same)⟩, by decide +kernel, by decide, by decide, by decide +kernel⟩, by decide +kernel, (fun z H' p h => by rw [chain_2] at h; cases h), fun H6 _ s6 => ⟨rfl, _, rfl, iteF ?_⟩⟩
          -- one number
          refine ⟨_, rfl, (by show 3 ≤ sizeLine; decide), fun L nL => ⟨L, rfl, ⟨_, SqL.of upd_same⟩, ?_⟩⟩
          have hL := upd_same (H := H6) (a := L) (o := .lst [.int (-1), .int 0, .int 1])
          generalize upd H6 L (.lst [.int (-1), .int 0, .int 1]) = H7 at hL
          refine fun Mo nMo => lc_it (walk_list (xs := [.int (-1), .int 0, .int 1])) (fun k H' => H' L = some (.lst [.int (-1), .int 0, .int 1]) ∧ ∃ p0 p1 : Addr, (0 < k → H' p0 = some (.lst [.int 0]) ∧ p0 ≠ Mo) ∧ (1 < k → H' p1 = some (.lst [.int 0]) ∧ p1 ≠ Mo) ∧ H' Mo = some (.lst ([V.ref p0, V.ref p1, V.non].take k)))
            ⟨(same_upd nMo) _ _ hL, L, L, fun h => by omega, fun h => by omega, upd_same⟩ (fun k H' _ p => SqL.of p.1) (fun k x Hx H8 hk p y => ?_) (fun H8 p => ?_)
          · obtain ⟨rfl, e2⟩ := y
            obtain ⟨hL8, p0, p1, h0, h1, hMo⟩ := p
            have LM : L ≠ Mo := ne_of_none hL nMo
            have hk3 : k < 3 := hk
            have put : ∀ d : Int, x = .int d → ∀ (p6 D6 : Addr), H8 p6 = none → upd H8 p6 (.tup [.int 0, .int 0, .int d]) D6 = none → Bs (upd (upd H8 p6 (.tup [.int 0, .int 0, .int d])) D6 (.lst [.ref p6])) D6 1 [⟨0, 0, d⟩] ∧ Same H8 (upd (upd H8 p6 (.tup [.int 0, .int 0, .int d])) D6 (.lst [.ref p6])) := fun d _ p6 D6 n6 nD6 => by
              have a1 := same_upd (o := .tup [.int 0, .int 0, .int d]) n6
              have a2 := same_upd (o := .lst [.ref p6]) nD6
              refine ⟨⟨⟨[p6], upd_same, rfl, fun i a e x y => ?_⟩, fun b hb => ?_, by decide, by decide, (by show 1 ≤ 401; decide)⟩, a1.trans a2⟩
              · match i, x, y with
                | 0, x, y =>
                  have e1 : p6 = a := Option.some.inj x
                  have e2 : (⟨0, 0, d⟩ : Bnd) = e := Option.some.inj y
                  subst e1 e2
                  exact a2 _ _ upd_same
                | i + 1, x, y => simp at x
              · rw [List.mem_singleton.mp hb]; exact ⟨Nat.zero_lt_one, Nat.zero_lt_one⟩
            match k, hk3, e2, h0, h1, hMo with
            | 0, _, e2, h0, h1, hMo =>
              have ex : V.int (-1) = x := Option.some.inj e2
              subst ex
              refine ⟨rfl, _, rfl, (by show 3 ≤ sizeLine; decide), fun p6 n6 => ⟨(by show 1 ≤ sizeLine; decide), fun D6 nD6 => ?_⟩⟩
              obtain ⟨B6, s6⟩ := put (-1) rfl p6 D6 n6 nD6
              refine ⟨D6, 1, [⟨0, 0, -1⟩], rfl, B6, by decide, fun z H9 p7 h s9 np7 hp7 => ?_, fun H' h => by exact absurd h (by decide)⟩
              have ez : z = [0] := by
                have : iterI [⟨0, 0, -1⟩] (1 + 1) (List.replicate 1 0) = some [0] := by decide
                rw [this] at h; exact (Option.some.inj h).symm
              subst ez
              have t9 := s6.trans s9
              have q7 : p7 ≠ Mo := fun e => by rw [e] at np7; rw [s6 _ _ hMo] at np7; cases np7
              refine ⟨_, t9 _ _ hMo, by show 0 < sizeLine; decide, by rw [upd_ne LM]; exact t9 _ _ hL8, p7, p7, fun _ => ⟨by rw [upd_ne q7]; exact hp7, q7⟩, fun h => by omega, upd_same⟩
            | 1, _, e2, h0, h1, hMo =>
              have ex : V.int 0 = x := Option.some.inj e2
              subst ex
              refine ⟨rfl, _, rfl, (by show 3 ≤ sizeLine; decide), fun p6 n6 => ⟨(by show 1 ≤ sizeLine; decide), fun D6 nD6 => ?_⟩⟩
              obtain ⟨B6, s6⟩ := put 0 rfl p6 D6 n6 nD6
              refine ⟨D6, 1, [⟨0, 0, 0⟩], rfl, B6, by decide, fun z H9 p7 h s9 np7 hp7 => ?_, fun H' h => by exact absurd h (by decide)⟩
              have ez : z = [0] := by
                have : iterI [⟨0, 0, 0⟩] (1 + 1) (List.replicate 1 0) = some [0] := by decide
                rw [this] at h; exact (Option.some.inj h).symm
              subst ez
              have t9 := s6.trans s9
              have q7 : p7 ≠ Mo := fun e => by rw [e] at np7; rw [s6 _ _ hMo] at np7; cases np7
              obtain ⟨g0, g1⟩ := h0 (by decide)
              refine ⟨_, t9 _ _ hMo, by show 1 < sizeLine; decide, by rw [upd_ne LM]; exact t9 _ _ hL8, p0, p7, fun _ => ⟨by rw [upd_ne g1]; exact t9 _ _ g0, g1⟩, fun _ => ⟨by rw [upd_ne q7]; exact hp7, q7⟩, upd_same⟩
            | 2, _, e2, h0, h1, hMo =>
              have ex : V.int 1 = x := Option.some.inj e2
              subst ex
              refine ⟨rfl, _, rfl, (by show 3 ≤ sizeLine; decide), fun p6 n6 => ⟨(by show 1 ≤ sizeLine; decide), fun D6 nD6 => ?_⟩⟩
              obtain ⟨B6, s6⟩ := put 1 rfl p6 D6 n6 nD6
              refine ⟨D6, 1, [⟨0, 0, 1⟩], rfl, B6, by decide, fun z H9 p7 h => absurd ((show iterI [⟨0, 0, 1⟩] (1 + 1) (List.replicate 1 0) = none by decide).symm.trans h) (by intro z; cases z), fun H9 h s9 => ?_⟩
              have t9 := s6.trans s9
              obtain ⟨g0, g1⟩ := h0 (by decide)
              obtain ⟨g2, g3⟩ := h1 (by decide)
              refine ⟨_, t9 _ _ hMo, by show 2 < sizeLine; decide, by rw [upd_ne LM]; exact t9 _ _ hL8, p0, p1, fun _ => ⟨by rw [upd_ne g1]; exact t9 _ _ g0, g1⟩, fun _ => ⟨by rw [upd_ne g3]; exact t9 _ _ g2, g3⟩, upd_same⟩
          · obtain ⟨hL8, p0, p1, h0, h1, hMo⟩ := p
            obtain ⟨g0, _⟩ := h0 (by decide)
            obtain ⟨g2, _⟩ := h1 (by decide)
            refine ⟨(by show 1 ≤ sizeLine; decide), fun A1 n1 => ⟨(by show 1 ≤ sizeLine; decide), fun A2 n2 => ⟨(by show 3 ≤ sizeLine; decide), fun A3 n3 => ?_⟩⟩⟩
            have k1 := same_upd (o := .lst [.int 0]) n1
            have k2 := same_upd (o := .lst [.int 0]) n2
            have k3 := same_upd (o := .lst [.ref A1, .ref A2, .non]) n3
            have k13 := (k1.trans k2).trans k3
            have one : ∀ {H' : Hp} {a : Addr}, H' a = some (.lst [.int 0]) → Dp K H' (.ref a) (.list [.int 0]) := fun {H' a} h => .lst (SqL.of h) (.cons (.int 0) .nil)
            refine ⟨_, _, .lst (SqL.of (k13 _ _ hMo)) (.cons (one (k13 _ _ g0)) (.cons (one (k13 _ _ g2)) (.cons .non .nil))), .lst (SqL.of upd_same) (.cons (one ((k2.trans k3) _ _ upd_same)) (.cons (one (k3 _ _ upd_same)) (.cons .non .nil))), by decide +kernel, by decide +kernel, ?_⟩
            exact q _
end
end K35

set_option Elab.async false
set_option linter.all false
set_option maxRecDepth 100000
set_option maxHeartbeats 8000000
namespace K35
open PySem PySem.Spec PyProof.Rows L2 Gd Rm
theorem at_mk {K : PySem.W.Frag} {h : Heap} {mg : Str → Option Value} {x : Str} {st : Stmt} {ps : List Str} {f : Addr} {od an : Option Addr} {sl : Array (Option Value)} {oc kV dc pm cd ct : Value} (X : K.In h) (G : h.Ns mainGlobals mg)
    (a : PySem.W.nsIn K mainGlobals x = some (some (.ref f))) (l : K.lookup f = some ⟨oc, od, .func (PySem.W.fnOf x x (defArgs st) (defBody st) (defScope st) .none kV dc pm an cd ct), sl⟩) (c : PySem.W.codeIn K cd x = true) (k : PySem.W.keepIn K (.ref f) = true)
    (hb : ∀ (kV doc pm : Value) (an : Option Addr) (cdv ct : Value) (us : List Value), us.length = ps.length → bindArgs (PySem.W.fnOf x x (defArgs st) (defBody st) (defScope st) .none kV doc pm an cdv ct) ⟨us, []⟩ = pure (ps.zip us)) : At K mg x st ps :=
  ⟨_, _, fun_mk l c k, PySem.W.mg_of X G a, (fun_mk l c k).binds hb⟩
theorem all_mk {l : PySem.W.OpenLaw} {w : World} {K : PySem.W.Frag} {h : Heap} {mg : Str → Option Value} {fa : Addr} (X : K.In h) (G : h.Ns mainGlobals mg) (hfa : mg "law" = some (.ref fa))
    {f0 : Addr} {od0 an0 : Option Addr} {sl0 : Array (Option Value)} {oc0 kV0 dc0 pm0 cd0 ct0 : Value}
    {f1 : Addr} {od1 an1 : Option Addr} {sl1 : Array (Option Value)} {oc1 kV1 dc1 pm1 cd1 ct1 : Value}
    {f2 : Addr} {od2 an2 : Option Addr} {sl2 : Array (Option Value)} {oc2 kV2 dc2 pm2 cd2 ct2 : Value}
    {f3 : Addr} {od3 an3 : Option Addr} {sl3 : Array (Option Value)} {oc3 kV3 dc3 pm3 cd3 ct3 : Value}
    {f4 : Addr} {od4 an4 : Option Addr} {sl4 : Array (Option Value)} {oc4 kV4 dc4 pm4 cd4 ct4 : Value}
    {f5 : Addr} {od5 an5 : Option Addr} {sl5 : Array (Option Value)} {oc5 kV5 dc5 pm5 cd5 ct5 : Value}
    {f6 : Addr} {od6 an6 : Option Addr} {sl6 : Array (Option Value)} {oc6 kV6 dc6 pm6 cd6 ct6 : Value}
    {f7 : Addr} {od7 an7 : Option Addr} {sl7 : Array (Option Value)} {oc7 kV7 dc7 pm7 cd7 ct7 : Value}
    {f8 : Addr} {od8 an8 : Option Addr} {sl8 : Array (Option Value)} {oc8 kV8 dc8 pm8 cd8 ct8 : Value}
    {f9 : Addr} {od9 an9 : Option Addr} {sl9 : Array (Option Value)} {oc9 kV9 dc9 pm9 cd9 ct9 : Value}
    {f10 : Addr} {od10 an10 : Option Addr} {sl10 : Array (Option Value)} {oc10 kV10 dc10 pm10 cd10 ct10 : Value}
    {f11 : Addr} {od11 an11 : Option Addr} {sl11 : Array (Option Value)} {oc11 kV11 dc11 pm11 cd11 ct11 : Value}
    {f12 : Addr} {od12 an12 : Option Addr} {sl12 : Array (Option Value)} {oc12 kV12 dc12 pm12 cd12 ct12 : Value}
    {f13 : Addr} {od13 an13 : Option Addr} {sl13 : Array (Option Value)} {oc13 kV13 dc13 pm13 cd13 ct13 : Value}
    {f14 : Addr} {od14 an14 : Option Addr} {sl14 : Array (Option Value)} {oc14 kV14 dc14 pm14 cd14 ct14 : Value}
    {f15 : Addr} {od15 an15 : Option Addr} {sl15 : Array (Option Value)} {oc15 kV15 dc15 pm15 cd15 ct15 : Value}
    {f16 : Addr} {od16 an16 : Option Addr} {sl16 : Array (Option Value)} {oc16 kV16 dc16 pm16 cd16 ct16 : Value}
    {tk0 : Tok}
    {tk1 : Tok}
    (a0 : PySem.W.nsIn K mainGlobals "is_an_integer" = some (some (.ref f0))) (l0 : K.lookup f0 = some ⟨oc0, od0, .func (PySem.W.fnOf "is_an_integer" "is_an_integer" (defArgs s_is_an_integer) (defBody s_is_an_integer) (defScope s_is_an_integer) .none kV0 dc0 pm0 an0 cd0 ct0), sl0⟩) (c0 : PySem.W.codeIn K cd0 "is_an_integer" = true) (k0 : PySem.W.keepIn K (.ref f0) = true)
    (a1 : PySem.W.nsIn K mainGlobals "is_between" = some (some (.ref f1))) (l1 : K.lookup f1 = some ⟨oc1, od1, .func (PySem.W.fnOf "is_between" "is_between" (defArgs s_is_between) (defBody s_is_between) (defScope s_is_between) .none kV1 dc1 pm1 an1 cd1 ct1), sl1⟩) (c1 : PySem.W.codeIn K cd1 "is_between" = true) (k1 : PySem.W.keepIn K (.ref f1) = true)
    (a2 : PySem.W.nsIn K mainGlobals "is_bounds" = some (some (.ref f2))) (l2 : K.lookup f2 = some ⟨oc2, od2, .func (PySem.W.fnOf "is_bounds" "is_bounds" (defArgs s_is_bounds) (defBody s_is_bounds) (defScope s_is_bounds) .none kV2 dc2 pm2 an2 cd2 ct2), sl2⟩) (c2 : PySem.W.codeIn K cd2 "is_bounds" = true) (k2 : PySem.W.keepIn K (.ref f2) = true)
    (a3 : PySem.W.nsIn K mainGlobals "holds" = some (some (.ref f3))) (l3 : K.lookup f3 = some ⟨oc3, od3, .func (PySem.W.fnOf "holds" "holds" (defArgs s_holds) (defBody s_holds) (defScope s_holds) .none kV3 dc3 pm3 an3 cd3 ct3), sl3⟩) (c3 : PySem.W.codeIn K cd3 "holds" = true) (k3 : PySem.W.keepIn K (.ref f3) = true)
    (a4 : PySem.W.nsIn K mainGlobals "least_numbers" = some (some (.ref f4))) (l4 : K.lookup f4 = some ⟨oc4, od4, .func (PySem.W.fnOf "least_numbers" "least_numbers" (defArgs s_least_numbers) (defBody s_least_numbers) (defScope s_least_numbers) .none kV4 dc4 pm4 an4 cd4 ct4), sl4⟩) (c4 : PySem.W.codeIn K cd4 "least_numbers" = true) (k4 : PySem.W.keepIn K (.ref f4) = true)
    (a5 : PySem.W.nsIn K mainGlobals "least_above" = some (some (.ref f5))) (l5 : K.lookup f5 = some ⟨oc5, od5, .func (PySem.W.fnOf "least_above" "least_above" (defArgs s_least_above) (defBody s_least_above) (defScope s_least_above) .none kV5 dc5 pm5 an5 cd5 ct5), sl5⟩) (c5 : PySem.W.codeIn K cd5 "least_above" = true) (k5 : PySem.W.keepIn K (.ref f5) = true)
    (a6 : PySem.W.nsIn K mainGlobals "check_bounds" = some (some (.ref f6))) (l6 : K.lookup f6 = some ⟨oc6, od6, .func (PySem.W.fnOf "check_bounds" "check_bounds" (defArgs s_check_bounds) (defBody s_check_bounds) (defScope s_check_bounds) .none kV6 dc6 pm6 an6 cd6 ct6), sl6⟩) (c6 : PySem.W.codeIn K cd6 "check_bounds" = true) (k6 : PySem.W.keepIn K (.ref f6) = true)
    (a7 : PySem.W.nsIn K mainGlobals "is_bound" = some (some (.ref f7))) (l7 : K.lookup f7 = some ⟨oc7, od7, .func (PySem.W.fnOf "is_bound" "is_bound" (defArgs s_is_bound) (defBody s_is_bound) (defScope s_is_bound) .none kV7 dc7 pm7 an7 cd7 ct7), sl7⟩) (c7 : PySem.W.codeIn K cd7 "is_bound" = true) (k7 : PySem.W.keepIn K (.ref f7) = true)
    (a8 : PySem.W.nsIn K mainGlobals "_law_pool" = some (some (.ref f8))) (l8 : K.lookup f8 = some ⟨oc8, od8, .func (PySem.W.fnOf "_law_pool" "_law_pool" (defArgs s__law_pool) (defBody s__law_pool) (defScope s__law_pool) .none kV8 dc8 pm8 an8 cd8 ct8), sl8⟩) (c8 : PySem.W.codeIn K cd8 "_law_pool" = true) (k8 : PySem.W.keepIn K (.ref f8) = true)
    (a9 : PySem.W.nsIn K mainGlobals "_law_draw" = some (some (.ref f9))) (l9 : K.lookup f9 = some ⟨oc9, od9, .func (PySem.W.fnOf "_law_draw" "_law_draw" (defArgs s__law_draw) (defBody s__law_draw) (defScope s__law_draw) .none kV9 dc9 pm9 an9 cd9 ct9), sl9⟩) (c9 : PySem.W.codeIn K cd9 "_law_draw" = true) (k9 : PySem.W.keepIn K (.ref f9) = true)
    (a10 : PySem.W.nsIn K mainGlobals "_law_lifted" = some (some (.ref f10))) (l10 : K.lookup f10 = some ⟨oc10, od10, .func (PySem.W.fnOf "_law_lifted" "_law_lifted" (defArgs s__law_lifted) (defBody s__law_lifted) (defScope s__law_lifted) .none kV10 dc10 pm10 an10 cd10 ct10), sl10⟩) (c10 : PySem.W.codeIn K cd10 "_law_lifted" = true) (k10 : PySem.W.keepIn K (.ref f10) = true)
    (a11 : PySem.W.nsIn K mainGlobals "_law_bounds" = some (some (.ref f11))) (l11 : K.lookup f11 = some ⟨oc11, od11, .func (PySem.W.fnOf "_law_bounds" "_law_bounds" (defArgs s__law_bounds) (defBody s__law_bounds) (defScope s__law_bounds) .none kV11 dc11 pm11 an11 cd11 ct11), sl11⟩) (c11 : PySem.W.codeIn K cd11 "_law_bounds" = true) (k11 : PySem.W.keepIn K (.ref f11) = true)
    (a12 : PySem.W.nsIn K mainGlobals "_law_grounded" = some (some (.ref f12))) (l12 : K.lookup f12 = some ⟨oc12, od12, .func (PySem.W.fnOf "_law_grounded" "_law_grounded" (defArgs s__law_grounded) (defBody s__law_grounded) (defScope s__law_grounded) .none kV12 dc12 pm12 an12 cd12 ct12), sl12⟩) (c12 : PySem.W.codeIn K cd12 "_law_grounded" = true) (k12 : PySem.W.keepIn K (.ref f12) = true)
    (a13 : PySem.W.nsIn K mainGlobals "_law_fulfilled" = some (some (.ref f13))) (l13 : K.lookup f13 = some ⟨oc13, od13, .func (PySem.W.fnOf "_law_fulfilled" "_law_fulfilled" (defArgs s__law_fulfilled) (defBody s__law_fulfilled) (defScope s__law_fulfilled) .none kV13 dc13 pm13 an13 cd13 ct13), sl13⟩) (c13 : PySem.W.codeIn K cd13 "_law_fulfilled" = true) (k13 : PySem.W.keepIn K (.ref f13) = true)
    (a14 : PySem.W.nsIn K mainGlobals "_law_judged_right" = some (some (.ref f14))) (l14 : K.lookup f14 = some ⟨oc14, od14, .func (PySem.W.fnOf "_law_judged_right" "_law_judged_right" (defArgs s__law_judged_right) (defBody s__law_judged_right) (defScope s__law_judged_right) .none kV14 dc14 pm14 an14 cd14 ct14), sl14⟩) (c14 : PySem.W.codeIn K cd14 "_law_judged_right" = true) (k14 : PySem.W.keepIn K (.ref f14) = true)
    (a15 : PySem.W.nsIn K mainGlobals "_law_right" = some (some (.ref f15))) (l15 : K.lookup f15 = some ⟨oc15, od15, .func (PySem.W.fnOf "_law_right" "_law_right" (defArgs s__law_right) (defBody s__law_right) (defScope s__law_right) .none kV15 dc15 pm15 an15 cd15 ct15), sl15⟩) (c15 : PySem.W.codeIn K cd15 "_law_right" = true) (k15 : PySem.W.keepIn K (.ref f15) = true)
    (a16 : PySem.W.nsIn K mainGlobals "law" = some (some (.ref f16))) (l16 : K.lookup f16 = some ⟨oc16, od16, .func (PySem.W.fnOf "law" "law" (defArgs s_law) (defBody s_law) (defScope s_law) .none kV16 dc16 pm16 an16 cd16 ct16), sl16⟩) (c16 : PySem.W.codeIn K cd16 "law" = true) (k16 : PySem.W.keepIn K (.ref f16) = true)
    (v0 : PySem.W.nsIn K mainGlobals "MOST_NUMBERS" = some (some (.int 50 tk0)))
    (v1 : PySem.W.nsIn K mainGlobals "MOST_BOUNDS" = some (some (.int 400 tk1)))
    (z0 : PySem.W.nsIn K mainGlobals "len" = some none)
    (z1 : PySem.W.nsIn K mainGlobals "abs" = some none)
    (z2 : PySem.W.nsIn K mainGlobals "max" = some none)
    (z3 : PySem.W.nsIn K mainGlobals "min" = some none)
    (z4 : PySem.W.nsIn K mainGlobals "sum" = some none)
    (z5 : PySem.W.nsIn K mainGlobals "repr" = some none)
    (z6 : PySem.W.nsIn K mainGlobals "isinstance" = some none)
    (z7 : PySem.W.nsIn K mainGlobals "all" = some none)
    (z8 : PySem.W.nsIn K mainGlobals "list" = some none)
    (z9 : PySem.W.nsIn K mainGlobals "tuple" = some none)
    (z10 : PySem.W.nsIn K mainGlobals "int" = some none)
    (z11 : PySem.W.nsIn K mainGlobals "bool" = some none)
    (z12 : PySem.W.nsIn K mainGlobals "range" = some none)
    (z13 : PySem.W.nsIn K mainGlobals "enumerate" = some none)
    (z14 : PySem.W.nsIn K mainGlobals "sorted" = some none) :
    ∃ fd : FuncData, (∀ (s : Shared) (u : Value), BindsTo s fd ⟨[u], []⟩ [("_law_script", u)]) ∧ ∀ base : Heap, K.In base → base.Ns mainGlobals mg → FnG l.prog w K mg base 9 fa fd ["_law_script"] (spLaw K) := by
  have e := hfa.symm.trans (PySem.W.mg_of X G a16)
  cases e
  have A_is_an_integer : At K mg "is_an_integer" s_is_an_integer ["value"] := at_mk X G a0 l0 c0 k0 fun _ _ _ _ _ _ us hl => match us, hl with | [_], _ => rfl
  have A_is_between : At K mg "is_between" s_is_between ["value", "low", "high"] := at_mk X G a1 l1 c1 k1 fun _ _ _ _ _ _ us hl => match us, hl with | [_, _, _], _ => rfl
  have A_is_bounds : At K mg "is_bounds" s_is_bounds ["value", "many"] := at_mk X G a2 l2 c2 k2 fun _ _ _ _ _ _ us hl => match us, hl with | [_, _], _ => rfl
  have A_holds : At K mg "holds" s_holds ["many", "bounds", "numbers"] := at_mk X G a3 l3 c3 k3 fun _ _ _ _ _ _ us hl => match us, hl with | [_, _, _], _ => rfl
  have A_least_numbers : At K mg "least_numbers" s_least_numbers ["many", "bounds"] := at_mk X G a4 l4 c4 k4 fun _ _ _ _ _ _ us hl => match us, hl with | [_, _], _ => rfl
  have A_least_above : At K mg "least_above" s_least_above ["numbers", "bounds"] := at_mk X G a5 l5 c5 k5 fun _ _ _ _ _ _ us hl => match us, hl with | [_, _], _ => rfl
  have A_check_bounds : At K mg "check_bounds" s_check_bounds ["many", "bounds"] := at_mk X G a6 l6 c6 k6 fun _ _ _ _ _ _ us hl => match us, hl with | [_, _], _ => rfl
  have A_is_bound : At K mg "is_bound" s_is_bound ["value", "many"] := at_mk X G a7 l7 c7 k7 fun _ _ _ _ _ _ us hl => match us, hl with | [_, _], _ => rfl
  have A__law_pool : At K mg "_law_pool" s__law_pool ["_law_script", "_law_at"] := at_mk X G a8 l8 c8 k8 fun _ _ _ _ _ _ us hl => match us, hl with | [_, _], _ => rfl
  have A__law_draw : At K mg "_law_draw" s__law_draw ["_law_pool_here", "_law_many"] := at_mk X G a9 l9 c9 k9 fun _ _ _ _ _ _ us hl => match us, hl with | [_, _], _ => rfl
  have A__law_lifted : At K mg "_law_lifted" s__law_lifted ["_law_bounds_here", "_law_begun"] := at_mk X G a10 l10 c10 k10 fun _ _ _ _ _ _ us hl => match us, hl with | [_, _], _ => rfl
  have A__law_bounds : At K mg "_law_bounds" s__law_bounds ["_law_pool_here", "_law_many", "_law_size"] := at_mk X G a11 l11 c11 k11 fun _ _ _ _ _ _ us hl => match us, hl with | [_, _, _], _ => rfl
  have A__law_grounded : At K mg "_law_grounded" s__law_grounded ["_law_numbers", "_law_bounds_here"] := at_mk X G a12 l12 c12 k12 fun _ _ _ _ _ _ us hl => match us, hl with | [_, _], _ => rfl
  have A__law_fulfilled : At K mg "_law_fulfilled" s__law_fulfilled ["_law_bounds_here", "_law_numbers"] := at_mk X G a13 l13 c13 k13 fun _ _ _ _ _ _ us hl => match us, hl with | [_, _], _ => rfl
  have A__law_judged_right : At K mg "_law_judged_right" s__law_judged_right ["_law_pool_here", "_law_many", "_law_bounds_here", "_law_numbers"] := at_mk X G a14 l14 c14 k14 fun _ _ _ _ _ _ us hl => match us, hl with | [_, _, _, _], _ => rfl
  have A__law_right : At K mg "_law_right" s__law_right ["_law_pool_here", "_law_many", "_law_bounds_here"] := at_mk X G a15 l15 c15 k15 fun _ _ _ _ _ _ us hl => match us, hl with | [_, _, _], _ => rfl
  have A_law : At K mg "law" s_law ["_law_script"] := at_mk X G a16 l16 c16 k16 fun _ _ _ _ _ _ us hl => match us, hl with | [_], _ => rfl
  have m_MOST_NUMBERS := PySem.W.mg_of X G v0
  have m_MOST_BOUNDS := PySem.W.mg_of X G v1
  have bt : Bt mg := ⟨PySem.W.mg_none_of X G z0, PySem.W.mg_none_of X G z1, PySem.W.mg_none_of X G z2, PySem.W.mg_none_of X G z3, PySem.W.mg_none_of X G z4, PySem.W.mg_none_of X G z5, PySem.W.mg_none_of X G z6, PySem.W.mg_none_of X G z7, PySem.W.mg_none_of X G z8, PySem.W.mg_none_of X G z9, PySem.W.mg_none_of X G z10, PySem.W.mg_none_of X G z11, PySem.W.mg_none_of X G z12, PySem.W.mg_none_of X G z13, PySem.W.mg_none_of X G z14⟩
  refine ⟨PySem.W.fnOf "law" "law" (defArgs s_law) (defBody s_law) (defScope s_law) .none kV16 dc16 pm16 an16 cd16 ct16, fun s u => .of_eq rfl, fun base _ _ => ?_⟩
  have C1 := ok_is_an_integer (P := l.prog) (w := w) (base := base) bt A_is_an_integer
  have C1i := intOf C1
  have C2 := ok_is_between A_is_between C1i
  have C3 := ok_is_bound bt A_is_bound C1i C2
  have C4 := ok_is_bounds bt _ _ m_MOST_NUMBERS m_MOST_BOUNDS A_is_bounds C2 C3
  have C5 := ok_check_bounds bt _ m_MOST_NUMBERS A_check_bounds C2 C4
  have C6 := ok_least_above (P := l.prog) (w := w) (base := base) bt A_least_above
  have C11 := ok_least_numbers bt A_least_numbers C5 C6
  have C12 := ok_holds bt A_holds C5 C1
  have D1 := ok__law_draw (P := l.prog) (w := w) (base := base) A__law_draw
  have D2 := ok__law_pool (P := l.prog) (w := w) (base := base) bt A__law_pool
  have D3 := ok__law_lifted (P := l.prog) (w := w) (base := base) bt A__law_lifted
  have D4 := ok__law_bounds bt A__law_bounds D1
  have D5 := ok__law_grounded (P := l.prog) (w := w) (base := base) bt A__law_grounded
  have D6 := ok__law_fulfilled (P := l.prog) (w := w) (base := base) bt A__law_fulfilled
  have D7 := ok__law_judged_right bt A__law_judged_right D1 C12 D6
  have D8 := ok__law_right bt A__law_right D3 C11 C4 C12 D6 D5 D7
  exact ok_law bt (fun_mk l16 c16 k16) D2 D1 D4 D8 C11
end K35
open PySem PySem.W PyProof.Rows
set_option maxHeartbeats 0 in
theorem PySem.Challenge.cw_holdtap_k35_least_numbers_holds : PySem.Challenge.rw_holdtap_k35_least_numbers.Holds := by
  w_on; o_law; k_head; (case hw => w_witness2)
  k_fill
  refine Gd.walkG (l := PySem.Challenge.rw_holdtap_k35_least_numbers) (n := 63) (k := 9) (x := "_law_script") (sp := fun K => K35.spLaw K) rfl (by decide) rfl ⟨rfl, by decide, by decide⟩ (fun w h Y => PySem.W.kIn_of Y) ?F (fun _ _ a ns hl hS => ⟨a, ns, rfl, hS, hl, fun _ => rfl⟩)
  case F =>
    intro w mg fa h KX G hmg
    refine' K35.all_mk KX G hmg ?a0 ?l0 ?c0 ?k0 ?a1 ?l1 ?c1 ?k1 ?a2 ?l2 ?c2 ?k2 ?a3 ?l3 ?c3 ?k3 ?a4 ?l4 ?c4 ?k4 ?a5 ?l5 ?c5 ?k5 ?a6 ?l6 ?c6 ?k6 ?a7 ?l7 ?c7 ?k7 ?a8 ?l8 ?c8 ?k8 ?a9 ?l9 ?c9 ?k9 ?a10 ?l10 ?c10 ?k10 ?a11 ?l11 ?c11 ?k11 ?a12 ?l12 ?c12 ?k12 ?a13 ?l13 ?c13 ?k13 ?a14 ?l14 ?c14 ?k14 ?a15 ?l15 ?c15 ?k15 ?a16 ?l16 ?c16 ?k16 ?v0 ?v1 ?z0 ?z1 ?z2 ?z3 ?z4 ?z5 ?z6 ?z7 ?z8 ?z9 ?z10 ?z11 ?z12 ?z13 ?z14
    (case a0 => k_is); (case l0 => k_is); (case c0 => k_is); (case k0 => k_is); (case a1 => k_is); (case l1 => k_is); (case c1 => k_is); (case k1 => k_is); (case a2 => k_is); (case l2 => k_is); (case c2 => k_is); (case k2 => k_is); (case a3 => k_is); (case l3 => k_is); (case c3 => k_is); (case k3 => k_is); (case a4 => k_is); (case l4 => k_is); (case c4 => k_is); (case k4 => k_is); (case a5 => k_is); (case l5 => k_is); (case c5 => k_is); (case k5 => k_is); (case a6 => k_is); (case l6 => k_is); (case c6 => k_is); (case k6 => k_is); (case a7 => k_is); (case l7 => k_is); (case c7 => k_is); (case k7 => k_is); (case a8 => k_is); (case l8 => k_is); (case c8 => k_is); (case k8 => k_is); (case a9 => k_is); (case l9 => k_is); (case c9 => k_is); (case k9 => k_is); (case a10 => k_is); (case l10 => k_is); (case c10 => k_is); (case k10 => k_is); (case a11 => k_is); (case l11 => k_is); (case c11 => k_is); (case k11 => k_is); (case a12 => k_is); (case l12 => k_is); (case c12 => k_is); (case k12 => k_is); (case a13 => k_is); (case l13 => k_is); (case c13 => k_is); (case k13 => k_is); (case a14 => k_is); (case l14 => k_is); (case c14 => k_is); (case k14 => k_is); (case a15 => k_is); (case l15 => k_is); (case c15 => k_is); (case k15 => k_is); (case a16 => k_is); (case l16 => k_is); (case c16 => k_is); (case k16 => k_is); (case v0 => k_is); (case v1 => k_is); (case z0 => k_is); (case z1 => k_is); (case z2 => k_is); (case z3 => k_is); (case z4 => k_is); (case z5 => k_is); (case z6 => k_is); (case z7 => k_is); (case z8 => k_is); (case z9 => k_is); (case z10 => k_is); (case z11 => k_is); (case z12 => k_is); (case z13 => k_is); (case z14 => k_is)

