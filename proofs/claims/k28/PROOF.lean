import PyProof.Rows.All
import Wide.All
import OpenK.AllK
import Wide.FinOn
import HandS.ForMost
import HandS.Walk
import HandS.Wide
import HandS.Style
import HandS.More
import HandS.SetFor
import HandS.SortInts
import HandS.IsInst
import HandS.Codes
import PyProof.ReprRoads
import HandS.Defaults
import KE.DataMinMax
import HandS.SortKw
import HandS.Deep
import HandS.Strs
import HandS.ListItems
import KE.KDictList
import HandS.Conv
import HandS.Exc
import PySem.Challenge.RW_holdtap_k28_whole_each_down_leaves_once
set_option Elab.async false
set_option linter.all false
set_option maxRecDepth 100000
set_option maxHeartbeats 4000000
/-! A layer over the hand layer in which a def knows that no display is being shown (A.guards): repr needs it. -/
namespace Gd
open PySem PySem.Spec PyProof.Rows L2

/-- what a def promises where no guard stands -/
structure FnG (P : Program) (w : World) (K : PySem.W.Frag) (mg : Str → Option Value) (base : Heap)
    (k : Nat) (f : Addr) (fd : FuncData) (ps : List Str) (sp : Sp) : Prop where
  len : ∀ vs H Q E, sp vs H Q E → vs.length = ps.length
  go : ∀ (A : Around) (outer : List Env) (s : Shared) (H : Hp) (args : Args) (us : List Value) (vs : List V) (Q : VK),
    A.guards = some [] → Room k A → Env0 P w K mg base A outer s H → BindsTo s fd args (ps.zip us) →
    Vals vs us → sp vs H Q E0 →
    codeAny (model P w) A (.call (.ref f) args) (CR CX0 outer P w H s Q E0) s

theorem deep_guards {A : Around} {e : Env} (h : A.guards = some []) : (A.deeper e).guards = some [] := h

section
variable {P : Program} {w : World} {K : PySem.W.Frag} {mg : Str → Option Value} {base : Heap}
theorem fnG {x qual : Str} {st : Stmt} {f : Addr} {fd : FuncData} {N ps : List Str} {k : Nat} {sp : Sp}
    (F : Fun K x qual st f fd) (S : FnScope N ps (defScope st))
    (len : ∀ vs H Q E, sp vs H Q E → vs.length = ps.length)
    (hb : ∀ (cdv : Value) (A : Around) (outer : List Env) (s : Shared) (H : Hp) (vs : List V) (Q : VK),
      A.guards = some [] → Room k (A.deeper (envOfC qual (defScope st) s.heap.objs.size f cdv)) → sp vs H Q E0 →
      ∃ t, PSs (cxOf CX0 P w K mg base N qual (defScope st) f cdv A outer s H E0).nox (defBody st) t ∧
        t { nx := fun _ H' => Q .non H', rt := Q } (start N vs) H) :
    FnG P w K mg base (k + 1) f fd ps sp := by
  obtain ⟨oc, od, kV, doc, pm, an, cdv, ct, osl, rfl, lk, hcd⟩ := F.ex
  refine ⟨len, fun A outer s H args us vs Q hg hr e0 bt rv hsp => ?_⟩
  have kin : K.In s.heap := e0.mod.kin.keeps (fun b o e => (e0.bs b o e).1)
  have nol : s.heap.NoLimit := e0.mod.nolimit.keeps (fun b o e => (e0.bs b o e).1)
  have pk : ((ps.zip us).all fun y => (defScope st).names.lookup y.1 == some NameKind.local ||
      (defScope st).names.lookup y.1 == some NameKind.cell) = true := by
    rw [List.all_eq_true]
    rintro ⟨n, v⟩ hm
    have hp := S.par n (List.of_mem_zip hm).1
    rcases hp with e | e <;> simp [e]
  refine Att.call_fn kin nol lk hcd hr.depth bt pk (fun s1 ic => ?_) S.co S.gen S.kind
  obtain ⟨t, ht, hq⟩ := hb cdv A outer s H vs Q hg (hr.deeper _) hsp
  have J := inv_start (CX := CX0) (E := E0) (P := P) (w := w) (mg := mg) (base := base) S hr.hd e0 (len _ _ _ _ hsp) rv ic
  have J' := J.wish (fun _ _ => False)
  refine wpAny_mono (ht.run [] s1 (start N vs) H _ J' hq) (fun fl s' sp' => ?_) (fun _ _ z => z.elim)
  match fl, sp' with
  | .next, ⟨σ', H', L, q⟩ => exact ⟨.non, H', L.os, L.bare, L.base, L.hok, rfl, q⟩
  | .ret u, ⟨v, σ', H', L, rr, q⟩ => exact ⟨v, H', L.os, L.bare, L.base, L.hok, rr, q⟩
  | .brk, ⟨_, _, _, q⟩ => exact False.elim q
  | .cont, ⟨_, _, _, q⟩ => exact False.elim q
end

/-- a def that may be called by its name -/
structure Cl (P : Program) (w : World) (K : PySem.W.Frag) (mg : Str → Option Value) (base : Heap) (k : Nat) (x : Str) (sp : Sp) : Prop where
  ex : ∃ (f : Addr) (fd : FuncData) (ps : List Str), FnG P w K mg base k f fd ps sp ∧ mg x = some (.ref f) ∧
    PySem.W.keepIn K (.ref f) = true ∧ Binds K fd ps []
/-- where a def stands: its text, its name in the module -/
structure At (K : PySem.W.Frag) (mg : Str → Option Value) (x : Str) (st : Stmt) (ps : List Str) : Prop where
  ex : ∃ (f : Addr) (fd : FuncData), Fun K x x st f fd ∧ mg x = some (.ref f) ∧ Binds K fd ps []
section
variable {P : Program} {w : World} {K : PySem.W.Frag} {mg : Str → Option Value} {base : Heap}
theorem clG {x : Str} {st : Stmt} {N ps : List Str} {k : Nat} {sp : Sp} (a : At K mg x st ps) (S : FnScope N ps (defScope st))
    (len : ∀ vs H Q E, sp vs H Q E → vs.length = ps.length)
    (hb : ∀ (f : Addr) (cdv : Value) (A : Around) (outer : List Env) (s : Shared) (H : Hp) (vs : List V) (Q : VK),
      A.guards = some [] → Room k (A.deeper (envOfC x (defScope st) s.heap.objs.size f cdv)) → sp vs H Q E0 →
      ∃ t, PSs (cxOf CX0 P w K mg base N x (defScope st) f cdv A outer s H E0).nox (defBody st) t ∧
        t { nx := fun _ H' => Q .non H', rt := Q } (start N vs) H) : Cl P w K mg base (k + 1) x sp := by
  obtain ⟨f, fd, F, hm, b⟩ := a.ex
  exact ⟨f, fd, ps, fnG F S len (hb f), hm, F.kp, b⟩
theorem Cl.imp {x : Str} {k : Nat} {sp sp' : Sp} (c : Cl P w K mg base k x sp) (h : ∀ vs H Q E, sp' vs H Q E → sp vs H Q E) :
    Cl P w K mg base k x sp' := by
  obtain ⟨f, fd, ps, F, hm, kp, b⟩ := c.ex
  exact ⟨f, fd, ps, ⟨fun vs H Q E z => F.len vs H Q E (h _ _ _ _ z), fun A o s H as us vs Q g r e bt rv z => F.go A o s H as us vs Q g r e bt rv (h _ _ _ _ z)⟩, hm, kp, b⟩
end
section
variable {X : Cx} {k j : Nat} {x : Str} {sp : Sp} {p pos : Pos} {e : Expr} {es : List Expr} {t : TA}
theorem run_cl {f : Addr} {fd : FuncData} {ps : List Str} {pins : List (Addr × Obj)} {σ : L2.St} {H : Hp} {s : Shared} {Q : VK} {us : List Value} {vs : List V}
    (F : FnG X.prog X.w X.K X.mg X.base k f fd ps sp) (hg : X.A.guards = some []) (hr : Room k X.A) (b : Binds X.K fd ps [])
    (I : Inv X pins σ H s) (rv : Vals vs us) (h : sp vs H Q E0) : wpAny (model X.prog X.w) X.A (call (.ref f) us) (EP X pins σ Q) X.xe s := by
  have hl : us.length = ps.length := rv.length.symm.trans (F.len _ _ _ _ h)
  have bt := b s us I.kIn (by simpa using hl)
  rw [List.append_nil] at bt
  refine wpAny_call (codeAny_mono (F.go X.A X.stack s H ⟨us, []⟩ us vs Q hg hr I.env0 bt rv h) (fun r s' hq => ?_))
  match r, hq with
  | .ok (.ret u), hq => exact I.after hq
  | .ok .next, hq => exact False.elim hq
  | .ok .brk, hq => exact False.elim hq
  | .ok .cont, hq => exact False.elim hq
  | .error _, hq => exact False.elim hq
/-- f(e, ..) -/
theorem pe_cl (c : Cl X.prog X.w X.K X.mg X.base k x sp) (hg : X.A.guards = some []) (hr : Room j X.A) (hk : k ≤ j) (gl : Gl X x) (ha : PA X (e :: es) t)
    (hd : (x == ("__debug__" : Str)) = false := by decide)
    (he : starEach (e :: es) X.env = (false, eval e X.env) :: starEach es X.env := by rfl)
    (hp : (backTo pos (starEach es X.env)).any (·.1) = false := by rfl) :
    PE X (.Call (.Name x p) (e :: es) [] pos) (tCall sp [] E0 t) := by
  obtain ⟨f, fd, ps, F, hm, kp, b⟩ := c.ex
  refine ⟨fun pins s σ H Q I h => wpAny_Call_Name_kw (ld_glob I gl hm (PySem.W.callWith_K (h₀ := X.base) I.ok.mod.kin kp ?_ he hp) hd)⟩
  refine thn (ha.run pos pins s σ H _ I h) (fun us s1 z => ?_)
  obtain ⟨vs, H1, I1, rv, q⟩ := z
  exact ⟨I1.kIn, run_cl F hg (hr.mono hk) b I1 rv (by simpa using q)⟩
/-- f() -/
theorem pe_cl0 (c : Cl X.prog X.w X.K X.mg X.base k x sp) (hg : X.A.guards = some []) (hr : Room j X.A) (hk : k ≤ j) (gl : Gl X x)
    (hd : (x == ("__debug__" : Str)) = false := by decide) :
    PE X (.Call (.Name x p) [] [] pos) (tCall sp [] E0 tNil) := by
  obtain ⟨f, fd, ps, F, hm, kp, b⟩ := c.ex
  refine ⟨fun pins s σ H Q I h => wpAny_Call_Name_kw (ld_glob I gl hm (PySem.W.callWith_K0 I.kIn kp ?_) hd)⟩
  exact run_cl (us := []) F hg (hr.mono hk) b I .nil h
end

/-! ### rules that lack: a great power, repr of data -/
def CPowW (i j : Int) : Prop := 0 ≤ j ∧ (Builtin.Int.intBits i : Int) * j ≤ 2 ^ 27
theorem op_powW {X : Cx} : OpR X (binaryOp .Pow) (rI CPowW fun i j => .int (i ^ j.toNat)) := opI fun _ _ _ _ _ _ _ hc q => pow_int hc.1 hc.2 q
theorem bits_le {i : Int} {n : Nat} (h : i.natAbs < 2 ^ n) : Builtin.Int.intBits i ≤ n := by
  unfold Builtin.Int.intBits
  split
  · exact Nat.zero_le _
  · rename_i hz
    have h0 : i.natAbs ≠ 0 := by
      intro z
      apply hz
      have : i = 0 := Int.natAbs_eq_zero.mp z
      simp [this]
    have := (Nat.log2_lt h0).mpr h
    omega
theorem powW {i : Int} {n k : Nat} (h : i.natAbs < 2 ^ n) (hs : n * k ≤ 2 ^ 27) : CPowW i (k : Int) := by
  refine ⟨by omega, ?_⟩
  have b := bits_le h
  have m : Builtin.Int.intBits i * k ≤ 2 ^ 27 := Nat.le_trans (Nat.mul_le_mul_right k b) hs
  exact_mod_cast m

/-- repr(x), x a list or a tuple of data -/
def rRep (K : PySem.W.Frag) : List V → Hp → VK → Prop := fun xs H Q => ∃ (a : Addr) (d : PyData), xs = [.ref a] ∧ Dp K H (.ref a) d ∧
  d.showable = true ∧ d.depth ≤ 50 ∧ d.shown.length ≤ sizeLine ∧ Q (.str d.shown) H
mutual
theorem dp_nodict {K : PySem.W.Frag} {H : Hp} : ∀ (d : PyData) (v : V), Dp K H v d → d.hasDict = false
  | .none, _, _ => rfl
  | .bool _, _, _ => rfl
  | .int _, _, _ => rfl
  | .str _, _, _ => rfl
  | .list ds, _, h => by
    cases h with
    | lst _ ha => exact dps_nodict ds _ ha
  | .tuple ds, _, h => by
    cases h with
    | tup _ ha => exact dps_nodict ds _ ha
  | .dict _, _, h => by cases h
theorem dps_nodict {K : PySem.W.Frag} {H : Hp} : ∀ (ds : List PyData) (vs : List V), DpAll K H vs ds → PyData.hasDictAll ds = false
  | [], _, _ => rfl
  | d :: ds, _, h => by
    cases h with
    | cons h1 h2 =>
      show (d.hasDict || PyData.hasDictAll ds) = false
      rw [dp_nodict d _ h1, dps_nodict ds _ h2]
      rfl
end
theorem call_rep {X : Cx} {k : Nat} (hg : X.A.guards = some []) (hr : Room k X.A) : CallR X (.builtin "repr") (rRep X.K) := by
  intro pins s σ H xs us Q I r h
  obtain ⟨a, d, rfl, hd, hs, hdp, hz, q⟩ := h
  obtain ⟨u, rfl, ru⟩ := vals1 r
  obtain ⟨as, rd⟩ := Dp.reads I d (.ref a) u hd ru
  cases ru
  have hu := hr.un
  exact repr_of_reads' rd hs (PyData.noDict_hsm (dp_nodict d _ hd)) hg (by omega) (fun _ _ e => e)
    (fun h' t tk hk => ⟨.str d.shown, H, I.kept (t' := tk) hk, ⟨t, rfl⟩, q⟩) hz

/-! ### the law's own call -/
section
variable {P : Program} {w : World} {K : PySem.W.Frag} {mg mb : Str → Option Value} {k : Nat} {fa a : Addr} {fd : FuncData} {x : Str} {sp : Sp} {s₁ : Shared} {vs : List Value} {ns : List Int}
/-- the heap as the caller has it, H what is tracked of it: at most the script -/
theorem top_run (KX : K.In s₁.heap) (gl : s₁.heap.Ns mainGlobals mg) (bl : s₁.heap.Ns builtinsNs mb) (bb : ∀ y : Str, y ≠ "__name__" → mb y = bootBuiltins y)
    (nol : s₁.heap.NoLimit) (ng : s₁.gens = #[]) (oa : s₁.heap.get? a = some { cls := .type "list", data := .seq vs.toArray }) (hr : Room k callerA)
    (F : ∀ base : Heap, K.In base → base.Ns mainGlobals mg → FnG P w K mg base k fa fd [x] sp)
    (bt : ∀ (s : Shared) (u : Value), BindsTo s fd ⟨[u], []⟩ [(x, u)]) {H : Hp} (only : Only H) (hok : HOk P w H s₁.heap)
    (at_a : ∀ b, H b ≠ none → b = a ∧ K.lookup a = none) (h : sp [.ref a] H (fun v _ => v = .bl true) E0) :
    codeAny (model P w) callerA (.call (.ref fa) ⟨[.ref a], []⟩)
      (fun r s' => r = .ok (.ret (.bool true)) ∧ OldK s₁.heap s'.heap ∧ s'.os = s₁.os ∧ AllBare s'.gens) s₁ := by
  have free : ∀ {b : Addr} {o : Obj}, s₁.heap.get? b = some o → (b = a → ∃ es ep, o.data = .dict es ep) → H b = none := by
    intro b o e d
    rcases Classical.em (H b = none) with z | z
    · exact z
    · obtain ⟨rfl, _⟩ := at_a b z
      obtain ⟨es, ep, hd⟩ := d rfl
      rw [oa] at e
      cases e
      cases hd
  have nsAt : ∀ {b : Addr} {m : Str → Option Value}, s₁.heap.Ns b m → (hidT s₁.heap H).Ns b m := by
    intro b m z
    obtain ⟨o, es, ep, e, d, r⟩ := z
    exact ⟨o, es, ep, hidT_get e (free e fun _ => ⟨es, ep, d⟩), d, r⟩
  have KB : K.In (hidT s₁.heap H) := by
    intro b o e
    refine hidT_get (KX b o e) ?_
    rcases Classical.em (H b = none) with z | z
    · exact z
    · obtain ⟨rfl, q⟩ := at_a b z
      rw [q] at e
      cases e
  obtain ⟨ml, l1, l2⟩ := nol
  have M : Mod K mg (hidT s₁.heap H) := ⟨KB, nsAt gl, ⟨mb, nsAt bl, bb⟩, ⟨ml, nsAt l1, l2⟩⟩
  have E : Env0 P w K mg (hidT s₁.heap H) callerA [] s₁ H := by
    refine ⟨rfl, M, fun b o e => of_hidT e, Nat.le_of_eq (hidT_size _ _), True.intro, fun b hb => ?_, hok, .of_eq ng⟩
    exact nomatch (show b ∈ ([] : List Addr) from hb)
  refine codeAny_mono ((F _ KB (nsAt gl)).go callerA [] s₁ H ⟨[.ref a], []⟩ [.ref a] [.ref a] _ rfl hr E (bt s₁ (.ref a)) (.cons rfl .nil) h) ?_
  intro r s' z
  match r, z with
  | .ok .next, z => exact False.elim z
  | .ok .brk, z => exact False.elim z
  | .ok .cont, z => exact False.elim z
  | .error _, z => exact False.elim z
  | .ok (.ret u), ⟨v, H', os, bare, un, hok', rv, q⟩ =>
    have q : v = .bl true := q
    subst q
    have ru : u = Value.bool true := rv
    subst ru
    refine ⟨rfl, OldK.of_keep fun b o e => ?_, os, bare⟩
    rcases only b with n | ⟨ob, xs, n⟩
    · exact un.keep b o e n (fun m => nomatch (show b ∈ ([] : List Addr) from m)) (fun m => nomatch m)
    · have f1 := hok b _ n
      have f2 := hok' b _ (un.frzs b ob _ n)
      have g1 : s₁.heap.get? b = some ob := f1.1
      have g2 : s'.heap.get? b = some ob := f2.1
      rw [e] at g1
      cases g1
      exact g2
theorem law_callG (KX : K.In s₁.heap) (gl : s₁.heap.Ns mainGlobals mg) (bl : s₁.heap.Ns builtinsNs mb) (bb : ∀ y : Str, y ≠ "__name__" → mb y = bootBuiltins y)
    (nol : s₁.heap.NoLimit) (ng : s₁.gens = #[]) (oa : s₁.heap.get? a = some { cls := .type "list", data := .seq vs.toArray }) (hi : IntsAre vs ns) (hl : ns.length ≤ sizeLine) (hr : Room k callerA)
    (F : ∀ base : Heap, K.In base → base.Ns mainGlobals mg → FnG P w K mg base k fa fd [x] sp)
    (bt : ∀ (s : Shared) (u : Value), BindsTo s fd ⟨[u], []⟩ [(x, u)])
    (hsp : ∀ H : Hp, Only H → SqL K H a (ns.map V.int) → sp [.ref a] H (fun v _ => v = .bl true) E0) :
    codeAny (model P w) callerA (.call (.ref fa) ⟨[.ref a], []⟩)
      (fun r s' => r = .ok (.ret (.bool true)) ∧ OldK s₁.heap s'.heap ∧ s'.os = s₁.os ∧ AllBare s'.gens) s₁ := by
  have rv := vals_ints hi
  have lenV := hi.length
  by_cases hk : K.lookup a = none
  · let H : Hp := fun b => if b = a then some (.frz { cls := .type "list", data := .seq vs.toArray } (.lst (ns.map V.int))) else none
    have Ha : H a = some (.frz { cls := .type "list", data := .seq vs.toArray } (.lst (ns.map V.int))) := if_pos rfl
    have Hn : ∀ {b : Addr}, b ≠ a → H b = none := fun h => if_neg h
    have only : Only H := by
      intro b
      by_cases e : b = a
      · subst e; exact .inr ⟨_, _, Ha⟩
      · exact .inl (Hn e)
    refine top_run KX gl bl bb nol ng oa hr F bt (H := H) only ?_ ?_ (hsp H only (.inl (.inr ⟨_, Ha⟩)))
    · intro b u z
      by_cases e : b = a
      · subst e
        rw [Ha] at z
        cases z
        exact ⟨oa, by rw [List.length_map]; exact hl, vs, _, rv, oa⟩
      · rw [Hn e] at z; cases z
    · intro b z
      by_cases e : b = a
      · exact ⟨e, hk⟩
      · exact absurd (Hn e) z
  · obtain ⟨o, ho⟩ := Option.ne_none_iff_exists'.mp hk
    have e := KX a o ho
    rw [oa] at e
    cases e
    have only : Only (fun _ => none) := fun _ => .inl rfl
    refine top_run KX gl bl bb nol ng oa hr F bt (H := fun _ => none) only (fun b u z => nomatch z) (fun b z => absurd rfl z) (hsp _ only (.inr ?_))
    exact ⟨_, vs.toArray, _, ho, rfl, rfl, rfl, by rw [List.size_toArray, lenV]; exact hl, by simpa using rv⟩
end
/-- what k_head leaves, from the promise of the law's def -/
theorem walkG {l : PySem.W.OpenLaw} {n k : Nat} {q : Program} {loose : List Str} {XP : (Str → Option Value) → Heap → Prop} {YP : World → Heap → Prop} {d : DefRec} {K : Params → PySem.W.Frag} {sp : PySem.W.Frag → Sp} {x : Str}
    (hn : l.most = some n) (hn2 : n ≤ sizeLine) (hdf : d.params.defaults = []) (hr : Room k callerA)
    (hY : ∀ (w : World) (h : Heap), YP w h → (K w.params).In h)
    (F : ∀ (w : World) (mg : Str → Option Value) (fa : Addr) (h : Heap), (K w.params).In h → h.Ns mainGlobals mg → mg d.name = some (.ref fa) →
      ∃ fd : FuncData, (∀ (s : Shared) (u : Value), BindsTo s fd ⟨[u], []⟩ [(x, u)]) ∧
        ∀ base : Heap, (K w.params).In base → base.Ns mainGlobals mg → FnG l.prog w (K w.params) mg base k fa fd [x] (sp (K w.params)))
    (hsp : ∀ (K : PySem.W.Frag) (H : Hp) (a : Addr) (ns : List Int), ns.length ≤ n → SqL K H a (ns.map V.int) →
      sp K [.ref a] H (fun v _ => v = .bl true) E0) :
    PySem.W.WalkO q loose XP YP l.row.toRowW d [] (fun f vs => PySem.call f vs) := by
  refine Att.attach_call hn hdf ?_
  intro w s₀ s₁ mg mb fa o pm cd doc a vs ns G Y ho hd hcd hmg oa hi hlen ng
  have KX := hY w _ Y
  obtain ⟨fd, bt, hF⟩ := F w mg fa _ KX G.T.g hmg
  exact law_callG KX G.T.g G.T.b G.T.builtins G.T.nolimit ng oa hi (Nat.le_trans hlen hn2) hr hF bt (fun H _ hS => hsp _ H a ns hlen hS)
end Gd

set_option Elab.async false
set_option linter.all false
set_option maxRecDepth 100000
set_option maxHeartbeats 4000000
/-! a def with defaults, called with all of its arguments, or with some of them -/
namespace Gd
open PySem PySem.Spec PyProof.Rows L2
theorem room65 {k : Nat} {A : Around} (r : Room k A) : A.units + 65 < cLine := by have := r.un; omega
/-- where a def with defaults stands; ds: the values that fill up -/
structure AtX (K : PySem.W.Frag) (mg : Str → Option Value) (x : Str) (st : Stmt) (ps : List Str) (ds : List Value) : Prop where
  ex : ∃ (f : Addr) (oc : Value) (od : Option Addr) (dV kV doc pm : Value) (an : Option Addr) (cdv ct : Value) (osl : Array (Option Value)),
    K.lookup f = some ⟨oc, od, .func (PySem.W.fnOf x x (defArgs st) (defBody st) (defScope st) dV kV doc pm an cdv ct), osl⟩ ∧ PySem.W.codeIn K cdv x = true ∧ PySem.W.keepIn K (.ref f) = true ∧ mg x = some (.ref f) ∧
    Binds K (PySem.W.fnOf x x (defArgs st) (defBody st) (defScope st) dV kV doc pm an cdv ct) ps ds
section
variable {P : Program} {w : World} {K : PySem.W.Frag} {mg : Str → Option Value} {base : Heap}
theorem clX {x : Str} {st : Stmt} {N ps : List Str} {k : Nat} {sp : Sp} (a : AtX K mg x st ps []) (S : FnScope N ps (defScope st))
    (len : ∀ vs H Q E, sp vs H Q E → vs.length = ps.length)
    (hb : ∀ (f : Addr) (cdv : Value) (A : Around) (outer : List Env) (s : Shared) (H : Hp) (vs : List V) (Q : VK),
      A.guards = some [] → Room k (A.deeper (envOfC x (defScope st) s.heap.objs.size f cdv)) → sp vs H Q E0 →
      ∃ t, PSs (cxOf CX0 P w K mg base N x (defScope st) f cdv A outer s H E0).nox (defBody st) t ∧
        t { nx := fun _ H' => Q .non H', rt := Q } (start N vs) H) : Cl P w K mg base (k + 1) x sp := by
  obtain ⟨f, oc, od, dV, kV, doc, pm, an, cdv, ct, osl, lk, hcd, kp, hm, bd⟩ := a.ex
  refine ⟨f, _, ps, ⟨len, fun A outer s H args us vs Q hg hr e0 bt rv hsp => ?_⟩, hm, kp, bd⟩
  have kin : K.In s.heap := e0.mod.kin.keeps (fun b o e => (e0.bs b o e).1)
  have nol : s.heap.NoLimit := e0.mod.nolimit.keeps (fun b o e => (e0.bs b o e).1)
  have pk : ((ps.zip us).all fun y => (defScope st).names.lookup y.1 == some NameKind.local ||
      (defScope st).names.lookup y.1 == some NameKind.cell) = true := by
    rw [List.all_eq_true]
    rintro ⟨n, v⟩ hm
    have hp := S.par n (List.of_mem_zip hm).1
    rcases hp with e | e <;> simp [e]
  refine Att.call_fn kin nol lk hcd hr.depth bt pk (fun s1 ic => ?_) S.co S.gen S.kind
  obtain ⟨t, ht, hq⟩ := hb f cdv A outer s H vs Q hg (hr.deeper _) hsp
  have J := inv_start (CX := CX0) (E := E0) (P := P) (w := w) (mg := mg) (base := base) S hr.hd e0 (len _ _ _ _ hsp) rv ic
  have J' := J.wish (fun _ _ => False)
  refine wpAny_mono (ht.run [] s1 (start N vs) H _ J' hq) (fun fl s' sp' => ?_) (fun _ _ z => z.elim)
  match fl, sp' with
  | .next, ⟨σ', H', L, q⟩ => exact ⟨.non, H', L.os, L.bare, L.base, L.hok, rfl, q⟩
  | .ret u, ⟨v, σ', H', L, rr, q⟩ => exact ⟨v, H', L.os, L.bare, L.base, L.hok, rr, q⟩
  | .brk, ⟨_, _, _, q⟩ => exact False.elim q
  | .cont, ⟨_, _, _, q⟩ => exact False.elim q
end
/-- one default behind: all arguments are given -/
theorem atX_all {K : PySem.W.Frag} {h : Heap} {mg : Str → Option Value} {x : Str} {st : Stmt} {ps : List Str} {f T : Addr} {od an td : Option Addr} {sl ts : Array (Option Value)} {oc kV dc pm cd ct d : Value} {tn : Nat} (X : K.In h) (G : h.Ns mainGlobals mg)
    (a : PySem.W.nsIn K mainGlobals x = some (some (.ref f))) (l : K.lookup f = some ⟨oc, od, .func (PySem.W.fnOf x x (defArgs st) (defBody st) (defScope st) (.ref T) kV dc pm an cd ct), sl⟩) (c : PySem.W.codeIn K cd x = true) (k : PySem.W.keepIn K (.ref f) = true)
    (u : K.lookup T = some ⟨.type "tuple", td, .seq #[d] tn, ts⟩)
    (hb : ∀ (T : Addr) (kV doc pm : Value) (an : Option Addr) (cdv ct : Value) (us its : List Value), us.length = ps.length → its.length = 1 →
      ∃ k, bindArgs (PySem.W.fnOf x x (defArgs st) (defBody st) (defScope st) (.ref T) kV doc pm an cdv ct) ⟨us, []⟩ = seqItems? (.ref T) >>= k ∧ k (some its.toArray) = pure (ps.zip us)) : AtX K mg x st ps [] := by
  refine ⟨f, oc, od, .ref T, kV, dc, pm, an, cd, ct, sl, l, c, k, PySem.W.mg_of X G a, fun s us KX hl => ?_⟩
  rw [List.append_nil] at hl ⊢
  obtain ⟨g, e1, e2⟩ := hb T kV dc pm an cd ct us [d] hl rfl
  refine BindsTo.of_looks fun M => ?_
  rw [e1]
  exact looks_items (its := #[d]) KX u rfl (PySem.W.Looks.of_pure e2)
/-- a method's call within a comprehension: the constants said -/
theorem pe_bmB {X : Cx} {K0 : PySem.W.Frag} {T : String} {name : Str} {id : String} {r : V → List V → Hp → VK → Prop} {o e : Expr} {es : List Expr} {to : TE} {t : TA} {apos cpos : Pos} (hK : X.K = K0) (pa : PlainAttrs T) (slot : Slot T name id) (hty : typeOf (.builtin id) = pure (.type "method_descriptor")) (hm : MtR X id r) (ho : PE X o to) (ha : PA X (e :: es) t)
    (hbase : attributeBase o name X.env (eval o X.env) = eval o X.env := by rfl)
    (hfew : ((backTo cpos (starEach (e :: es) X.env)).all (fun x => !x.1) && (backToKw cpos (keywordEach [] X.env)).all (fun x => x.1.isSome)
      && decide ((e :: es).length + ([] : List Keyword).length + (if ([] : List Keyword).isEmpty then 0 else 1) < 30)) = true := by rfl)
    (hline : (apos.endLine == cpos.line) = true := by rfl) (hs : starEach (e :: es) X.env = (false, eval e X.env) :: starEach es X.env := by rfl) (hplain : (backTo cpos (starEach es X.env)).any (·.1) = false := by rfl) :
    PE X (.Call (.Attribute o name apos) (e :: es) [] cpos) (tBM K0 T r to t) := by
  subst hK
  exact pe_bm pa slot hty hm ho ha hbase hfew hline hs hplain
end Gd

set_option Elab.async false
set_option linter.all false
set_option maxRecDepth 100000
set_option maxHeartbeats 4000000
/-! a def with defaults, called with fewer arguments: the values that fill up come behind -/
namespace Gd
open PySem PySem.Spec PyProof.Rows L2
structure ClD (P : Program) (w : World) (K : PySem.W.Frag) (mg : Str → Option Value) (base : Heap) (k : Nat) (x : Str) (sp : Sp) (dvs : List V) : Prop where
  ex : ∃ (f : Addr) (fd : FuncData) (ps : List Str) (ds : List Value), FnG P w K mg base k f fd ps sp ∧ mg x = some (.ref f) ∧ PySem.W.keepIn K (.ref f) = true ∧ Binds K fd ps ds ∧ Vals dvs ds
section
variable {P : Program} {w : World} {K : PySem.W.Frag} {mg : Str → Option Value} {base : Heap}
theorem clXD {x : Str} {st : Stmt} {N ps : List Str} {k : Nat} {sp : Sp} {ds : List Value} {dvs : List V} (a : AtX K mg x st ps ds) (vd : Vals dvs ds) (S : FnScope N ps (defScope st))
    (len : ∀ vs H Q E, sp vs H Q E → vs.length = ps.length)
    (hb : ∀ (f : Addr) (cdv : Value) (A : Around) (outer : List Env) (s : Shared) (H : Hp) (vs : List V) (Q : VK),
      A.guards = some [] → Room k (A.deeper (envOfC x (defScope st) s.heap.objs.size f cdv)) → sp vs H Q E0 →
      ∃ t, PSs (cxOf CX0 P w K mg base N x (defScope st) f cdv A outer s H E0).nox (defBody st) t ∧
        t { nx := fun _ H' => Q .non H', rt := Q } (start N vs) H) : ClD P w K mg base (k + 1) x sp dvs := by
  obtain ⟨f, oc, od, dV, kV, doc, pm, an, cdv, ct, osl, lk, hcd, kp, hm, bd⟩ := a.ex
  refine ⟨f, _, ps, ds, ⟨len, fun A outer s H args us vs Q hg hr e0 bt rv hsp => ?_⟩, hm, kp, bd, vd⟩
  have kin : K.In s.heap := e0.mod.kin.keeps (fun b o e => (e0.bs b o e).1)
  have nol : s.heap.NoLimit := e0.mod.nolimit.keeps (fun b o e => (e0.bs b o e).1)
  have pk : ((ps.zip us).all fun y => (defScope st).names.lookup y.1 == some NameKind.local ||
      (defScope st).names.lookup y.1 == some NameKind.cell) = true := by
    rw [List.all_eq_true]
    rintro ⟨n, v⟩ hm
    have hp := S.par n (List.of_mem_zip hm).1
    rcases hp with e | e <;> simp [e]
  refine Att.call_fn kin nol lk hcd hr.depth bt pk (fun s1 ic => ?_) S.co S.gen S.kind
  obtain ⟨t, ht, hq⟩ := hb f cdv A outer s H vs Q hg (hr.deeper _) hsp
  have J := inv_start (CX := CX0) (E := E0) (P := P) (w := w) (mg := mg) (base := base) S hr.hd e0 (len _ _ _ _ hsp) rv ic
  have J' := J.wish (fun _ _ => False)
  refine wpAny_mono (ht.run [] s1 (start N vs) H _ J' hq) (fun fl s' sp' => ?_) (fun _ _ z => z.elim)
  match fl, sp' with
  | .next, ⟨σ', H', L, q⟩ => exact ⟨.non, H', L.os, L.bare, L.base, L.hok, rfl, q⟩
  | .ret u, ⟨v, σ', H', L, rr, q⟩ => exact ⟨v, H', L.os, L.bare, L.base, L.hok, rr, q⟩
  | .brk, ⟨_, _, _, q⟩ => exact False.elim q
  | .cont, ⟨_, _, _, q⟩ => exact False.elim q
end
theorem vals_append : ∀ {vs : List V} {us : List Value} {ws : List V} {zs : List Value}, Vals vs us → Vals ws zs → Vals (vs ++ ws) (us ++ zs)
  | _, _, _, _, .nil, h => h
  | _, _, _, _, .cons a b, h => .cons a (vals_append b h)
section
variable {X : Cx} {k j : Nat} {x : Str} {sp : Sp} {p pos : Pos} {e : Expr} {es : List Expr} {t : TA} {dvs : List V}
theorem run_clD {f : Addr} {fd : FuncData} {ps : List Str} {ds : List Value} {pins : List (Addr × Obj)} {σ : L2.St} {H : Hp} {s : Shared} {Q : VK} {us : List Value} {vs : List V}
    (F : FnG X.prog X.w X.K X.mg X.base k f fd ps sp) (hg : X.A.guards = some []) (hr : Room k X.A) (b : Binds X.K fd ps ds) (vd : Vals dvs ds)
    (I : Inv X pins σ H s) (rv : Vals vs us) (h : sp (vs ++ dvs) H Q E0) : wpAny (model X.prog X.w) X.A (call (.ref f) us) (EP X pins σ Q) X.xe s := by
  have ra := vals_append rv vd
  have hl : (us ++ ds).length = ps.length := ra.length.symm.trans (F.len _ _ _ _ h)
  have bt := b s us I.kIn hl
  refine wpAny_call (codeAny_mono (F.go X.A X.stack s H ⟨us, []⟩ (us ++ ds) (vs ++ dvs) Q hg hr I.env0 bt ra h) (fun r s' hq => ?_))
  match r, hq with
  | .ok (.ret u), hq => exact I.after hq
  | .ok .next, hq => exact False.elim hq
  | .ok .brk, hq => exact False.elim hq
  | .ok .cont, hq => exact False.elim hq
  | .error _, hq => exact False.elim hq
/-- f(e, ..), some arguments left out -/
theorem pe_clD (c : ClD X.prog X.w X.K X.mg X.base k x sp dvs) (hg : X.A.guards = some []) (hr : Room j X.A) (hk : k ≤ j) (gl : Gl X x) (ha : PA X (e :: es) t)
    (hd : (x == ("__debug__" : Str)) = false := by decide)
    (he : starEach (e :: es) X.env = (false, eval e X.env) :: starEach es X.env := by rfl)
    (hp : (backTo pos (starEach es X.env)).any (·.1) = false := by rfl) :
    PE X (.Call (.Name x p) (e :: es) [] pos) (tCall sp dvs E0 t) := by
  obtain ⟨f, fd, ps, ds, F, hm, kp, b, vd⟩ := c.ex
  refine ⟨fun pins s σ H Q I h => wpAny_Call_Name_kw (ld_glob I gl hm (PySem.W.callWith_K (h₀ := X.base) I.ok.mod.kin kp ?_ he hp) hd)⟩
  refine thn (ha.run pos pins s σ H _ I h) (fun us s1 z => ?_)
  obtain ⟨vs, H1, I1, rv, q⟩ := z
  exact ⟨I1.kIn, run_clD F hg (hr.mono hk) b vd I1 rv q⟩
end
/-- one default behind: it is left out -/
theorem atX_less {K : PySem.W.Frag} {h : Heap} {mg : Str → Option Value} {x : Str} {st : Stmt} {ps : List Str} {f T : Addr} {od an td : Option Addr} {sl ts : Array (Option Value)} {oc kV dc pm cd ct d : Value} {tn : Nat} (X : K.In h) (G : h.Ns mainGlobals mg)
    (a : PySem.W.nsIn K mainGlobals x = some (some (.ref f))) (l : K.lookup f = some ⟨oc, od, .func (PySem.W.fnOf x x (defArgs st) (defBody st) (defScope st) (.ref T) kV dc pm an cd ct), sl⟩) (c : PySem.W.codeIn K cd x = true) (k : PySem.W.keepIn K (.ref f) = true)
    (u : K.lookup T = some ⟨.type "tuple", td, .seq #[d] tn, ts⟩)
    (hb : ∀ (T : Addr) (kV doc pm : Value) (an : Option Addr) (cdv ct : Value) (us its : List Value), us.length + 1 = ps.length → its.length = 1 →
      ∃ k, bindArgs (PySem.W.fnOf x x (defArgs st) (defBody st) (defScope st) (.ref T) kV doc pm an cdv ct) ⟨us, []⟩ = seqItems? (.ref T) >>= k ∧ k (some its.toArray) = pure (ps.zip (us ++ its))) : AtX K mg x st ps [d] := by
  refine ⟨f, oc, od, .ref T, kV, dc, pm, an, cd, ct, sl, l, c, k, PySem.W.mg_of X G a, fun s us KX hl => ?_⟩
  obtain ⟨g, e1, e2⟩ := hb T kV dc pm an cd ct us [d] (by rw [List.length_append] at hl; exact hl) rfl
  refine BindsTo.of_looks fun M => ?_
  rw [e1]
  exact looks_items (its := #[d]) KX u rfl (PySem.W.Looks.of_pure e2)
end Gd

set_option Elab.async false
set_option linter.all false
set_option maxRecDepth 100000
set_option maxHeartbeats 4000000
namespace Rm
open PySem PySem.Spec PyProof.Rows L2 Gd

/-! ### how long a display is -/
structure Fit (L n : Nat) (d : PyData) : Prop where
  sh : d.showable = true
  dp : d.depth ≤ n
  ln : d.shown.length ≤ L
theorem Fit.mono {L n L' n' : Nat} {d : PyData} (f : Fit L n d) (h : L ≤ L') (h' : n ≤ n') : Fit L' n' d := ⟨f.sh, by have := f.dp; omega, by have := f.ln; omega⟩
theorem allSh {L n : Nat} : ∀ {ds : List PyData}, (∀ d ∈ ds, Fit L n d) → PyData.showableAll ds = true ∧ PyData.depthAll ds ≤ n ∧ piled (PyData.shownAll ds) ≤ ds.length * (L + 2)
  | [], _ => ⟨rfl, Nat.zero_le _, Nat.zero_le _⟩
  | d :: ds, h => by
    obtain ⟨a, b, c⟩ := allSh (ds := ds) fun x hx => h x (List.mem_cons_of_mem _ hx)
    have f := h d List.mem_cons_self
    refine ⟨?_, ?_, ?_⟩
    · show (d.showable && PyData.showableAll ds) = true
      rw [f.sh, a]; rfl
    · show max d.depth (PyData.depthAll ds) ≤ n
      have := f.dp
      omega
    · show piled (d.shown :: PyData.shownAll ds) ≤ _
      rw [piled_cons, List.length_cons]
      have := f.ln
      have e : (ds.length + 1) * (L + 2) = ds.length * (L + 2) + (L + 2) := Nat.succ_mul _ _
      omega
theorem listText_le (ts : List Str) : (listText ts).length ≤ piled ts + 2 := by
  cases ts with
  | nil => decide
  | cons t r =>
    have h := textFrom_length_pos r 1 (("[" : Str) ++ (if (0 : Nat) > 0 then ", " else "" : String) ++ t) (Nat.succ_pos 0)
    have e : ((("[" : Str) ++ (if (0 : Nat) > 0 then ", " else "" : String) ++ t)).length = 1 + t.length := by
      rw [strLen_append, strLen_append]; rfl
    have x : (listText (t :: r)).length = (textFrom 1 (("[" : Str) ++ (if (0 : Nat) > 0 then ", " else "" : String) ++ t) r).length + 1 := by
      show (textFrom 1 (("[" : Str) ++ (if (0 : Nat) > 0 then ", " else "" : String) ++ t) r ++ "]").length = _
      rw [strLen_append]; rfl
    rw [x, h, e, piled_cons]
    omega
theorem tupleText_le (ts : List Str) : (tupleText ts).length ≤ piled ts + 3 := by
  unfold tupleText
  rw [strLen_append, strLen_append]
  have e1 : ((("(" : String) : Str)).length = 1 := rfl
  have e3 : (((if ts.length == 1 then ",)" else ")" : String) : Str)).length ≤ 2 := by split <;> decide
  rw [e1]
  cases ts with
  | nil =>
    have : (Str.join ", " []).length = 0 := by decide
    omega
  | cons t r =>
    have := join_length_add (t :: r) (by simp)
    omega
theorem fit_list {L n : Nat} {ds : List PyData} (h : ∀ d ∈ ds, Fit L n d) : Fit (ds.length * (L + 2) + 3) (n + 1) (.list ds) := by
  obtain ⟨a, b, c⟩ := allSh h
  have := listText_le (PyData.shownAll ds)
  exact ⟨a, by show PyData.depthAll ds + 1 ≤ _; omega, by show (listText (PyData.shownAll ds)).length ≤ _; omega⟩
theorem fit_tup {L n : Nat} {ds : List PyData} (h : ∀ d ∈ ds, Fit L n d) : Fit (ds.length * (L + 2) + 3) (n + 1) (.tuple ds) := by
  obtain ⟨a, b, c⟩ := allSh h
  have := tupleText_le (PyData.shownAll ds)
  exact ⟨a, by show PyData.depthAll ds + 1 ≤ _; omega, by show (tupleText (PyData.shownAll ds)).length ≤ _; omega⟩
theorem fit_int {i : Int} (h : i.natAbs < 2 ^ 200) : Fit 210 0 (.int i) := by
  have hl : i.natAbs.log2 < 200 := PySem.Flt.log2_lt_of (by decide) h
  refine ⟨?_, Nat.le_refl _, ?_⟩
  · show decide (i.natAbs.log2 < 1920) = true
    exact decide_eq_true (by omega)
  · show (Str.ofString (toString i)).length ≤ 210
    rw [PySem.ofString_length]
    have := int_text_length_le (k := 200) (by decide) hl
    omega
theorem fit_none : Fit 210 0 .none := ⟨rfl, Nat.le_refl _, by decide +kernel⟩
theorem fit_bool (b : Bool) : Fit 210 0 (.bool b) := ⟨rfl, Nat.le_refl _, by cases b <;> decide +kernel⟩

/-! ### records -/
structure Ev where
  t : Int
  k : Int
  d : Bool
def wayS (d : Bool) : Str := if d then "down" else "up"
theorem wayS_inj {a b : Bool} : wayS a = wayS b ↔ a = b := by cases a <;> cases b <;> decide +kernel
theorem wayS_down (d : Bool) : decide (V.str (wayS d) = V.str "down") = d := by cases d <;> decide +kernel
def evD (e : Ev) : PyData := .tuple [.int e.t, .int e.k, .str (wayS e.d)]
def stD (e : Ev) : PyData := .tuple [.int e.k, .str (wayS e.d)]
def evV (e : Ev) : List V := [.int e.t, .int e.k, .str (wayS e.d)]
def stV (e : Ev) : List V := [.int e.k, .str (wayS e.d)]
def recD (es : List Ev) : PyData := .list (es.map evD)
def ordD (es : List Ev) : PyData := .list (es.map stD)
def after (h : Int → Bool) (e : Ev) : Int → Bool := fun k => if k = e.k then e.d else h k
def heldB (es : List Ev) : Int → Bool := es.foldl after fun _ => false
theorem heldB_snoc (es : List Ev) (e : Ev) : heldB (es ++ [e]) = after (heldB es) e := by unfold heldB; rw [List.foldl_append]; rfl
theorem heldB_take {es : List Ev} {i : Nat} {e : Ev} (h : es[i]? = some e) : heldB (es.take (i + 1)) = after (heldB (es.take i)) e := by
  rw [List.take_add_one, h]
  exact heldB_snoc _ _
/-- a record as the document has it -/
def Valid (es : List Ev) : Prop := ∀ (i : Nat) (e : Ev), es[i]? = some e → 0 ≤ e.k ∧ heldB (es.take i) e.k = !e.d ∧ ∀ (j : Nat) (e' : Ev), j < i → es[j]? = some e' → e'.t ≤ e.t
/-- an order: the same without ticks -/
def ValidO (es : List Ev) : Prop := ∀ (i : Nat) (e : Ev), es[i]? = some e → 0 ≤ e.k ∧ heldB (es.take i) e.k = !e.d
theorem Valid.o {es : List Ev} (h : Valid es) : ValidO es := fun i e x => ⟨(h i e x).1, (h i e x).2.1⟩
theorem Valid.nil : Valid [] := fun _ _ h => by simp at h
theorem Valid.take {es : List Ev} (h : Valid es) (n : Nat) : Valid (es.take n) := fun i e x => by
  have hi : i < n := by
    rcases Nat.lt_or_ge i n with q | q
    · exact q
    · rw [List.getElem?_eq_none (by rw [List.length_take]; omega)] at x; cases x
  rw [List.getElem?_take_of_lt hi] at x
  obtain ⟨a, b, c⟩ := h i e x
  refine ⟨a, ?_, fun j e' hj y => ?_⟩
  · rw [List.take_take, Nat.min_eq_left (by omega)]; exact b
  · rw [List.getElem?_take_of_lt (by omega)] at y
    exact c j e' hj y
theorem ValidO.take {es : List Ev} (h : ValidO es) (n : Nat) : ValidO (es.take n) := fun i e x => by
  have hi : i < n := by
    rcases Nat.lt_or_ge i n with q | q
    · exact q
    · rw [List.getElem?_eq_none (by rw [List.length_take]; omega)] at x; cases x
  rw [List.getElem?_take_of_lt hi] at x
  obtain ⟨a, b⟩ := h i e x
  exact ⟨a, by rw [List.take_take, Nat.min_eq_left (by omega)]; exact b⟩
theorem Valid.snoc {es : List Ev} {e : Ev} (h : Valid es) (h0 : 0 ≤ e.k) (hb : heldB es e.k = !e.d) (ht : ∀ e' ∈ es, e'.t ≤ e.t) : Valid (es ++ [e]) := fun i x hx => by
  rcases Nat.lt_or_ge i es.length with q | q
  · rw [List.getElem?_append_left q] at hx
    obtain ⟨a, b, c⟩ := h i x hx
    refine ⟨a, ?_, fun j e' hj y => ?_⟩
    · rw [List.take_append_of_le_length (by omega)]; exact b
    · rw [List.getElem?_append_left (by omega)] at y
      exact c j e' hj y
  · have hi : i = es.length := by
      have := (List.getElem?_eq_some_iff.mp hx).1
      rw [List.length_append] at this
      simp at this
      omega
    subst hi
    rw [List.getElem?_append_right (Nat.le_refl _), Nat.sub_self] at hx
    have ex : e = x := Option.some.inj hx
    subst ex
    refine ⟨h0, ?_, fun j e' hj y => ?_⟩
    · rw [List.take_append_of_le_length (Nat.le_refl _), List.take_length]; exact hb
    · rw [List.getElem?_append_left hj] at y
      exact ht e' (List.mem_of_getElem? y)
/-- the ticks and keys are not too great to be shown -/
def Small (es : List Ev) : Prop := ∀ e ∈ es, e.t.natAbs < 2 ^ 200 ∧ e.k.natAbs < 2 ^ 200
theorem fit_ev {e : Ev} (h : e.t.natAbs < 2 ^ 200 ∧ e.k.natAbs < 2 ^ 200) : Fit 1000 1 (evD e) := by
  refine Fit.mono (fit_tup (L := 210) (n := 0) fun d hd => ?_) (by show 3 * 212 + 3 ≤ 1000; decide) (Nat.le_refl _)
  simp only [List.mem_cons, List.mem_nil_iff, or_false] at hd
  rcases hd with rfl | rfl | rfl
  · exact fit_int h.1
  · exact fit_int h.2
  · exact ⟨rfl, Nat.le_refl _, by cases e.d <;> decide +kernel⟩
theorem fit_st {e : Ev} (h : e.k.natAbs < 2 ^ 200) : Fit 1000 1 (stD e) := by
  refine Fit.mono (fit_tup (L := 210) (n := 0) fun d hd => ?_) (by show 2 * 212 + 3 ≤ 1000; decide) (Nat.le_refl _)
  simp only [List.mem_cons, List.mem_nil_iff, or_false] at hd
  rcases hd with rfl | rfl
  · exact fit_int h
  · exact ⟨rfl, Nat.le_refl _, by cases e.d <;> decide +kernel⟩
theorem fit_rec {es : List Ev} (h : Small es) (hl : es.length ≤ 1000) : Fit 1100000 2 (recD es) := by
  refine Fit.mono (fit_list (L := 1000) (n := 1) fun d hd => ?_) (by rw [List.length_map]; omega) (Nat.le_refl _)
  obtain ⟨e, he, rfl⟩ := List.mem_map.mp hd
  exact fit_ev (h e he)
theorem fit_ord {es : List Ev} (h : Small es) (hl : es.length ≤ 1000) : Fit 1100000 2 (ordD es) := by
  refine Fit.mono (fit_list (L := 1000) (n := 1) fun d hd => ?_) (by rw [List.length_map]; omega) (Nat.le_refl _)
  obtain ⟨e, he, rfl⟩ := List.mem_map.mp hd
  exact fit_st (h e he).2

/-! ### the dict of what is held -/
structure HeldK (kvs : List (Key × V)) (h : Int → Bool) : Prop where
  fm : ∀ p ∈ kvs, ∃ (k : Int) (b : Bool), p = (Sum.inl k, V.bl b)
  nd : (kvs.map (·.1)).Nodup
  at_ : ∀ k : Int, (valV kvs (Sum.inl k)).getD (.bl false) = .bl (h k)
theorem HeldK.nil : HeldK [] fun _ => false := ⟨fun _ h => by simp at h, List.nodup_nil, fun _ => rfl⟩
theorem put_len (kvs : List (Key × V)) (k : Key) (v : V) : (putK kvs k v).length ≤ kvs.length + 1 := by
  unfold putK
  split
  · rw [List.length_map]; omega
  · rw [List.length_append]; exact Nat.le_refl _
theorem put_keys (kvs : List (Key × V)) (k : Key) (v : V) (h : (kvs.map (·.1)).Nodup) : ((putK kvs k v).map (·.1)).Nodup := by
  cases e : valV kvs k with
  | none => exact nd_putK v h e
  | some x =>
    have a : (kvs.any fun kv => decide (kv.1 = k)) = true := by rw [valV_any, e]; rfl
    unfold putK
    rw [if_pos a, List.map_map]
    have : ((fun p : Key × V => p.1) ∘ fun kv => if kv.1 = k then (kv.1, v) else kv) = (·.1) := by
      funext p
      show (if p.1 = k then (p.1, v) else p).1 = p.1
      split <;> rfl
    rw [this]
    exact h
theorem HeldK.put {kvs : List (Key × V)} {es : List Ev} {e : Ev} (h : HeldK kvs (heldB es)) : HeldK (putK kvs (Sum.inl e.k) (.bl e.d)) (heldB (es ++ [e])) := by
  refine ⟨fun p hp => ?_, put_keys _ _ _ h.nd, fun k => ?_⟩
  · unfold putK at hp
    split at hp
    · obtain ⟨q, hq, rfl⟩ := List.mem_map.mp hp
      obtain ⟨k, b, rfl⟩ := h.fm q hq
      by_cases z : (Sum.inl k : Key) = Sum.inl e.k
      · exact ⟨k, e.d, by simp [z]⟩
      · exact ⟨k, b, by simp [z]⟩
    · rcases List.mem_append.mp hp with hp | hp
      · exact h.fm p hp
      · exact ⟨e.k, e.d, List.mem_singleton.mp hp⟩
  · rw [valV_put, heldB_snoc]
    unfold after
    by_cases z : k = e.k
    · subst z; simp
    · rw [if_neg (fun q => z (Sum.inl.inj q)), if_neg z]
      exact h.at_ k
def downs (kvs : List (Key × V)) : List Int := kvs.filterMap fun p => match p with
  | (Sum.inl k, .bl true) => some k
  | _ => none
theorem downs_cons (k : Int) (b : Bool) (r : List (Key × V)) : downs ((Sum.inl k, .bl b) :: r) = if b then k :: downs r else downs r := by
  cases b <;> simp [downs, List.filterMap_cons]
theorem downs_sub : ∀ {kvs : List (Key × V)} {k : Int}, k ∈ downs kvs → (Sum.inl k : Key) ∈ kvs.map (·.1)
  | kvs, k, h => by
    obtain ⟨p, hp, e⟩ := List.mem_filterMap.mp h
    refine List.mem_map.mpr ⟨p, hp, ?_⟩
    obtain ⟨a, b⟩ := p
    cases a with
    | inr _ => cases e
    | inl k' =>
      cases b with
      | bl c => cases c <;> simp at e; rw [e]
      | non => cases e
      | int _ => cases e
      | str _ => cases e
      | byt _ => cases e
      | flt _ => cases e
      | ref _ => cases e
      | ty _ => cases e
theorem downs_nd : ∀ {kvs : List (Key × V)}, (∀ p ∈ kvs, ∃ (k : Int) (b : Bool), p = (Sum.inl k, V.bl b)) → (kvs.map (·.1)).Nodup → (downs kvs).Nodup
  | [], _, _ => List.nodup_nil
  | p :: r, fm, nd => by
    obtain ⟨k, b, rfl⟩ := fm p List.mem_cons_self
    have nd' : ((Sum.inl k : Key) :: r.map (·.1)).Nodup := nd
    obtain ⟨n1, n2⟩ := List.nodup_cons.mp nd'
    have ih := downs_nd (fun q hq => fm q (List.mem_cons_of_mem _ hq)) n2
    rw [downs_cons]
    split
    · exact List.nodup_cons.mpr ⟨fun m => n1 (downs_sub m), ih⟩
    · exact ih
theorem downs_mem : ∀ {kvs : List (Key × V)}, (∀ p ∈ kvs, ∃ (k : Int) (b : Bool), p = (Sum.inl k, V.bl b)) → (kvs.map (·.1)).Nodup → ∀ k : Int, k ∈ downs kvs ↔ valV kvs (Sum.inl k) = some (.bl true)
  | [], _, _, k => by simp [downs, valV]
  | p :: r, fm, nd, k => by
    obtain ⟨k', b, rfl⟩ := fm p List.mem_cons_self
    have nd' : ((Sum.inl k' : Key) :: r.map (·.1)).Nodup := nd
    obtain ⟨n1, n2⟩ := List.nodup_cons.mp nd'
    have ih := downs_mem (fun q hq => fm q (List.mem_cons_of_mem _ hq)) n2 k
    rw [downs_cons]
    by_cases z : k' = k
    · subst z
      rw [valV_pos rfl]
      cases b with
      | true => simp
      | false =>
        simp only [Bool.false_eq_true, if_false]
        constructor
        · intro m; exact absurd (downs_sub m) n1
        · intro m; cases m
    · rw [valV_neg (fun q => z (Sum.inl.inj q))]
      rw [← ih]
      split
      · rw [List.mem_cons]
        exact ⟨fun q => q.resolve_left fun e => z e.symm, .inr⟩
      · exact Iff.rfl
theorem HeldK.mem {kvs : List (Key × V)} {h : Int → Bool} (x : HeldK kvs h) (k : Int) : k ∈ downs kvs ↔ h k = true := by
  rw [downs_mem x.fm x.nd k]
  have q := x.at_ k
  cases e : valV kvs (Sum.inl k) with
  | none =>
    rw [e] at q
    have q : V.bl false = .bl (h k) := q
    have : h k = false := (V.bl.inj q).symm
    simp [this]
  | some v =>
    rw [e] at q
    have q : v = .bl (h k) := q
    subst q
    constructor
    · intro z
      exact V.bl.inj (Option.some.inj z)
    · intro z
      rw [z]
/-- two ascending lists of the same keys -/
theorem same_sorted {a b c d : List Int} (h : ∀ k, k ∈ a ↔ k ∈ b) (na : a.Nodup) (nb : b.Nodup) (pa : c.Perm a) (pb : d.Perm b) (sa : c.Pairwise (· ≤ ·)) (sb : d.Pairwise (· ≤ ·)) : c = d := by
  have p : a.Perm b := (List.perm_ext_iff_of_nodup na nb).mpr h
  exact List.Perm.eq_of_pairwise (fun x y _ _ h1 h2 => Int.le_antisymm h1 h2) sa sb ((pa.trans p).trans pb.symm)

/-! ### heaps that change at one address alone -/
def Off (r : Addr) (H H' : Hp) : Prop := ∀ b o, H b = some o → b ≠ r → H' b = some o
theorem Off.refl {r : Addr} (H : Hp) : Off r H H := fun _ _ h _ => h
theorem Off.trans {r : Addr} {H H1 H2 : Hp} (a : Off r H H1) (b : Off r H1 H2) : Off r H H2 := fun c o h n => b c o (a c o h n) n
theorem Off.of {r : Addr} {H H1 : Hp} (a : Same H H1) : Off r H H1 := fun c o h _ => a c o h
theorem off_upd {r : Addr} {H : Hp} {o : HO} : Off r H (upd H r o) := fun b _ h n => by rw [upd_ne n]; exact h
theorem same_upd {H : Hp} {p : Addr} {o : HO} (h : H p = none) : Same H (upd H p o) := fun b x e => by
  rw [upd_ne (ne_of_none e h)]
  exact e
/-- what is new may change -/
theorem Same.off {H H1 H2 : Hp} {p : Addr} (s : Same H H1) (h : H p = none) (o : Off p H1 H2) : Same H H2 := fun b x e => o b x (s b x e) (ne_of_none e h)

/-! ### lists of tuples -/
def Tups {α : Type} (H : Hp) (f : α → List V) (as : List Addr) (es : List α) : Prop := as.length = es.length ∧ ∀ (i : Nat) (a : Addr) (e : α), as[i]? = some a → es[i]? = some e → H a = some (.tup (f e))
def Lst {α : Type} (f : α → List V) (H : Hp) (c : Addr) (es : List α) : Prop := ∃ as : List Addr, H c = some (.lst (as.map V.ref)) ∧ Tups H f as es
section
variable {α : Type} {f : α → List V} {H H' : Hp} {c r : Addr} {as : List Addr} {es : List α}
theorem Tups.nil : Tups H f [] ([] : List α) := ⟨rfl, fun i a e h _ => by simp at h⟩
theorem Tups.same (h : Tups H f as es) (s : Same H H') : Tups H' f as es := ⟨h.1, fun i a e x y => s _ _ (h.2 i a e x y)⟩
theorem Tups.off {ys : List V} (h : Tups H f as es) (hr : H r = some (.lst ys)) (o : Off r H H') : Tups H' f as es :=
  ⟨h.1, fun i a e x y => o _ _ (h.2 i a e x y) (ne_of (h.2 i a e x y) hr (by intro z; cases z))⟩
theorem Tups.snoc {a : Addr} {e : α} (h : Tups H f as es) (ha : H a = some (.tup (f e))) : Tups H f (as ++ [a]) (es ++ [e]) := by
  refine ⟨by rw [List.length_append, List.length_append, h.1]; rfl, fun i b x hb hx => ?_⟩
  rcases Nat.lt_or_ge i as.length with q | q
  · rw [List.getElem?_append_left q] at hb
    rw [List.getElem?_append_left (by rw [← h.1]; exact q)] at hx
    exact h.2 i b x hb hx
  · have hl := h.1
    have hi : i = as.length := by
      have := (List.getElem?_eq_some_iff.mp hb).1
      rw [List.length_append] at this
      simp at this
      omega
    subst hi
    rw [List.getElem?_append_right (Nat.le_refl _), Nat.sub_self] at hb
    rw [List.getElem?_append_right (by omega), show as.length - es.length = 0 by omega] at hx
    have e1 : a = b := Option.some.inj hb
    have e2 : e = x := Option.some.inj hx
    subst e1 e2
    exact ha
theorem Tups.take (h : Tups H f as es) (n : Nat) : Tups H f (as.take n) (es.take n) := by
  refine ⟨by rw [List.length_take, List.length_take, h.1], fun i b x hb hx => ?_⟩
  have hi : i < n := by
    rcases Nat.lt_or_ge i n with q | q
    · exact q
    · rw [List.getElem?_eq_none (by rw [List.length_take]; omega)] at hb; cases hb
  rw [List.getElem?_take_of_lt hi] at hb hx
  exact h.2 i b x hb hx
theorem Tups.append {bs : List Addr} {gs : List α} (h : Tups H f as es) (h' : Tups H f bs gs) : Tups H f (as ++ bs) (es ++ gs) := by
  refine ⟨by rw [List.length_append, List.length_append, h.1, h'.1], fun i b x hb hx => ?_⟩
  have hl := h.1
  rcases Nat.lt_or_ge i as.length with q | q
  · rw [List.getElem?_append_left q] at hb
    rw [List.getElem?_append_left (by omega)] at hx
    exact h.2 i b x hb hx
  · rw [List.getElem?_append_right q] at hb
    rw [List.getElem?_append_right (by omega), ← hl] at hx
    exact h'.2 _ b x hb hx
theorem Tups.at_ (h : Tups H f as es) {i : Nat} (hi : i < es.length) : ∃ a, as[i]? = some a ∧ H a = some (.tup (f es[i])) := by
  have hl := h.1
  exact ⟨as[i], List.getElem?_eq_getElem (by omega), h.2 i _ _ (List.getElem?_eq_getElem (by omega)) (List.getElem?_eq_getElem hi)⟩
theorem Tups.map {β : Type} {g : β → α} {bs : List β} (h : Tups H f as (bs.map g)) : Tups H (fun b => f (g b)) as bs := by
  refine ⟨by rw [h.1, List.length_map], fun i a b x y => h.2 i a (g b) x (by rw [List.getElem?_map, y]; rfl)⟩
theorem Tups.map' {β : Type} {g : β → α} {bs : List β} (h : Tups H (fun b => f (g b)) as bs) : Tups H f as (bs.map g) := by
  refine ⟨by rw [h.1, List.length_map], fun i a e x y => ?_⟩
  rw [List.getElem?_map] at y
  cases z : bs[i]? with
  | none => rw [z] at y; cases y
  | some b =>
    rw [z] at y
    have y : g b = e := Option.some.inj y
    subst y
    exact h.2 i a b x z
theorem Lst.same (h : Lst f H c es) (s : Same H H') : Lst f H' c es := by
  obtain ⟨as, a, b⟩ := h
  exact ⟨as, s _ _ a, b.same s⟩
theorem Lst.off {ys : List V} (h : Lst f H c es) (hr : H r = some (.lst ys)) (n : c ≠ r) (o : Off r H H') : Lst f H' c es := by
  obtain ⟨as, a, b⟩ := h
  exact ⟨as, o _ _ a n, b.off hr o⟩
end
theorem dp_int {K : PySem.W.Frag} {H : Hp} {i : Int} : Dp K H (.int i) (.int i) := .int i
theorem dpAll_of {K : PySem.W.Frag} {H : Hp} {α : Type} {f : α → List V} {g : α → PyData} (hg : ∀ (a : Addr) (e : α), H a = some (.tup (f e)) → Dp K H (.ref a) (g e)) :
    ∀ (as : List Addr) (es : List α), Tups H f as es → DpAll K H (as.map V.ref) (es.map g)
  | [], [], _ => .nil
  | [], _ :: _, h => by have := h.1; simp at this
  | _ :: _, [], h => by have := h.1; simp at this
  | a :: as, e :: es, h => .cons (hg a e (h.2 0 a e rfl rfl)) (dpAll_of hg as es ⟨by have := h.1; simpa using this, fun i b x hb hx => h.2 (i + 1) b x (by simpa using hb) (by simpa using hx)⟩)
theorem Lst.dp {K : PySem.W.Frag} {H : Hp} {c : Addr} {es : List Ev} (h : Lst evV H c es) : Dp K H (.ref c) (recD es) := by
  obtain ⟨as, a, b⟩ := h
  refine .lst (SqL.of a) (dpAll_of (fun a e ha => ?_) as es b)
  exact .tup (SqT.of ha) (.cons (.int _) (.cons (.int _) (.cons (.str _) .nil)))
theorem Lst.dpO {K : PySem.W.Frag} {H : Hp} {c : Addr} {es : List Ev} (h : Lst stV H c es) : Dp K H (.ref c) (ordD es) := by
  obtain ⟨as, a, b⟩ := h
  refine .lst (SqL.of a) (dpAll_of (fun a e ha => ?_) as es b)
  exact .tup (SqT.of ha) (.cons (.int _) (.cons (.str _) .nil))
theorem dpInts {K : PySem.W.Frag} {H : Hp} : ∀ ns : List Int, DpAll K H (ns.map V.int) (ns.map PyData.int)
  | [] => .nil
  | n :: ns => .cons (.int n) (dpInts ns)
theorem Lst.sql {K : PySem.W.Frag} {α : Type} {f : α → List V} {H : Hp} {c : Addr} {es : List α} (h : Lst f H c es) : ∃ xs : List V, SqL K H c xs ∧ xs.length = es.length := by
  obtain ⟨as, a, b⟩ := h
  exact ⟨_, SqL.of a, by rw [List.length_map]; exact b.1⟩

theorem val_at : ∀ {kvs : List (Key × V)} {i : Nat} {k : Key} {v : V}, (kvs.map (·.1)).Nodup → kvs[i]? = some (k, v) → valV kvs k = some v
  | [], _, _, _, _, h => by simp at h
  | p :: r, 0, k, v, _, h => by
    have e : p = (k, v) := Option.some.inj h
    subst e
    exact valV_pos rfl
  | p :: r, i + 1, k, v, nd, h => by
    have nd' : (p.1 :: r.map (·.1)).Nodup := nd
    obtain ⟨n1, n2⟩ := List.nodup_cons.mp nd'
    have h' : r[i]? = some (k, v) := by simpa using h
    have m : k ∈ r.map (·.1) := List.mem_map.mpr ⟨(k, v), List.mem_of_getElem? h', rfl⟩
    rw [valV_neg (fun e => n1 (e ▸ m))]
    exact val_at n2 h'
theorem downs_append (a b : List (Key × V)) : downs (a ++ b) = downs a ++ downs b := by unfold downs; rw [List.filterMap_append]
theorem downs_take {kvs : List (Key × V)} {i : Nat} {k : Int} {b : Bool} (h : kvs[i]? = some (Sum.inl k, .bl b)) : downs (kvs.take (i + 1)) = if b then downs (kvs.take i) ++ [k] else downs (kvs.take i) := by
  rw [List.take_add_one, h, downs_append]
  cases b <;> simp [downs]
theorem downs_len (kvs : List (Key × V)) : (downs kvs).length ≤ kvs.length := by unfold downs; exact List.length_filterMap_le _ _
end Rm

set_option Elab.async false
set_option linter.all false
set_option maxRecDepth 100000
set_option maxHeartbeats 4000000
namespace Rm
open PySem PySem.Spec PyProof.Rows L2 Gd

theorem Off.new {r p : Addr} {H H1 : Hp} {o : HO} (a : Off r H H1) (n : H p = none) : Off r H (upd H1 p o) := fun b x e ne => by
  rw [upd_ne (ne_of_none e n)]
  exact a b x e ne
theorem Off.at_ {r : Addr} {H H1 : Hp} {o : HO} (a : Off r H H1) : Off r H (upd H1 r o) := a.trans off_upd
theorem Off.sameTrans {r : Addr} {H H1 H2 : Hp} (a : Off r H H1) (b : Same H1 H2) : Off r H H2 := a.trans (Off.of b)
/-- what was free stays free of it: a new address of a later heap is new for the earlier one too -/
theorem Off.free {r p : Addr} {H H1 : Hp} {o : HO} (a : Off r H H1) (hr : H1 r = some o) (n : H1 p = none) : H p = none := by
  cases e : H p with
  | none => rfl
  | some x =>
    have h : p ≠ r := fun z => by rw [z, hr] at n; cases n
    rw [a p x e h] at n
    cases n

theorem getI {ns : List Int} {d : Int} (h0 : 0 ≤ d) (h1 : d < (ns.length : Int)) : ∃ (v : Int), atI (ns.map V.int) d = some (.int v) ∧ ns[d.toNat]? = some v := by
  have hd : d.toNat < ns.length := by omega
  refine ⟨ns[d.toNat], ?_, List.getElem?_eq_getElem hd⟩
  refine at_of (j := d.toNat) (by omega) ?_
  rw [List.getElem?_map, List.getElem?_eq_getElem hd]
  rfl
theorem inv_int (k : Int) : ∀ ns : List Int, inV (.int k) (ns.map V.int) = decide (k ∈ ns)
  | [] => rfl
  | n :: ns => by
    show (eqV (.int n) (.int k) || inV (.int k) (ns.map V.int)) = _
    rw [inv_int k ns]
    have e : eqV (.int n) (.int k) = decide (n = k) := by
      by_cases z : n = k <;> simp [eqV, z]
    rw [e]
    by_cases z : n = k
    · subst z; simp
    · have z' : ¬ k = n := fun q => z q.symm
      simp [z, z']
theorem flat_ints : ∀ ns : List Int, (ns.map V.int).all flatV = true
  | [] => rfl
  | n :: ns => by
    show (flatV (.int n) && (ns.map V.int).all flatV) = true
    rw [flat_ints ns]
    rfl
theorem lay_ints : ∀ ns : List Int, PyData.canLayAll0 (ns.map PyData.int) = true ∧ PyData.depthAll (ns.map PyData.int) = 0
  | [] => ⟨rfl, rfl⟩
  | n :: ns => by
    obtain ⟨a, b⟩ := lay_ints ns
    refine ⟨?_, ?_⟩
    · show (PyData.canLay0 (.int n) && PyData.canLayAll0 (ns.map PyData.int)) = true
      rw [a]
      rfl
    · show max (PyData.depth (.int n)) (PyData.depthAll (ns.map PyData.int)) = 0
      rw [b]
      rfl
theorem shaped_ints (ns : List Int) : SeqAt.shaped (.list (ns.map PyData.int)) = true := by
  obtain ⟨a, b⟩ := lay_ints ns
  show (PyData.canLayAll0 (ns.map PyData.int) && decide (PyData.depthAll (ns.map PyData.int) + 1 ≤ 64)) = true
  rw [a, b]
  rfl
theorem eqv_nil (ds : List PyData) : PyData.eqv (.list ds) (.list []) = ds.isEmpty := by
  cases ds <;> rfl
theorem mem_eraseIdx {ns : List Int} {j : Nat} {k : Int} (nd : ns.Nodup) (h : ns[j]? = some k) (x : Int) : x ∈ ns.eraseIdx j ↔ x ≠ k ∧ x ∈ ns := by
  rw [List.mem_eraseIdx_iff_getElem?]
  constructor
  · rintro ⟨i, hi, e⟩
    refine ⟨fun z => ?_, List.mem_of_getElem? e⟩
    subst z
    exact hi (nd_ix nd e h)
  · rintro ⟨hx, hm⟩
    obtain ⟨i, e⟩ := List.getElem?_of_mem hm
    refine ⟨i, fun z => ?_, e⟩
    subst z
    rw [h] at e
    exact hx (Option.some.inj e).symm
theorem first_ix {ns : List Int} {j : Nat} {k : Int} (nd : ns.Nodup) (h : ns[j]? = some k) : ∀ m : Nat, m < j → ns[m]? ≠ some k := fun m hm e => by
  have := nd_ix nd e h
  omega

/-! ### the keys that are down, as a list -/
structure DownOk (ns : List Int) (es : List Ev) : Prop where
  nd : ns.Nodup
  mem : ∀ k, k ∈ ns ↔ heldB es k = true
theorem DownOk.nil : DownOk [] [] := ⟨List.nodup_nil, fun k => by simp [heldB]⟩
theorem DownOk.down {ns : List Int} {es : List Ev} {t k : Int} (h : DownOk ns es) (n : ¬ k ∈ ns) : DownOk (ns ++ [k]) (es ++ [⟨t, k, true⟩]) := by
  refine ⟨nd_snoc h.nd n, fun x => ?_⟩
  rw [heldB_snoc]
  unfold after
  rw [List.mem_append, List.mem_singleton, h.mem]
  by_cases z : x = k
  · subst z; simp
  · simp [z]
theorem DownOk.up {ns : List Int} {es : List Ev} {t k : Int} {j : Nat} (h : DownOk ns es) (e : ns[j]? = some k) : DownOk (ns.eraseIdx j) (es ++ [⟨t, k, false⟩]) := by
  refine ⟨h.nd.eraseIdx j, fun x => ?_⟩
  rw [heldB_snoc, mem_eraseIdx h.nd e, h.mem]
  unfold after
  by_cases z : x = k
  · subst z; simp
  · simp [z]
theorem DownOk.not {ns : List Int} {es : List Ev} {k : Int} (h : DownOk ns es) (n : ¬ k ∈ ns) : heldB es k = false := by
  cases e : heldB es k with
  | false => rfl
  | true => exact absurd ((h.mem k).mpr e) n
/-- other keys for the same -/
theorem heldB_map {f : Int → Int} (hf : ∀ a b, f a = f b → a = b) : ∀ (es : List Ev) (k : Int), heldB (es.map fun e => ⟨e.t, f e.k, e.d⟩) (f k) = heldB es k := by
  intro es k
  suffices h : ∀ (es : List Ev) (g g' : Int → Bool), (∀ k, g' (f k) = g k) → ∀ k, (es.map fun e => (⟨e.t, f e.k, e.d⟩ : Ev)).foldl after g' (f k) = es.foldl after g k from h es _ _ (fun _ => rfl) k
  intro es
  induction es with
  | nil => intro g g' h k; exact h k
  | cons e es ih =>
    intro g g' h k
    refine ih (after g e) (after g' ⟨e.t, f e.k, e.d⟩) (fun x => ?_) k
    unfold after
    by_cases z : x = e.k
    · subst z; simp
    · have z' : ¬ f x = f e.k := fun q => z (hf _ _ q)
      show (if f x = f e.k then e.d else g' (f x)) = if x = e.k then e.d else g x
      rw [if_neg z, if_neg z', h]
theorem Valid.rekey {f : Int → Int} (hf : ∀ a b, f a = f b → a = b) {es : List Ev} (h : Valid es) (h0 : ∀ e ∈ es, 0 ≤ f e.k) : Valid (es.map fun e => ⟨e.t, f e.k, e.d⟩) := fun i e x => by
  rw [List.getElem?_map] at x
  cases y : es[i]? with
  | none => rw [y] at x; cases x
  | some e' =>
    rw [y] at x
    have x : (⟨e'.t, f e'.k, e'.d⟩ : Ev) = e := Option.some.inj x
    subst x
    obtain ⟨a, b, c⟩ := h i e' y
    refine ⟨h0 e' (List.mem_of_getElem? y), ?_, fun j g hj z => ?_⟩
    · rw [← List.map_take]
      show heldB _ (f e'.k) = !e'.d
      rw [heldB_map hf]
      exact b
    · rw [List.getElem?_map] at z
      cases y2 : es[j]? with
      | none => rw [y2] at z; cases z
      | some g' =>
        rw [y2] at z
        have z : (⟨g'.t, f g'.k, g'.d⟩ : Ev) = g := Option.some.inj z
        subst z
        exact c j g' hj y2
/-- ups behind all for keys that are down -/
theorem Valid.ups {t : Int} : ∀ (ns : List Int) {es : List Ev}, Valid es → ns.Nodup → (∀ k ∈ ns, heldB es k = true ∧ 0 ≤ k) → (∀ e ∈ es, e.t ≤ t) → Valid (es ++ ns.map fun k => ⟨t, k, false⟩)
  | [], es, h, _, _, _ => by simpa using h
  | k :: ns, es, h, nd, hb, ht => by
    obtain ⟨n1, n2⟩ := List.nodup_cons.mp nd
    have h1 : Valid (es ++ [⟨t, k, false⟩]) := h.snoc (hb k List.mem_cons_self).2 (by have := (hb k List.mem_cons_self).1; simpa using this) ht
    have := Valid.ups ns h1 n2 (fun x hx => ⟨by
        rw [heldB_snoc]
        unfold after
        have z : x ≠ k := fun q => n1 (q ▸ hx)
        rw [if_neg z]
        exact (hb x (List.mem_cons_of_mem _ hx)).1, (hb x (List.mem_cons_of_mem _ hx)).2⟩) (fun e he => by
        rcases List.mem_append.mp he with he | he
        · exact ht e he
        · rw [List.mem_singleton.mp he]; exact Int.le_refl _)
    simpa using this
theorem heldB_ups {t : Int} : ∀ (ns : List Int) (es : List Ev) (k : Int), heldB (es ++ ns.map fun k => ⟨t, k, false⟩) k = (heldB es k && !decide (k ∈ ns))
  | [], es, k => by simp
  | n :: ns, es, k => by
    have e : es ++ (n :: ns).map (fun k => (⟨t, k, false⟩ : Ev)) = (es ++ [⟨t, n, false⟩]) ++ ns.map fun k => ⟨t, k, false⟩ := by simp
    rw [e, heldB_ups ns, heldB_snoc]
    unfold after
    by_cases z : k = n
    · subst z; simp
    · have : (k ∈ n :: ns) ↔ k ∈ ns := by simp [z]
      simp [z]
/-- who is down is a key of the record -/
theorem held_mem : ∀ {es : List Ev} {k : Int}, heldB es k = true → ∃ e ∈ es, e.k = k := by
  intro es k
  suffices h : ∀ (es : List Ev) (g : Int → Bool), es.foldl after g k = true → g k = true ∨ ∃ e ∈ es, e.k = k by
    intro z
    rcases h es _ z with q | q
    · cases q
    · exact q
  intro es
  induction es with
  | nil => intro g h; exact .inl h
  | cons e es ih =>
    intro g h
    rcases ih (after g e) h with q | ⟨e', he, hk⟩
    · unfold after at q
      by_cases z : k = e.k
      · exact .inr ⟨e, List.mem_cons_self, z.symm⟩
      · rw [if_neg z] at q
        exact .inl q
    · exact .inr ⟨e', List.mem_cons_of_mem _ he, hk⟩
theorem Valid.mono {es : List Ev} (h : Valid es) : ∀ (i j : Nat) (a b : Ev), i < j → es[i]? = some a → es[j]? = some b → a.t ≤ b.t := fun i j a b hij ha hb => (h j b hb).2.2 i a hij ha
theorem lay_st : ∀ es : List Ev, PyData.canLayAll0 (es.map stD) = true ∧ PyData.depthAll (es.map stD) ≤ 1
  | [] => ⟨rfl, Nat.zero_le _⟩
  | e :: es => by
    obtain ⟨a, b⟩ := lay_st es
    refine ⟨?_, ?_⟩
    · have h : PyData.canLay0 (.str (wayS e.d)) = true := by cases e.d <;> decide +kernel
      show ((true && (PyData.canLay0 (.str (wayS e.d)) && true)) && PyData.canLayAll0 (es.map stD)) = true
      rw [a, h]
      rfl
    · show max (PyData.depth (stD e)) (PyData.depthAll (es.map stD)) ≤ 1
      have : PyData.depth (stD e) = 1 := rfl
      omega
theorem shaped_ord (es : List Ev) : SeqAt.shaped (ordD es) = true := by
  obtain ⟨a, b⟩ := lay_st es
  show (PyData.canLayAll0 (es.map stD) && decide (PyData.depthAll (es.map stD) + 1 ≤ 64)) = true
  rw [a, decide_eq_true (by omega)]
  rfl
theorem shaped_nil : SeqAt.shaped (.list []) = true := rfl
end Rm

set_option Elab.async false
set_option linter.all false
set_option maxRecDepth 100000
set_option maxHeartbeats 4000000
namespace La
open PySem PySem.Spec PyProof.Rows L2 Gd Rm

/-! ### codes -/
def signs : Str := "abcdefghijklmnopqrstuvwxyz0123456789"
def CodeOk (c : Str) : Prop := 1 ≤ c.cps.size ∧ c.cps.size ≤ 8 ∧ ∀ x ∈ c.cps.toList, x ∈ signs.cps.toList
instance (c : Str) : Decidable (CodeOk c) := by unfold CodeOk; infer_instance
theorem signs_low : ∀ x ∈ signs.cps.toList, x < 16 ^ 8 := by decide +kernel
theorem fit_code {c : Str} (h : CodeOk c) : Fit 210 0 (.str c) := by
  refine ⟨rfl, Nat.le_refl _, ?_⟩
  have q := PySem.StrLaws.reprText_len c fun x hx => signs_low x (h.2.2 x hx)
  have e : c.length = c.cps.size := rfl
  have := h.2.1
  show (reprText c).length ≤ 210
  omega
theorem joinL_one : ∀ cs : List Nat, TL.joinL [] (cs.map fun c => [c]) = cs
  | [] => rfl
  | [c] => rfl
  | c :: d :: r => by
    have ih := joinL_one (d :: r)
    show [c] ++ ([] ++ TL.joinL [] ((d :: r).map fun c => [c])) = c :: d :: r
    rw [ih]
    rfl
theorem join_one (cs : List Nat) : (Txt.join (("" : String) : Str) (cs.map fun c => (⟨#[c]⟩ : Str))).cps.toList = cs := by
  have h : ∀ a ys, Txt.join a ys = Str.join a ys := fun a ys => TL.join_eq a ys
  rw [h]
  show TL.tl (Str.join _ _) = cs
  rw [TL.tl_join, List.map_map]
  exact joinL_one cs
theorem code_join {cs : List Nat} (h1 : 1 ≤ cs.length) (h8 : cs.length ≤ 8) (h : ∀ c ∈ cs, c ∈ signs.cps.toList) : CodeOk (Txt.join (("" : String) : Str) (cs.map fun c => (⟨#[c]⟩ : Str))) := by
  have e := join_one cs
  refine ⟨?_, ?_, fun x hx => ?_⟩
  · rw [← Array.length_toList, e]; exact h1
  · rw [← Array.length_toList, e]; exact h8
  · rw [e] at hx; exact h x hx

/-! ### actions -/
inductive Actn where
  | none
  | thr
  | code (c : Str)
  | lay (w : Str) (j : Int)
  | dualC (c d : Str) (t : Int) (r : Str)
  | dualL (c : Str) (j t : Int) (r : Str)
def layWords : List Str := ["layer", "lock", "once"]
def rules : List Str := ["time", "other", "within"]
def ActOk (n i : Int) : Actn → Prop
  | .none => True
  | .thr => 0 < i
  | .code c => CodeOk c
  | .lay w j => w ∈ layWords ∧ 1 ≤ j ∧ j ≤ n - 1
  | .dualC c d t r => CodeOk c ∧ CodeOk d ∧ (1 ≤ t ∧ t ≤ 1000000000) ∧ r ∈ rules
  | .dualL c j t r => CodeOk c ∧ (1 ≤ j ∧ j ≤ n - 1) ∧ (1 ≤ t ∧ t ≤ 1000000000) ∧ r ∈ rules
def ActV (H : Hp) : Actn → V → Prop
  | .none, v => v = .str "none"
  | .thr, v => v = .str "through"
  | .code c, v => ∃ a, v = .ref a ∧ H a = some (.tup [.str "code", .str c])
  | .lay w j, v => ∃ a, v = .ref a ∧ H a = some (.tup [.str w, .int j])
  | .dualC c d t r, v => ∃ a b, v = .ref a ∧ H a = some (.tup [.str "dual", .str c, .ref b, .int t, .str r]) ∧ H b = some (.tup [.str "code", .str d])
  | .dualL c j t r, v => ∃ a b, v = .ref a ∧ H a = some (.tup [.str "dual", .str c, .ref b, .int t, .str r]) ∧ H b = some (.tup [.str "layer", .int j])
def actD : Actn → PyData
  | .none => .str "none"
  | .thr => .str "through"
  | .code c => .tuple [.str "code", .str c]
  | .lay w j => .tuple [.str w, .int j]
  | .dualC c d t r => .tuple [.str "dual", .str c, .tuple [.str "code", .str d], .int t, .str r]
  | .dualL c j t r => .tuple [.str "dual", .str c, .tuple [.str "layer", .int j], .int t, .str r]
theorem fit_word {w : Str} (h : w ∈ layWords ∨ w ∈ rules) : Fit 210 0 (.str w) := by
  refine ⟨rfl, Nat.le_refl _, ?_⟩
  unfold layWords rules at h
  simp only [List.mem_cons, List.mem_nil_iff, or_false] at h
  rcases h with (rfl | rfl | rfl) | (rfl | rfl | rfl) <;> decide +kernel
theorem fit_const (w : Str) (h : (reprText w).length ≤ 210 := by decide +kernel) : Fit 210 0 (.str w) := ⟨rfl, Nat.le_refl _, h⟩
theorem fit_two' {a b : PyData} (ha : Fit 210 0 a) (hb : Fit 210 0 b) : Fit 500 1 (.tuple [a, b]) := by
  refine Fit.mono (fit_tup (L := 210) (n := 0) fun d hd => ?_) (by show 2 * 212 + 3 ≤ 500; decide) (Nat.le_refl _)
  simp only [List.mem_cons, List.mem_nil_iff, or_false] at hd
  rcases hd with rfl | rfl
  · exact ha
  · exact hb
theorem fit_five {a b c d e : PyData} (ha : Fit 210 0 a) (hb : Fit 210 0 b) (hc : Fit 500 1 c) (hd : Fit 210 0 d) (he : Fit 210 0 e) : Fit 3000 2 (.tuple [a, b, c, d, e]) := by
  refine Fit.mono (fit_tup (L := 500) (n := 1) fun x hx => ?_) (by show 5 * 502 + 3 ≤ 3000; decide) (Nat.le_refl _)
  simp only [List.mem_cons, List.mem_nil_iff, or_false] at hx
  rcases hx with rfl | rfl | rfl | rfl | rfl
  · exact ha.mono (by decide) (by decide)
  · exact hb.mono (by decide) (by decide)
  · exact hc
  · exact hd.mono (by decide) (by decide)
  · exact he.mono (by decide) (by decide)
theorem fit_low {i : Int} (h : 0 ≤ i) (h2 : i ≤ 1000000000) : Fit 210 0 (.int i) := fit_int (by
  have : (2 : Nat) ^ 200 > 1000000000 := by decide
  omega)
theorem fit_act {n i : Int} {x : Actn} (h : ActOk n i x) (hn : n ≤ 1000) : Fit 3000 2 (actD x) := by
  cases x with
  | none => exact (fit_const "none").mono (by decide) (by decide)
  | thr => exact (fit_const "through").mono (by decide) (by decide)
  | code c => exact (fit_two' (fit_const "code") (fit_code h)).mono (by decide) (by decide)
  | lay w j =>
    obtain ⟨a, b, c⟩ := h
    exact (fit_two' (fit_word (.inl a)) (fit_low (by omega) (by omega))).mono (by decide) (by decide)
  | dualC c d t r =>
    obtain ⟨a, b, ⟨c1, c2⟩, e⟩ := h
    exact fit_five (fit_const "dual") (fit_code a) (fit_two' (fit_const "code") (fit_code b)) (fit_low (by omega) c2) (fit_word (.inr e))
  | dualL c j t r =>
    obtain ⟨a, ⟨b1, b2⟩, ⟨c1, c2⟩, e⟩ := h
    exact fit_five (fit_const "dual") (fit_code a) (fit_two' (fit_const "layer") (fit_low (by omega) (by omega))) (fit_low (by omega) c2) (fit_word (.inr e))

/-! ### heaps in which tuples stay -/
def Tk (H H' : Hp) : Prop := ∀ b xs, H b = some (.tup xs) → H' b = some (.tup xs)
theorem Tk.of {H H' : Hp} (s : Same H H') : Tk H H' := fun b xs h => s _ _ h
theorem Tk.trans {H H1 H2 : Hp} (a : Tk H H1) (b : Tk H1 H2) : Tk H H2 := fun c xs h => b c xs (a c xs h)
theorem Tk.refl (H : Hp) : Tk H H := fun _ _ h => h
theorem tk_upd {H : Hp} {r : Addr} {ys zs : List V} (h : H r = some (.lst ys)) : Tk H (upd H r (.lst zs)) := fun b xs e => by
  rw [upd_ne (ne_of e h (by intro z; cases z))]
  exact e
theorem ActV.keep {H H' : Hp} (t : Tk H H') : ∀ {x : Actn} {v : V}, ActV H x v → ActV H' x v
  | .none, _, h => h
  | .thr, _, h => h
  | .code _, _, ⟨a, e, h⟩ => ⟨a, e, t _ _ h⟩
  | .lay _ _, _, ⟨a, e, h⟩ => ⟨a, e, t _ _ h⟩
  | .dualC _ _ _ _, _, ⟨a, b, e, h, g⟩ => ⟨a, b, e, t _ _ h, t _ _ g⟩
  | .dualL _ _ _ _, _, ⟨a, b, e, h, g⟩ => ⟨a, b, e, t _ _ h, t _ _ g⟩
theorem ActV.dp {K : PySem.W.Frag} {H : Hp} : ∀ {x : Actn} {v : V}, ActV H x v → Dp K H v (actD x)
  | .none, _, h => by cases h; exact .str _
  | .thr, _, h => by cases h; exact .str _
  | .code _, _, ⟨a, e, h⟩ => by cases e; exact .tup (SqT.of h) (.cons (.str _) (.cons (.str _) .nil))
  | .lay _ _, _, ⟨a, e, h⟩ => by cases e; exact .tup (SqT.of h) (.cons (.str _) (.cons (.int _) .nil))
  | .dualC _ _ _ _, _, ⟨a, b, e, h, g⟩ => by
    cases e
    exact .tup (SqT.of h) (.cons (.str _) (.cons (.str _) (.cons (.tup (SqT.of g) (.cons (.str _) (.cons (.str _) .nil))) (.cons (.int _) (.cons (.str _) .nil)))))
  | .dualL _ _ _ _, _, ⟨a, b, e, h, g⟩ => by
    cases e
    exact .tup (SqT.of h) (.cons (.str _) (.cons (.str _) (.cons (.tup (SqT.of g) (.cons (.str _) (.cons (.int _) .nil))) (.cons (.int _) (.cons (.str _) .nil)))))

/-! ### rows and layouts -/
def Acts (H : Hp) (vs : List V) (xs : List Actn) : Prop := vs.length = xs.length ∧ ∀ (i : Nat) (v : V) (x : Actn), vs[i]? = some v → xs[i]? = some x → ActV H x v
def Row (H : Hp) (r : Addr) (xs : List Actn) : Prop := ∃ vs, H r = some (.lst vs) ∧ Acts H vs xs
def Rows (H : Hp) (rs : List Addr) (L : List (List Actn)) : Prop := rs.length = L.length ∧ ∀ (i : Nat) (r : Addr) (row : List Actn), rs[i]? = some r → L[i]? = some row → Row H r row
def Lay (H : Hp) (c : Addr) (L : List (List Actn)) : Prop := ∃ rs : List Addr, H c = some (.lst (rs.map V.ref)) ∧ Rows H rs L
def rowD (xs : List Actn) : PyData := .list (xs.map actD)
def layD (L : List (List Actn)) : PyData := .list (L.map rowD)
structure LayOk (L : List (List Actn)) (m : Nat) : Prop where
  n1 : 1 ≤ L.length
  n6 : L.length ≤ 6
  m1 : 1 ≤ m
  m16 : m ≤ 16
  len : ∀ row ∈ L, row.length = m
  ok : ∀ (i : Nat) (row : List Actn), L[i]? = some row → ∀ x ∈ row, ActOk L.length i x
section
variable {H H' : Hp} {c r : Addr} {vs : List V} {xs : List Actn} {rs : List Addr} {L : List (List Actn)} {m : Nat}
theorem Acts.nil : Acts H [] [] := ⟨rfl, fun i v x h _ => by simp at h⟩
theorem Acts.keep (h : Acts H vs xs) (t : Tk H H') : Acts H' vs xs := ⟨h.1, fun i v x a b => (h.2 i v x a b).keep t⟩
theorem Acts.at_ (h : Acts H vs xs) {i : Nat} (hi : i < xs.length) : ∃ v, vs[i]? = some v ∧ ActV H xs[i] v := by
  have hl := h.1
  exact ⟨vs[i], List.getElem?_eq_getElem (by omega), h.2 i _ _ (List.getElem?_eq_getElem (by omega)) (List.getElem?_eq_getElem hi)⟩
theorem Acts.snoc {v : V} {x : Actn} (h : Acts H vs xs) (hv : ActV H x v) : Acts H (vs ++ [v]) (xs ++ [x]) := by
  refine ⟨by rw [List.length_append, List.length_append, h.1]; rfl, fun i u y a b => ?_⟩
  have hl := h.1
  rcases Nat.lt_or_ge i vs.length with q | q
  · rw [List.getElem?_append_left q] at a
    rw [List.getElem?_append_left (by omega)] at b
    exact h.2 i u y a b
  · have hi : i = vs.length := by
      have := (List.getElem?_eq_some_iff.mp a).1
      rw [List.length_append] at this
      simp at this
      omega
    subst hi
    rw [List.getElem?_append_right (Nat.le_refl _), Nat.sub_self] at a
    rw [List.getElem?_append_right (by omega), show vs.length - xs.length = 0 by omega] at b
    have e1 : v = u := Option.some.inj a
    have e2 : x = y := Option.some.inj b
    subst e1 e2
    exact hv
theorem Acts.set {v : V} {x : Actn} {j : Nat} (h : Acts H vs xs) (hv : ActV H x v) : Acts H (vs.set j v) (xs.set j x) := by
  refine ⟨by rw [List.length_set, List.length_set, h.1], fun i u y a b => ?_⟩
  have hl := h.1
  by_cases z : j = i
  · subst z
    have hj : j < vs.length := by
      have := (List.getElem?_eq_some_iff.mp a).1
      rwa [List.length_set] at this
    rw [List.getElem?_set_self hj] at a
    rw [List.getElem?_set_self (by omega)] at b
    have e1 : v = u := Option.some.inj a
    have e2 : x = y := Option.some.inj b
    subst e1 e2
    exact hv
  · rw [List.getElem?_set_ne z] at a b
    exact h.2 i u y a b
theorem Row.same (h : Row H r xs) (s : Same H H') : Row H' r xs := by
  obtain ⟨vs, a, b⟩ := h
  exact ⟨vs, s _ _ a, b.keep (Tk.of s)⟩
theorem Rows.same (h : Rows H rs L) (s : Same H H') : Rows H' rs L := ⟨h.1, fun i r row a b => (h.2 i r row a b).same s⟩
theorem Lay.same (h : Lay H c L) (s : Same H H') : Lay H' c L := by
  obtain ⟨rs, a, b⟩ := h
  exact ⟨rs, s _ _ a, b.same s⟩
theorem Rows.at_ (h : Rows H rs L) {i : Nat} (hi : i < L.length) : ∃ r, rs[i]? = some r ∧ Row H r L[i] := by
  have hl := h.1
  exact ⟨rs[i], List.getElem?_eq_getElem (by omega), h.2 i _ _ (List.getElem?_eq_getElem (by omega)) (List.getElem?_eq_getElem hi)⟩
theorem Acts.dp {K : PySem.W.Frag} : ∀ {vs : List V} {xs : List Actn}, Acts H vs xs → DpAll K H vs (xs.map actD)
  | [], [], _ => .nil
  | [], _ :: _, h => by have := h.1; simp at this
  | _ :: _, [], h => by have := h.1; simp at this
  | v :: vs, x :: xs, h => .cons ((h.2 0 v x rfl rfl).dp) (Acts.dp ⟨by have := h.1; simpa using this, fun i u y a b => h.2 (i + 1) u y (by simpa using a) (by simpa using b)⟩)
theorem Row.dp {K : PySem.W.Frag} (h : Row H r xs) : Dp K H (.ref r) (rowD xs) := by
  obtain ⟨vs, a, b⟩ := h
  exact .lst (SqL.of a) b.dp
theorem Rows.dp {K : PySem.W.Frag} : ∀ {rs : List Addr} {L : List (List Actn)}, Rows H rs L → DpAll K H (rs.map V.ref) (L.map rowD)
  | [], [], _ => .nil
  | [], _ :: _, h => by have := h.1; simp at this
  | _ :: _, [], h => by have := h.1; simp at this
  | r :: rs, row :: L, h => .cons ((h.2 0 r row rfl rfl).dp) (Rows.dp ⟨by have := h.1; simpa using this, fun i u y a b => h.2 (i + 1) u y (by simpa using a) (by simpa using b)⟩)
theorem Lay.dp {K : PySem.W.Frag} (h : Lay H c L) : Dp K H (.ref c) (layD L) := by
  obtain ⟨rs, a, b⟩ := h
  exact .lst (SqL.of a) b.dp
theorem LayOk.fit (h : LayOk L m) : Fit 300100 4 (layD L) := by
  refine Fit.mono (fit_list (L := 50000) (n := 3) fun d hd => ?_) (by rw [List.length_map]; have := h.n6; omega) (Nat.le_refl _)
  obtain ⟨row, hr, rfl⟩ := List.mem_map.mp hd
  obtain ⟨i, hi⟩ := List.getElem?_of_mem hr
  refine Fit.mono (fit_list (L := 3000) (n := 2) fun d hd => ?_) (by rw [List.length_map, h.len row hr]; have := h.m16; omega) (Nat.le_refl _)
  obtain ⟨x, hx, rfl⟩ := List.mem_map.mp hd
  exact fit_act (h.ok i row hi x hx) (by have := h.n6; omega)
theorem LayOk.set (h : LayOk L m) {i j : Nat} {x : Actn} {row : List Actn} (hi : L[i]? = some row) (hx : ActOk L.length i x) : LayOk (L.set i (row.set j x)) m := by
  have hil := (List.getElem?_eq_some_iff.mp hi).1
  refine ⟨by rw [List.length_set]; exact h.n1, by rw [List.length_set]; exact h.n6, h.m1, h.m16, fun r hr => ?_, fun k r hk y hy => ?_⟩
  · rcases List.mem_or_eq_of_mem_set hr with q | q
    · exact h.len r q
    · rw [q, List.length_set]; exact h.len row (List.mem_of_getElem? hi)
  · rw [List.length_set]
    by_cases z : i = k
    · subst z
      rw [List.getElem?_set_self hil] at hk
      have e : row.set j x = r := Option.some.inj hk
      subst e
      rcases List.mem_or_eq_of_mem_set hy with q | q
      · exact h.ok i row hi y q
      · rw [q]; exact hx
    · rw [List.getElem?_set_ne z] at hk
      exact h.ok k r hk y hy
end
theorem inv_str (k : Str) : ∀ ws : List Str, inV (.str k) (ws.map V.str) = decide (k ∈ ws)
  | [] => rfl
  | n :: ns => by
    show (eqV (.str n) (.str k) || inV (.str k) (ns.map V.str)) = _
    rw [inv_str k ns]
    have e : eqV (.str n) (.str k) = decide (n = k) := by
      by_cases z : n = k <;> simp [eqV, z]
    rw [e]
    by_cases z : n = k
    · subst z; simp
    · have z' : ¬ k = n := fun q => z q.symm
      simp [z, z']
end La

set_option Elab.async false
set_option linter.all false
set_option maxRecDepth 100000
set_option maxHeartbeats 4000000
namespace La
open PySem PySem.Spec PyProof.Rows L2 Gd Rm
/-! max of a list of ints, with a value for none -/
def maxOr (n : Int) : List Int → Int
  | [] => n
  | y :: ys => ys.foldl max y
def rMaxDf (K : PySem.W.Frag) : List V → List V → Hp → VK → Prop := fun vs zs H Q => ∃ (a : Addr) (ns : List Int) (n : Int), vs = [.ref a] ∧ zs = [.int n] ∧ SqL K H a (ns.map V.int) ∧ Q (.int (maxOr n ns)) H
theorem reads_ints (h : Heap) : ∀ {us : List Value} {ns : List Int}, IntsAre us ns → ∃ as, ReadsAll h us (ns.map PyData.int) as
  | [], [], _ => ⟨_, .nil⟩
  | [], _ :: _, r => by cases r
  | _ :: _, [], r => by cases r
  | _ :: us, n :: ns, r => by
    cases r with
    | cons _ t rs =>
      obtain ⟨as, k⟩ := reads_ints h rs
      exact ⟨_, .cons (.int _ _) k⟩
theorem alike_ints (ns : List Int) : PySem.W.AlikeAll (ns.map PyData.int) := by
  refine ⟨fun x hx y hy => ?_, fun x hx => ?_⟩
  · obtain ⟨a, _, rfl⟩ := List.mem_map.mp hx
    obtain ⟨b, _, rfl⟩ := List.mem_map.mp hy
    rfl
  · obtain ⟨a, _, rfl⟩ := List.mem_map.mp hx
    intro z
    cases z
theorem cr_maxDf {X : Cx} {k : Nat} (hc : X.calm = true) (hr : Room k X.A) : CallRK X (.builtin "max") [Str.ofString "default"] (rMaxDf X.K) := by
  intro pins s σ H vs zs us ws Q I r rz h
  obtain ⟨a, ns, n, rfl, rfl, hs, q⟩ := h
  obtain rfl := Vals.ref1 r
  obtain ⟨w1, rfl, e1⟩ := vals1 rz
  obtain ⟨its, rv, hl, _⟩ := I.list hs
  have hi := rv.ints
  obtain ⟨as, hra⟩ := reads_ints s.heap hi
  have hu := hr.un
  have hd : PyData.depthAll (ns.map PyData.int) = 0 := (lay_ints ns).2
  refine PySem.W.max_list_default (d := w1) (I.ok.hd hc) hl.isList (by simpa using hra) (alike_ints ns) (by rw [hd]; omega) (fun e h' tk hk => ?_) (fun y ys i v h' tk bs e hv hR hk => ?_)
  · have e : ns = [] := by
      cases ns with
      | nil => rfl
      | cons _ _ => cases e
    subst e
    exact ⟨.int n, H, I.kept hk, e1, q⟩
  · cases ns with
    | nil => cases e
    | cons m ms =>
      have e1' : PyData.int m = y := (List.cons.inj e).1
      have e2' : ms.map PyData.int = ys := (List.cons.inj e).2
      subst e1' e2'
      rw [PySem.W.maxD_ints] at hR
      cases hR
      exact ⟨.int (maxOr n (m :: ms)), H, I.kept hk, ⟨_, rfl⟩, q⟩
end La

set_option Elab.async false
set_option linter.all false
set_option maxRecDepth 100000
set_option maxHeartbeats 4000000
/-! repr of any data; bounds in the heap -/
namespace Gd
open PySem PySem.Spec PyProof.Rows L2
def rRepA (K : PySem.W.Frag) : List V → Hp → VK → Prop := fun xs H Q => ∃ (v : V) (d : PyData), xs = [v] ∧ Dp K H v d ∧
  d.showable = true ∧ d.depth ≤ 50 ∧ d.shown.length ≤ sizeLine ∧ Q (.str d.shown) H
theorem call_repA {X : Cx} {k : Nat} (hg : X.A.guards = some []) (hr : Room k X.A) : CallR X (.builtin "repr") (rRepA X.K) := by
  intro pins s σ H xs us Q I r h
  obtain ⟨v, d, rfl, hd, hs, hdp, hz, q⟩ := h
  cases d with
  | list ds =>
    cases hd with
    | lst h1 h2 => exact call_rep hg hr pins s σ H _ us Q I r ⟨_, _, rfl, .lst h1 h2, hs, hdp, hz, q⟩
  | tuple ds =>
    cases hd with
    | tup h1 h2 => exact call_rep hg hr pins s σ H _ us Q I r ⟨_, _, rfl, .tup h1 h2, hs, hdp, hz, q⟩
  | dict ds => cases hd
  | none =>
    cases hd
    obtain ⟨u, rfl, ru⟩ := vals1 r
    cases ru
    exact PySem.P.repr_of_none ⟨.str _, H, I.tok _, ⟨_, rfl⟩, q⟩
  | bool b =>
    cases hd
    obtain ⟨u, rfl, ru⟩ := vals1 r
    cases ru
    exact PySem.P.repr_of_bool ⟨.str _, H, I.tok _, ⟨_, rfl⟩, q⟩
  | int i =>
    cases hd
    obtain ⟨u, rfl, ⟨t, rfl⟩⟩ := vals1 r
    exact PySem.P.repr_of_int (of_decide_eq_true hs) ⟨.str _, H, I.tok _, ⟨_, rfl⟩, q⟩
  | str z =>
    cases hd
    obtain ⟨u, rfl, ⟨t, rfl⟩⟩ := vals1 r
    exact PySem.P.repr_of_str ⟨.str _, H, I.tok _, ⟨_, rfl⟩, q⟩ hz
end Gd

set_option Elab.async false
set_option linter.all false
set_option maxRecDepth 100000
set_option maxHeartbeats 4000000
/-! combos, and the pieces of a record -/
namespace Cb
open PySem PySem.Spec PyProof.Rows L2 Gd Rm La
structure Cmb where
  ks : List Int
  t : Int
  c : Str
structure CmbOk (many : Int) (cb : Cmb) : Prop where
  asc : cb.ks.Pairwise (· < ·)
  len : cb.ks.length = 2 ∨ cb.ks.length = 3
  key : ∀ k ∈ cb.ks, 0 ≤ k ∧ k < many
  time : 1 ≤ cb.t ∧ cb.t ≤ 10 ^ 9
  code : CodeOk cb.c
def CmbV (H : Hp) (cb : Cmb) (v : V) : Prop := ∃ a k, v = .ref a ∧ H a = some (.tup [.ref k, .int cb.t, .str cb.c]) ∧ H k = some (.tup (cb.ks.map V.int))
theorem CmbV.tk {H H' : Hp} {cb : Cmb} {v : V} (h : CmbV H cb v) (t : Tk H H') : CmbV H' cb v := by
  obtain ⟨a, k, e, h1, h2⟩ := h
  exact ⟨a, k, e, t _ _ h1, t _ _ h2⟩
/-- a list of combos -/
def Cmbs (H : Hp) (c : Addr) (cbs : List Cmb) : Prop := ∃ vs : List V, H c = some (.lst vs) ∧ vs.length = cbs.length ∧ ∀ (i : Nat) (v : V) (cb : Cmb), vs[i]? = some v → cbs[i]? = some cb → CmbV H cb v
theorem Cmbs.same {H H' : Hp} {c : Addr} {cbs : List Cmb} (h : Cmbs H c cbs) (s : Same H H') : Cmbs H' c cbs := by
  obtain ⟨vs, a, b, d⟩ := h
  exact ⟨vs, s _ _ a, b, fun i v cb x y => (d i v cb x y).tk (Tk.of s)⟩
theorem Cmbs.go {H H' : Hp} {c : Addr} {cbs : List Cmb} (h : Cmbs H c cbs) (t : Tk H H') (e : ∀ vs, H c = some (.lst vs) → H' c = some (.lst vs)) : Cmbs H' c cbs := by
  obtain ⟨vs, a, b, d⟩ := h
  exact ⟨vs, e _ a, b, fun i v cb x y => (d i v cb x y).tk t⟩
theorem Cmbs.at_ {H : Hp} {cbs : List Cmb} {vs : List V} (h : vs.length = cbs.length ∧ ∀ (i : Nat) (v : V) (cb : Cmb), vs[i]? = some v → cbs[i]? = some cb → CmbV H cb v) {i : Nat} (hi : i < cbs.length) :
    ∃ a k, vs[i]? = some (.ref a) ∧ H a = some (.tup [.ref k, .int cbs[i].t, .str cbs[i].c]) ∧ H k = some (.tup (cbs[i].ks.map V.int)) := by
  obtain ⟨hl, hv⟩ := h
  have hi' : i < vs.length := by omega
  obtain ⟨a, k, e, h1, h2⟩ := hv i vs[i] cbs[i] (List.getElem?_eq_getElem hi') (List.getElem?_eq_getElem hi)
  exact ⟨a, k, by rw [List.getElem?_eq_getElem hi', e], h1, h2⟩
/-- combos for so many keys -/
structure CbsOk (many : Int) (cbs : List Cmb) : Prop where
  all : ∀ cb ∈ cbs, CmbOk many cb
  few : cbs.length ≤ 6
  apart : (cbs.map Cmb.ks).Nodup
theorem CbsOk.nil (many : Int) : CbsOk many [] := ⟨fun cb h => by simp at h, by decide, List.nodup_nil⟩
def ksD (ks : List Int) : PyData := .tuple (ks.map PyData.int)
def cmbD (cb : Cmb) : PyData := .tuple [ksD cb.ks, .int cb.t, .str cb.c]
def cmbsD (cbs : List Cmb) : PyData := .list (cbs.map cmbD)
theorem CmbV.dp {K : PySem.W.Frag} {H : Hp} {cb : Cmb} {v : V} (h : CmbV H cb v) : Dp K H v (cmbD cb) := by
  obtain ⟨a, k, rfl, h1, h2⟩ := h
  exact .tup (SqT.of h1) (.cons (.tup (SqT.of h2) (dpInts _)) (.cons (.int _) (.cons (.str _) .nil)))
theorem dpAll_idx {α : Type} {K : PySem.W.Frag} {H : Hp} {g : α → PyData} {R : α → V → Prop} (hg : ∀ x v, R x v → Dp K H v (g x)) : ∀ (vs : List V) (xs : List α), vs.length = xs.length → (∀ (i : Nat) (v : V) (x : α), vs[i]? = some v → xs[i]? = some x → R x v) → DpAll K H vs (xs.map g)
  | [], [], _, _ => .nil
  | [], _ :: _, h, _ => by simp at h
  | _ :: _, [], h, _ => by simp at h
  | v :: vs, x :: xs, h, f => .cons (hg x v (f 0 v x rfl rfl)) (dpAll_idx hg vs xs (by simpa using h) fun i v x a b => f (i + 1) v x (by simpa using a) (by simpa using b))
theorem Cmbs.dp {K : PySem.W.Frag} {H : Hp} {c : Addr} {cbs : List Cmb} (h : Cmbs H c cbs) : Dp K H (.ref c) (cmbsD cbs) := by
  obtain ⟨vs, a, b, d⟩ := h
  exact .lst (SqL.of a) (dpAll_idx (R := CmbV H) (fun x v h => h.dp) vs cbs b d)
theorem fit_cmb {many : Int} {cb : Cmb} (hm : many ≤ 1000) (h : CmbOk many cb) : Fit 4000 2 (cmbD cb) := by
  have hk : Fit 1000 1 (ksD cb.ks) := by
    refine Fit.mono (fit_tup (L := 210) (n := 0) fun d hd => ?_) (by rw [List.length_map]; have := h.len; omega) (Nat.le_refl _)
    obtain ⟨v, hv, rfl⟩ := List.mem_map.mp hd
    have := h.key v hv
    exact fit_int (by omega)
  have ht := h.time
  refine Fit.mono (fit_tup (L := 1000) (n := 1) fun d hd => ?_) (by show 3 * 1002 + 3 ≤ 4000; decide) (Nat.le_refl _)
  simp only [List.mem_cons, List.mem_nil_iff, or_false] at hd
  rcases hd with rfl | rfl | rfl
  · exact hk
  · exact Fit.mono (fit_int (by omega)) (by decide) (by decide)
  · exact Fit.mono (fit_code h.code) (by decide) (by decide)
theorem fit_cmbs {many : Int} {cbs : List Cmb} (hm : many ≤ 1000) (h : CbsOk many cbs) : Fit 40000 3 (cmbsD cbs) := by
  refine Fit.mono (fit_list (L := 4000) (n := 2) fun d hd => ?_) (by rw [List.length_map]; have := h.few; omega) (Nat.le_refl _)
  obtain ⟨cb, hc, rfl⟩ := List.mem_map.mp hd
  exact fit_cmb hm (h.all cb hc)
theorem lay_cmb (cb : Cmb) (hc : CodeOk cb.c) : PyData.canLay0 (cmbD cb) = true ∧ PyData.depth (cmbD cb) = 2 := by
  obtain ⟨a, b⟩ := lay_ints cb.ks
  refine ⟨?_, ?_⟩
  · show (PyData.canLayAll0 (cb.ks.map PyData.int) && (PyData.canLay0 (.int cb.t) && (PyData.canLay0 (.str cb.c) && true))) = true
    have hs : PyData.strOk cb.c = true := by
      unfold PyData.strOk
      rw [← Array.all_toList, List.all_eq_true]
      have all : ∀ y ∈ signs.cps.toList, decide (y < 0x110000) = true := by decide +kernel
      exact fun y hy => all y (hc.2.2 y hy)
    rw [a]; simp [PyData.canLay0, hs]
  · show max (PyData.depthAll (cb.ks.map PyData.int) + 1) (max 0 (max 0 0)) + 1 = 2
    rw [b]; rfl
theorem lay_cmbs : ∀ cbs : List Cmb, (∀ cb ∈ cbs, CodeOk cb.c) → PyData.canLayAll0 (cbs.map cmbD) = true ∧ PyData.depthAll (cbs.map cmbD) ≤ 2
  | [], _ => ⟨rfl, by decide⟩
  | cb :: cbs, h => by
    obtain ⟨a, b⟩ := lay_cmbs cbs fun c hc => h c (List.mem_cons_of_mem _ hc)
    obtain ⟨x, y⟩ := lay_cmb cb (h cb List.mem_cons_self)
    refine ⟨?_, ?_⟩
    · show (PyData.canLay0 (cmbD cb) && PyData.canLayAll0 (cbs.map cmbD)) = true
      rw [x, a]; rfl
    · show max (PyData.depth (cmbD cb)) (PyData.depthAll (cbs.map cmbD)) ≤ 2
      omega
theorem shaped_cmbs (cbs : List Cmb) (h : ∀ cb ∈ cbs, CodeOk cb.c) : SeqAt.shaped (cmbsD cbs) = true := by
  obtain ⟨a, b⟩ := lay_cmbs cbs h
  show (PyData.canLayAll0 (cbs.map cmbD) && decide (PyData.depthAll (cbs.map cmbD) + 1 ≤ 64)) = true
  rw [a, decide_eq_true (by omega)]; rfl
theorem shaped_ks (ks : List Int) : SeqAt.shaped (ksD ks) = true := by
  obtain ⟨a, b⟩ := lay_ints ks
  show (PyData.canLayAll0 (ks.map PyData.int) && decide (PyData.depthAll (ks.map PyData.int) + 1 ≤ 64)) = true
  rw [a, b]; rfl
theorem lay_kss : ∀ kss : List (List Int), PyData.canLayAll0 (kss.map ksD) = true ∧ PyData.depthAll (kss.map ksD) ≤ 1
  | [] => ⟨rfl, by decide⟩
  | ks :: kss => by
    obtain ⟨a, b⟩ := lay_kss kss
    obtain ⟨x, y⟩ := lay_ints ks
    refine ⟨?_, ?_⟩
    · show (PyData.canLayAll0 (ks.map PyData.int) && PyData.canLayAll0 (kss.map ksD)) = true
      rw [x, a]; rfl
    · show max (PyData.depthAll (ks.map PyData.int) + 1) (PyData.depthAll (kss.map ksD)) ≤ 1
      omega
theorem shaped_kss (kss : List (List Int)) : SeqAt.shaped (.list (kss.map ksD)) = true := by
  obtain ⟨a, b⟩ := lay_kss kss
  show (PyData.canLayAll0 (kss.map ksD) && decide (PyData.depthAll (kss.map ksD) + 1 ≤ 64)) = true
  rw [a, decide_eq_true (by omega)]; rfl
theorem eqv_intsA : ∀ xs ys : List Int, PyData.eqvAll (xs.map PyData.int) (ys.map PyData.int) = decide (xs = ys)
  | [], [] => rfl
  | [], _ :: _ => rfl
  | _ :: _, [] => rfl
  | o :: xs, p :: ys => by
    show (PyData.eqv (.int o) (.int p) && PyData.eqvAll (xs.map PyData.int) (ys.map PyData.int)) = _
    have e : PyData.eqv (.int o) (.int p) = decide (o = p) := by
      by_cases z : o = p
      · subst z; simp [PyData.eqv]
      · simp [PyData.eqv, z]
    rw [e, eqv_intsA xs ys]
    by_cases a : o = p <;> by_cases b : xs = ys <;> simp [a, b]
theorem eqv_intL (xs ys : List Int) : PyData.eqv (.list (xs.map PyData.int)) (.list (ys.map PyData.int)) = decide (xs = ys) := by rw [← eqv_intsA]; rfl
theorem eqv_ks (xs ys : List Int) : PyData.eqv (ksD xs) (ksD ys) = decide (xs = ys) := by rw [← eqv_intsA]; rfl
theorem any_ks (ks : List Int) (kss : List (List Int)) : ((kss.map ksD).any fun z => PyData.eqv z (ksD ks)) = decide (ks ∈ kss) := by
  induction kss with
  | nil => rfl
  | cons x kss ih =>
    rw [List.map_cons, List.any_cons, ih, eqv_ks]
    by_cases a : x = ks
    · subst a; simp
    · have a' : ¬ ks = x := fun e => a e.symm
      by_cases b : ks ∈ kss <;> simp [a, a', b]
/-! ### pieces -/
def Match (cb : Cmb) (s : Nat) (ds : List Ev) : Prop := cb.ks.length = s ∧ cb.ks.Perm ((ds.take s).map Ev.k) ∧ ∃ a b, ds[0]? = some a ∧ ds[s - 1]? = some b ∧ b.t < a.t + cb.t
open Classical in
noncomputable def fp (cbs : List Cmb) (ds : List Ev) : Nat := if ∃ cb ∈ cbs, Match cb 3 ds then 3 else if ∃ cb ∈ cbs, Match cb 2 ds then 2 else 1
theorem match_le {cb : Cmb} {s : Nat} {ds : List Ev} (h : Match cb s ds) : s ≤ ds.length := by
  have a := h.2.1.length_eq
  rw [h.1, List.length_map, List.length_take] at a
  omega
theorem fp_pos (cbs : List Cmb) (ds : List Ev) : 1 ≤ fp cbs ds := by
  unfold fp
  split
  · decide
  · split <;> decide
theorem fp_le (cbs : List Cmb) {ds : List Ev} (h : ds ≠ []) : fp cbs ds ≤ ds.length := by
  unfold fp
  split
  · rename_i q
    obtain ⟨cb, _, m⟩ := q
    exact match_le m
  · split
    · rename_i q
      obtain ⟨cb, _, m⟩ := q
      exact match_le m
    · cases ds with
      | nil => exact absurd rfl h
      | cons _ _ => rw [List.length_cons]; omega
theorem fp_three {cbs : List Cmb} {ds : List Ev} {cb : Cmb} (h : cb ∈ cbs) (m : Match cb 3 ds) : fp cbs ds = 3 := by unfold fp; rw [if_pos ⟨cb, h, m⟩]
theorem fp_two {cbs : List Cmb} {ds : List Ev} {cb : Cmb} (n : ∀ cb ∈ cbs, ¬ Match cb 3 ds) (h : cb ∈ cbs) (m : Match cb 2 ds) : fp cbs ds = 2 := by
  unfold fp
  rw [if_neg (fun ⟨c, hc, q⟩ => n c hc q), if_pos ⟨cb, h, m⟩]
theorem fp_one {cbs : List Cmb} {ds : List Ev} (n : ∀ cb ∈ cbs, ¬ Match cb 3 ds) (n2 : ∀ cb ∈ cbs, ¬ Match cb 2 ds) : fp cbs ds = 1 := by
  unfold fp
  rw [if_neg (fun ⟨c, hc, q⟩ => n c hc q), if_neg (fun ⟨c, hc, q⟩ => n2 c hc q)]
/-- the numbers from a on, below b -/
def seg (a b : Nat) : List Int := (List.range' a (b - a)).map fun k : Nat => (k : Int)
/-- the events from s on, below e -/
def prt (es : List Ev) (s e : Nat) : List Ev := (es.drop s).take (e - s)
inductive Cut (es : List Ev) (cbs : List Cmb) (e : Nat) : Nat → List (List Int) → Prop
  | nil : Cut es cbs e e []
  | cons {s : Nat} {r : List (List Int)} : s < e → Cut es cbs e (s + fp cbs (prt es s e)) r → Cut es cbs e s (seg s (s + fp cbs (prt es s e)) :: r)
/-- from s on, below e, all are downs -/
def Downs (es : List Ev) (s e : Nat) : Prop := ∀ i, s ≤ i → i < e → ∃ ev, es[i]? = some ev ∧ ev.d = true
def Stops (es : List Ev) (e : Nat) : Prop := e = es.length ∨ ∃ ev, es[e]? = some ev ∧ ev.d = false
inductive Due (es : List Ev) (cbs : List Cmb) : Nat → List (List Int) → Prop
  | fin {s : Nat} : es.length ≤ s → Due es cbs s []
  | up {s : Nat} {ev : Ev} {r : List (List Int)} : es[s]? = some ev → ev.d = false → Due es cbs (s + 1) r → Due es cbs s r
  | down {s e : Nat} {r : List (List Int)} : s < e → Downs es s e → Stops es e → Due es cbs (s + fp cbs (prt es s e)) r → Due es cbs s (seg s (s + fp cbs (prt es s e)) :: r)
theorem Downs.le {es : List Ev} {s e : Nat} (h : Downs es s e) (hs : s < e) : e ≤ es.length := by
  obtain ⟨ev, q, _⟩ := h (e - 1) (by omega) (by omega)
  have := (List.getElem?_eq_some_iff.mp q).1
  omega
theorem prt_len {es : List Ev} {s e : Nat} (h : e ≤ es.length) : (prt es s e).length = e - s := by
  unfold prt
  rw [List.length_take, List.length_drop]
  omega
theorem stop_uniq {es : List Ev} {s e e' : Nat} (hs : s < e) (hs' : s < e') (d : Downs es s e) (d' : Downs es s e') (t : Stops es e) (t' : Stops es e') : e = e' := by
  have l := d.le hs
  have l' := d'.le hs'
  rcases Nat.lt_trichotomy e e' with q | q | q
  · rcases t with t | ⟨ev, g, f⟩
    · omega
    · obtain ⟨ev', g', f'⟩ := d' e (by omega) q
      rw [g] at g'
      cases g'
      rw [f] at f'; cases f'
  · exact q
  · rcases t' with t | ⟨ev, g, f⟩
    · omega
    · obtain ⟨ev', g', f'⟩ := d e' (by omega) q
      rw [g] at g'
      cases g'
      rw [f] at f'; cases f'
theorem Due.uniq {es : List Ev} {cbs : List Cmb} {s : Nat} {r : List (List Int)} (h : Due es cbs s r) : ∀ {r' : List (List Int)}, Due es cbs s r' → r = r' := by
  induction h with
  | fin hl =>
    intro r' h'
    cases h' with
    | fin _ => rfl
    | up g _ _ => have := (List.getElem?_eq_some_iff.mp g).1; omega
    | down hs d _ _ => have := d.le hs; omega
  | up g f _ ih =>
    intro r' h'
    cases h' with
    | fin hl => have := (List.getElem?_eq_some_iff.mp g).1; omega
    | up g' f' h' => exact ih h'
    | down hs d _ _ =>
      obtain ⟨ev', g', f'⟩ := d _ (Nat.le_refl _) hs
      rw [g] at g'
      cases g'
      rw [f] at f'; cases f'
  | down hs d t _ ih =>
    intro r' h'
    cases h' with
    | fin hl => have := d.le hs; omega
    | up g f h' =>
      obtain ⟨ev', g', f'⟩ := d _ (Nat.le_refl _) hs
      rw [g] at g'
      cases g'
      rw [f] at f'; cases f'
    | down hs' d' t' h' =>
      have e := stop_uniq hs hs' d d' t t'
      subst e
      rw [ih h']
theorem cut_due {es : List Ev} {cbs : List Cmb} {e : Nat} (t : Stops es e) {r : List (List Int)} (hr : Due es cbs e r) {s : Nat} {r1 : List (List Int)} (h : Cut es cbs e s r1) : Downs es s e → s ≤ e → Due es cbs s (r1 ++ r) := by
  induction h with
  | nil => intro _ _; exact hr
  | @cons s r1 hs _ ih =>
    intro d _
    have hl := prt_len (s := s) (d.le hs)
    have ne : prt es s e ≠ [] := fun z => by rw [z] at hl; simp at hl; omega
    have f := fp_le cbs ne
    rw [hl] at f
    exact Due.down hs d t (ih (fun i a b => d i (by omega) b) (by omega))
end Cb

set_option Elab.async false
set_option linter.all false
set_option maxRecDepth 100000
set_option maxHeartbeats 4000000
/-! a list's slice with a step -/
namespace Gd
open PySem PySem.Spec PyProof.Rows L2
def stepIx (n : Nat) (lo hi : Option Int) (k : Int) : List Nat :=
  let b := sliceBounds lo hi (some k) n
  sliceRange b.1 b.2.1 b.2.2
def stepV {α : Type} (xs : List α) (lo hi : Option Int) (k : Int) : List α := (stepIx xs.length lo hi k).filterMap fun i => xs[i]?
def tSlK (K : PySem.W.Frag) (te : TE) (tl th ts : TO) : TE := fun σ H Q => te σ H fun x H1 => tl σ H1 fun l H2 => th σ H2 fun u H3 => ts σ H3 fun y H4 =>
  ∃ (a : Addr) (xs : List V) (k : Int), x = .ref a ∧ y = some k ∧ k ≠ 0 ∧ SqL K H4 a xs ∧ (stepV xs l u k).length ≤ xs.length ∧ ∀ p, H4 p = none → Q (.ref p) (upd H4 p (.lst (stepV xs l u k)))
theorem vals_pick {xs : List V} {us : List Value} (r : Vals xs us) : ∀ is : List Nat, Vals (is.filterMap fun i => xs[i]?) (is.filterMap fun i => us[i]?)
  | [] => .nil
  | i :: is => by
    have ih := vals_pick r is
    rw [List.filterMap_cons, List.filterMap_cons]
    cases h : xs[i]? with
    | none =>
      have : us[i]? = none := by
        rw [List.getElem?_eq_none_iff] at h ⊢
        rw [← r.length]; exact h
      rw [this]
      exact ih
    | some x =>
      obtain ⟨u, hu, ru⟩ := r.get h
      rw [hu]
      exact .cons ru ih
section
variable {X : Cx} {e : Expr} {lo hi : Option Expr} {st : Expr} {p2 pos : Pos} {te : TE} {tl th ts : TO}
theorem pe_slk (he : PE X e te) (hl : PO X lo tl) (hu : PO X hi th) (hs : PO X (some st) ts) : PE X (.Subscript e (.Slice lo hi (some st) p2) pos) (tSlK X.K te tl th ts) := by
  refine ⟨fun pins s σ H Q I h => Subscript_ (thn (he.run pins s σ H _ I h) fun v s1 z1 => ?_)⟩
  obtain ⟨x, H1, I1, r1, q1⟩ := z1
  refine wpAny_Slice (thn (hl.run pins s1 σ H1 _ I1 q1) fun vl s2 z2 => ?_)
  obtain ⟨l, H2, I2, pl, q2⟩ := z2
  refine thn (hu.run pins s2 σ H2 _ I2 q2) fun vu s3 z3 => ?_
  obtain ⟨u, H3, I3, pu, q3⟩ := z3
  refine thn (hs.run pins s3 σ H3 _ I3 q3) fun vs s4 z4 => ?_
  obtain ⟨y, H4, I4, ps, a, xs, k, rfl, rfl, k0, hx, hlen, q⟩ := z4
  have I5 : Inv X pins σ H4 { s4 with heap := s4.heap.push { cls := .type "slice", data := .fields #[vl, vu, vs] } } := I4.kept (t' := s4.toks) fun b o m => Heap.get?_push_of_some _ m
  cases r1
  obtain ⟨its, r, ht, hz⟩ := I5.list hx
  have hn := r.length
  refine tail_any (ops := [.ref a, .ref s4.heap.objs.size]) ht.isList.typeIs slot_list_getitem.lookup ?_ (by with_unfolding_all rfl)
  refine wpAny_getItem_list_slice ht.isList (Heap.IsSliceOf.new ..) pl pu ps (fun m => k0 (Option.some.inj m)) ?_ (by rw [List.size_toArray, ← hn]; exact hz)
  have er : (slicePick its.toArray l u (some k)).toList = (stepIx xs.length l u k).filterMap fun i => its[i]? := by
    unfold slicePick stepIx
    rw [List.size_toArray, hn]
    simp
  have rv := vals_pick r (stepIx xs.length l u k)
  have I6 := I5.laid (t' := s4.toks) (a := (s4.heap.push { cls := .type "slice", data := .fields #[vl, vu, vs] }).objs.size) (o := .lst (stepV xs l u k)) (h' := (s4.heap.push { cls := .type "slice", data := .fields #[vl, vu, vs] }).push { cls := .type "list", data := .seq (slicePick its.toArray l u (some k)) }) (fun b o m => Heap.get?_push_of_some _ m) (Nat.le_refl _)
    ⟨Nat.le_trans hlen (by rw [hn]; omega), _, 0, rv, by rw [← er, Array.toArray_toList]; exact Heap.get?_push_size _ rfl⟩
  exact ⟨.ref _, _, I6, rfl, q _ (I5.hok.fresh (Nat.le_refl _))⟩
end
end Gd

set_option Elab.async false
set_option linter.all false
set_option maxRecDepth 100000
set_option maxHeartbeats 8000000
/-! set(xs) of a list of ints -/
namespace Gd
open PySem PySem.Spec PyProof.Rows L2
/-- a set as it begins -/
abbrev set0 (w : World) : Obj :=
  { cls := .type "set", dict := none,
    data := .set #[] 0 (.fresh 0 0 (!w.params.followText "set-order")) }
section
variable {P : Program} {w : World} {A : Around} {E : Value → Shared → Prop} {s : Shared}
/-- the loop of set.update over a list of ints, from an empty set at S -/
theorem fill_set {h1 : Heap} {l S : Addr} {its : Array Value} {ns : List Int} {g : Array GenState} {d : Drawn} {tk : Nat} {os : OsState}
    (free : A.handled = none) (hS : h1.get? S = some (set0 w)) (hl : h1.IsList l its) (ne : S ≠ l) (hit : IntsAre its.toList ns) (small : ns.length + 1 < scanBound) :
    codeAny (model P w) A (.builtin "set.update.loop" ⟨[.ref S, .ref h1.objs.size], []⟩)
      (fun r s' => ∃ (h' : Heap) (t c : Nat), r = .ok (.ret .none) ∧ s' = ⟨h', g, d, t, os⟩ ∧ SetR w h' S (fun j => decide (j ∈ ns)) c ∧ c ≤ ns.length ∧ ∀ b o, b ≠ S → h1.get? b = some o → h'.get? b = some o)
      ⟨h1.push { cls := .type "list_iterator", data := .fields #[.ref l, .int 0 0] }, g, d, tk, os⟩ := by
  have len : its.size = ns.length := by
    have e := IntsAre.length hit
    rwa [Array.length_toList] at e
  have lS : S < h1.objs.size := Heap.lt_size hS
  obtain ⟨ol, hol, _⟩ := id hl
  have ll : l < h1.objs.size := Heap.lt_size hol
  have out : S ∉ [h1.objs.size, l] := by
    intro m
    rcases List.mem_cons.mp m with e | m
    · exact Nat.ne_of_lt lS e
    · exact ne (List.mem_singleton.mp m)
  have at_ : ∀ (i : Nat) (v : Value), its[i]? = some v → ∃ k t, ns[i]? = some k ∧ v = .int k t := by
    intro i v e
    have hi : i < ns.length := len ▸ (Array.getElem?_eq_some_iff.mp e).1
    obtain ⟨t, z⟩ := IntsAre.int_at hit i v (by rw [Array.getElem?_toList]; exact e)
    exact ⟨ns[i], t, List.getElem?_eq_getElem hi, by rw [z, List.getD_eq_getElem?_getD, List.getElem?_eq_getElem hi]; rfl⟩
  have W := (Walks.list (prog := P) (w := w) (A := A.in1) (by simp [free]) h1.objs.size l (Nat.ne_of_lt ll) its).toS
  refine set_update_ints W S out ns len small at_ its.size 0 _ (by omega) (Nat.zero_le _) ⟨⟨_, Heap.get?_push_size _ rfl, rfl, rfl⟩, hl.push _⟩ ⟨0, Nat.le_refl _, setR_new_at (Heap.get?_push_of_some _ hS)⟩ (fun s' c m hc hR => ?_)
  obtain ⟨h', g', d', t', os'⟩ := s'
  obtain rfl : g' = g := m.gens
  obtain rfl : d' = d := m.drawn
  obtain rfl : os' = os := m.os
  refine ⟨h', t', c, rfl, rfl, hR, by omega, fun b o nb e => ?_⟩
  refine m.heap b o (fun z => ?_) (Heap.get?_push_of_some _ e)
  rcases List.mem_cons.mp z with z | z
  · exact nb z
  · have := Heap.lt_size e
    rw [List.mem_singleton.mp z] at this
    exact Nat.lt_irrefl _ this
theorem set_of_list {l : Addr} {its : Array Value} {ns : List Int} {Q : Value → Shared → Prop} (free : A.handled = none) (hl : s.heap.IsList l its) (hit : IntsAre its.toList ns) (small : ns.length + 1 < scanBound)
    (q : ∀ (h' : Heap) (t c : Nat), SetR w h' s.heap.objs.size (fun j => decide (j ∈ ns)) c → c ≤ ns.length → (∀ b o, s.heap.get? b = some o → h'.get? b = some o) →
      Q (.ref s.heap.objs.size) { s with heap := h', toks := t }) : wpAny (model P w) A (call (.type "set") [.ref l]) Q E s := by
  have K := F.called_set
  obtain ⟨_, _, mro⟩ := K.mro
  have made := K.made
  have sub := K.sub
  have nt := K.notType
  have can := K.canCreate
  have tc := F.typeCall_set_1 (.ref l)
  have look := K.init.lookup
  have bnd := K.init.bind (.ref s.heap.objs.size)
  refine wpAny_call (codeAny_of_tree (show wpAny _ _ (callAny (.type "set") _) _ _ _ from wpAny_pure ⟨Code.quiet_builtin _ (by decide +kernel), codeAny_builtin F.entry_type_call ?_⟩))
  rw [Around.under_plain (weight_type_call_type "set" [.ref l] []) rfl]
  repeat (any_goals (first | assumption | wp_step))
  refine codeAny_mono (code_set_led1 (.ref l) (E := E) (Q₁ := fun o s1 => o = .ref s.heap.objs.size ∧ s1 = { s with heap := s.heap.push (set0 w) }) ⟨rfl, rfl⟩) fun r s1 hr => ?_
  match r, hr with
  | .error _, hr => exact hr
  | .ok .next, hr => exact hr.elim
  | .ok .brk, hr => exact hr.elim
  | .ok .cont, hr => exact hr.elim
  | .ok (.ret o), hr =>
    obtain ⟨e1, e2⟩ := hr
    subst e1 e2
    have hS : (s.heap.push (set0 w)).get? s.heap.objs.size = some (set0 w) := Heap.get?_push_size _ rfl
    have tS : Shared.TypeIs { s with heap := s.heap.push (set0 w) } (.ref s.heap.objs.size) "set" := ⟨_, hS, rfl⟩
    have keep0 : ∀ b o, s.heap.get? b = some o → (s.heap.push (set0 w)).get? b = some o := fun b o e => Heap.get?_push_of_some _ e
    have hl1 := hl.push (set0 w)
    repeat (any_goals (first | assumption | wp_step))
    refine codeAny_mono (codeAny_call_builtin (R := fun r s2 => ∃ (h' : Heap) (t c : Nat), r = .ok (.ret .none) ∧ s2 = ⟨h', s.gens, s.drawn, t, s.os⟩ ∧ SetR w h' s.heap.objs.size (fun j => decide (j ∈ ns)) c ∧ c ≤ ns.length ∧ ∀ b o, s.heap.get? b = some o → h'.get? b = some o)
      K.init.plain F.entry_set_init (check_set_init_1 tS ?_)) (fun r2 s2 hr2 => ?_)
    · obtain ⟨⟨ocls, odict, odata, oslots⟩, hol, hcl, nl, hdl⟩ := id hl1
      have nd : (Value.type "list" == Value.type "dict") = false := by decide
      have s1 := F.sub_list_set
      have s2 := F.sub_list_frozenset
      simp only at hcl hdl
      subst hcl
      subst hdl
      unfold Builtin.«set.__init__» noKeywords Builtin.Frozenset.updateFrom
      generalize hI : pyIter = iter
      wp_walk
      subst hI
      have nSl : s.heap.objs.size ≠ l := by
        obtain ⟨ol, z, _⟩ := hl
        exact Nat.ne_of_gt (Heap.lt_size z)
      refine wpAny_pyIter_list hl1 (wpAny_bind (wpAny_runValue (codeAny_mono (fill_set (A := A.in1.in1) (by simp [free]) hS hl1 nSl hit small) (fun r s' z => ?_))))
      obtain ⟨h', t, c, rfl, rfl, hR, hc, hk⟩ := z
      have old : ∀ b o, s.heap.get? b = some o → h'.get? b = some o := fun b o e => hk b o (Nat.ne_of_lt (Heap.lt_size e)) (keep0 b o e)
      exact wpAny_pure (wpAny_pure ⟨h', t, c, rfl, rfl, hR, hc, old⟩)
    · obtain ⟨h', t, c, rfl, rfl, hR, hc, hk⟩ := hr2
      repeat (any_goals (first | assumption | wp_step))
      exact q h' t c hR hc hk
end
/-- set(xs) of a list of ints: as many members as different numbers -/
def rSetL (K : PySem.W.Frag) (w : World) : List V → Hp → VK → Prop := fun xs H Q => ∃ (l : Addr) (ns : List Int), xs = [.ref l] ∧ SqL K H l (ns.map V.int) ∧ ns.length ≤ 1000 ∧
  ∀ (a : Addr) (c : Nat), H a = none → (∀ ds : List Int, (∀ k ∈ ns, k ∈ ds) → c ≤ ds.length) → Q (.ref a) (upd H a (SetO w a (fun j => decide (j ∈ ns)) c))
theorem setR_few {w : World} {h : Heap} {a : Addr} {ns : List Int} {c : Nat} (R : SetR w h a (fun j => decide (j ∈ ns)) c) (ds : List Int) (hd : ∀ k ∈ ns, k ∈ ds) : c ≤ ds.length := by
  obtain ⟨o, es, ep, t, _, _, _, _, nd, mem, _, _, n, _⟩ := R
  rw [← n, ← Array.length_toList, ← List.length_map (f := keyOf)]
  refine List.Nodup.length_le_of_subset nd fun k hk => ?_
  exact hd k (of_decide_eq_true ((mem k).mpr hk))
theorem cr_setL {X : Cx} (hc : X.calm = true) : CallR X (.type "set") (rSetL X.K X.w) := by
  intro pins s σ H xs us Q I r h
  obtain ⟨l, ns, rfl, hx, hn, q⟩ := h
  rw [Vals.ref1 r]
  obtain ⟨its, rv, pl, _⟩ := I.list hx
  refine set_of_list (I.ok.hd hc) pl.isList (by simpa using rv.ints) (by unfold scanBound; omega) fun h' t c R _ k => ?_
  exact ⟨.ref s.heap.objs.size, _, I.laid (t' := t) k (Nat.le_refl _) (setO_new R), rfl, q _ c (I.hok.fresh (Nat.le_refl _)) (setR_few R)⟩
end Gd

set_option Elab.async false
set_option linter.all false
set_option maxRecDepth 100000
set_option maxHeartbeats 4000000
/-! Own classes in the layer HG: methods, and objects that are made. -/
namespace Gd
open PySem PySem.Spec PyProof.Rows L2
/-- a method that may be called by its name on an object of the class at C -/
structure ClM (P : Program) (w : World) (K : PySem.W.Frag) (mg : Str → Option Value) (base : Heap) (k : Nat) (C : Addr) (m : Str) (sp : Sp) : Prop where
  ex : ∃ (f : Addr) (fd : FuncData) (ps : List Str), FnG P w K mg base k f fd ps sp ∧ Meth K C m f ∧ Binds K fd ps []
structure AtM (K : PySem.W.Frag) (C : Addr) (m q : Str) (st : Stmt) (ps : List Str) : Prop where
  ex : ∃ (f : Addr) (fd : FuncData), Fun K m q st f fd ∧ Meth K C m f ∧ Binds K fd ps []
/-- a class of which an object may be made -/
structure ClI (P : Program) (w : World) (K : PySem.W.Frag) (mg : Str → Option Value) (base : Heap) (k : Nat) (C : Addr) (x : Str) (sp : Sp) : Prop where
  ex : ∃ (f : Addr) (fd : FuncData) (ps : List Str), FnG P w K mg base k f fd ps sp ∧ Mk K C f ∧ mg x = some (.ref C) ∧ Binds K fd ps []
structure AtI (K : PySem.W.Frag) (mg : Str → Option Value) (C : Addr) (x q : Str) (st : Stmt) (ps : List Str) : Prop where
  ex : ∃ (f : Addr) (fd : FuncData), Fun K "__init__" q st f fd ∧ Mk K C f ∧ mg x = some (.ref C) ∧ Binds K fd ps []
section
variable {P : Program} {w : World} {K : PySem.W.Frag} {mg : Str → Option Value} {base : Heap}
theorem clMG {C : Addr} {m q : Str} {st : Stmt} {N ps : List Str} {k : Nat} {sp : Sp} (a : AtM K C m q st ps) (S : FnScope N ps (defScope st))
    (len : ∀ vs H Q E, sp vs H Q E → vs.length = ps.length)
    (hb : ∀ (f : Addr) (cdv : Value) (A : Around) (outer : List Env) (s : Shared) (H : Hp) (vs : List V) (Q : VK),
      A.guards = some [] → Room k (A.deeper (envOfC q (defScope st) s.heap.objs.size f cdv)) → sp vs H Q E0 →
      ∃ t, PSs (cxOf CX0 P w K mg base N q (defScope st) f cdv A outer s H E0).nox (defBody st) t ∧
        t { nx := fun _ H' => Q .non H', rt := Q } (start N vs) H) : ClM P w K mg base (k + 1) C m sp := by
  obtain ⟨f, fd, F, hm, b⟩ := a.ex
  exact ⟨f, fd, ps, fnG F S len (hb f), hm, b⟩
theorem clIG {C : Addr} {x q : Str} {st : Stmt} {N ps : List Str} {k : Nat} {sp : Sp} (a : AtI K mg C x q st ps) (S : FnScope N ps (defScope st))
    (len : ∀ vs H Q E, sp vs H Q E → vs.length = ps.length)
    (hb : ∀ (f : Addr) (cdv : Value) (A : Around) (outer : List Env) (s : Shared) (H : Hp) (vs : List V) (Q : VK),
      A.guards = some [] → Room k (A.deeper (envOfC q (defScope st) s.heap.objs.size f cdv)) → sp vs H Q E0 →
      ∃ t, PSs (cxOf CX0 P w K mg base N q (defScope st) f cdv A outer s H E0).nox (defBody st) t ∧
        t { nx := fun _ H' => Q .non H', rt := Q } (start N vs) H) : ClI P w K mg base (k + 1) C x sp := by
  obtain ⟨f, fd, F, hm, hx, b⟩ := a.ex
  exact ⟨f, fd, ps, fnG F S len (hb f), hm, hx, b⟩
end
section
variable {X : Cx} {k j : Nat} {x m : Str} {C : Addr} {sp : Sp} {p pos apos : Pos} {o e : Expr} {es : List Expr} {t : TA} {ta : TE}
/-- o.m(e, ..) -/
theorem pe_clM {pl : Sem Bool} (c : ClM X.prog X.w X.K X.mg X.base k C m sp) (cc : Cls X.K C) (hg : X.A.guards = some []) (hr : Room j X.A) (hk : k ≤ j) (ho : PE X o ta) (ha : PA X (e :: es) t)
    (hst : starEach (e :: es) X.env = (false, eval e X.env) :: starEach es X.env := by rfl) (hpl : (backTo pos (starEach es X.env)).any (·.1) = false := by rfl)
    (ht : eval (.Call (.Attribute o m apos) (e :: es) [] pos) X.env = (do
      let ov ← eval o X.env
      standAt apos.atName
      let (f, first) ← holding [ov] (getMethod ov m pl)
      callWith pos f first (backTo pos (starEach (e :: es) X.env)) (backToKw pos (keywordEach [] X.env))) := by rfl) :
    PE X (.Call (.Attribute o m apos) (e :: es) [] pos) (tMeth C m sp [] E0 ta t) := by
  obtain ⟨f, fd, ps, F, hm, b⟩ := c.ex
  refine ⟨fun pins s σ H Q I h => ?_⟩
  refine PySem.W.methodCall_KW (pl := pl) (thn (ho.run pins s σ H _ I h) fun u s1 ⟨x, H1, I1, rx, a, dx, fs, ex, ea, l, q⟩ => ?_) ht
  subst ex
  obtain rfl : u = Value.ref a := rx
  refine getmeth_ok I1 ea cc hm l ?_
  refine PySem.W.callWith_K (first := [.ref a]) (h₀ := X.base) I.ok.mod.kin hm.kp (thn (ha.run pos pins s1 σ H1 _ I1 q) fun us s2 ⟨vs, H2, I2, r, q2⟩ => ⟨I2.kIn, ?_⟩) hst hpl
  exact run_cl (us := .ref a :: us) (vs := .ref a :: vs) F hg (hr.mono hk) b I2 (.cons rfl r) (by simpa using q2)
/-- o.m() -/
theorem pe_clM0 {pl : Sem Bool} (c : ClM X.prog X.w X.K X.mg X.base k C m sp) (cc : Cls X.K C) (hg : X.A.guards = some []) (hr : Room j X.A) (hk : k ≤ j) (ho : PE X o ta)
    (ht : eval (.Call (.Attribute o m apos) [] [] pos) X.env = (do
      let ov ← eval o X.env
      standAt apos.atName
      let (f, first) ← holding [ov] (getMethod ov m pl)
      callWith pos f first (backTo pos (starEach [] X.env)) (backToKw pos (keywordEach [] X.env))) := by rfl) :
    PE X (.Call (.Attribute o m apos) [] [] pos) (tMeth C m sp [] E0 ta tNil) := by
  obtain ⟨f, fd, ps, F, hm, b⟩ := c.ex
  refine ⟨fun pins s σ H Q I h => ?_⟩
  refine PySem.W.methodCall_KW (pl := pl) (thn (ho.run pins s σ H _ I h) fun u s1 ⟨x, H1, I1, rx, a, dx, fs, ex, ea, l, q⟩ => ?_) ht
  subst ex
  obtain rfl : u = Value.ref a := rx
  refine getmeth_ok I1 ea cc hm l ?_
  exact PySem.W.callWith_K0 (first := [.ref a]) I1.kIn hm.kp (run_cl (us := [.ref a]) (vs := [.ref a]) F hg (hr.mono hk) b I1 (.cons rfl .nil) q)
theorem run_clI {f : Addr} {fd : FuncData} {ps : List Str} {pins : List (Addr × Obj)} {σ : L2.St} {H : Hp} {s : Shared} {Q : VK} {us : List Value} {vs : List V} (M : Mk X.K C f) (F : FnG X.prog X.w X.K X.mg X.base k f fd ps sp) (hg : X.A.guards = some []) (hr : Room (k + 1) X.A) (hb : Binds X.K fd ps [])
    (I : Inv X pins σ H s) (r : Vals vs us)
    (h : ∀ x dx, H x = none → H dx = none → dx ≠ x → sp (.ref x :: vs) (upd (upd H dx (.own x)) x (.ins C dx [])) (fun v H2 => v = .non ∧ Q (.ref x) H2) E0) :
    wpAny (model X.prog X.w) X.A (call (.ref C) us) (EP X pins σ Q) X.xe s := by
  have hq := h (s.heap.objs.size + 1) s.heap.objs.size (I.hok.fresh (Nat.le_succ _)) (I.hok.fresh (Nat.le_refl _)) (Nat.ne_of_lt (Nat.lt_succ_self _))
  have I2 := Inv.made (C := C) I
  have r2 : Vals (V.ref (s.heap.objs.size + 1) :: vs) (Value.ref (s.heap.objs.size + 1) :: us) := .cons rfl r
  have hl : (Value.ref (s.heap.objs.size + 1) :: us).length = ps.length := by
    have e := r2.length
    rw [F.len _ _ _ _ hq] at e
    exact e.symm
  have bt := hb _ (Value.ref (s.heap.objs.size + 1) :: us) I2.kIn (by simpa using hl)
  rw [List.append_nil] at bt
  refine wpAny_call (make_map (f := f) I.kIn M.makes M.init (beq_iff_eq.mp M.fn) (codeAny_mono (F.go _ X.stack _ _ ⟨Value.ref (s.heap.objs.size + 1) :: us, []⟩ (Value.ref (s.heap.objs.size + 1) :: us) _ _ hg (hr.make C us [])
    (I2.env0.make C us []) bt r2 hq) fun r s' hq' => ?_))
  match r, hq' with
  | .ok (.ret u), hq' =>
    obtain ⟨v, H', I3, rv, ev, q3⟩ := I2.after hq'
    subst ev
    exact ⟨rv, ⟨V.ref (s.heap.objs.size + 1), H', I3, rfl, q3⟩⟩
  | .ok .next, hq' => exact False.elim hq'
  | .ok .brk, hq' => exact False.elim hq'
  | .ok .cont, hq' => exact False.elim hq'
  | .error _, hq' => exact False.elim hq'
/-- C(e, ..) -/
theorem pe_clI (c : ClI X.prog X.w X.K X.mg X.base k C x sp) (hg : X.A.guards = some []) (hr : Room j X.A) (hk : k + 1 ≤ j) (gl : Gl X x) (ha : PA X (e :: es) t)
    (hdb : (x == ("__debug__" : Str)) = false := by decide) (he : starEach (e :: es) X.env = (false, eval e X.env) :: starEach es X.env := by rfl) (hpl : (backTo pos (starEach es X.env)).any (·.1) = false := by rfl) :
    PE X (.Call (.Name x p) (e :: es) [] pos) (tMake C sp [] E0 t) := by
  obtain ⟨f, fd, ps, F, M, hm, b⟩ := c.ex
  refine ⟨fun pins s σ H Q I h => ?_⟩
  refine wpAny_Call_Name_kw (ld_glob I gl hm ?_ hdb)
  refine PySem.W.callWith_K (h₀ := X.base) I.ok.mod.kin M.kp (thn (ha.run pos pins s σ H _ I h) fun us s1 ⟨vs, H1, I1, r, q⟩ => ⟨I1.kIn, ?_⟩) he hpl
  exact run_clI M F hg (hr.mono hk) b I1 r (by simpa using q)
end
/-! ### list(d.values()) -/
def tListVals (te : TE) : TE := fun σ H Q => te σ H fun x H1 => ∃ (d : Addr) (kvs : List (Key × V)), x = .ref d ∧ H1 d = some (.dK kvs) ∧ ∀ p, H1 p = none → Q (.ref p) (upd H1 p (.lst (kvs.map (·.2))))
theorem kv_vals {kvs : List (Key × V)} {vs : List (Key × Value)} (h : KV kvs vs) : Vals (kvs.map (·.2)) (vs.map (·.2)) := by
  induction h with
  | nil => exact .nil
  | cons h t ih => exact .cons h.2 ih
section
variable {X : Cx} {e : Expr} {te : TE} {p apos cpos pos : Pos}
theorem pe_listVals (hc : X.calm = true) (he : PE X e te) (hg : Gl X "list") (hm : X.mg "list" = none) (hv : bootBuiltins "list" = some (.type "list")) (hbase : attributeBase e "values" X.env (eval e X.env) = eval e X.env := by rfl) (hline : (apos.endLine == cpos.line) = true := by rfl)
    (hs : starEach [.Call (.Attribute e "values" apos) [] [] cpos] X.env = (false, eval (.Call (.Attribute e "values" apos) [] [] cpos) X.env) :: starEach [] X.env := by rfl) :
    PE X (.Call (.Name "list" p) [.Call (.Attribute e "values" apos) [] [] cpos] [] pos) (tListVals te) := by
  refine ⟨fun pins s σ H Q I hq => ?_⟩
  refine wpAny_Call_Name_kw (ld_blt I hg hm hv ?_)
  refine PyProof.Rows.callWith_type1 ?_ hs rfl
  rw [hs]
  show wpAny _ _ (spliced ((false, eval (.Call (.Attribute e "values" apos) [] [] cpos) X.env) :: backTo pos (starEach [] X.env))) _ _ s
  refine Calls.spliced_cons ?_
  refine wpAny_Call_method (T := "dict") (id := "dict.values") hbase rfl hline F.plainAttrs_dict F.slot_dict_values F.type_dict_values (thn (he.run pins s σ H _ I hq) fun u s1 ⟨x, H1, I1, rx, d, kvs, ex, hd, q⟩ => ?_)
  subst ex
  obtain rfl : u = Value.ref d := rx
  obtain ⟨hz, hs0, vs, kv, hdo⟩ := I1.hok d _ hd
  obtain ⟨ep, hat⟩ := hdo.dictAt
  have lk : kvs.length = vs.length := Paired.length kv
  have I2 : Inv X pins σ H1 { s1 with heap := s1.heap.push { cls := .type "dict_values", data := .fields #[.ref d] } } := I1.kept (t' := s1.toks) fun b ob q => Heap.get?_push_of_some _ q
  refine ⟨hdo.typeIs, hdo.mapOf.noDict, ?_⟩
  show wpAny _ _ (callWith cpos (.builtin "dict.values") [.ref d] [] []) _ X.xe s1
  refine method_meetsIn F.slot_dict_values F.entry_dict_values rfl (PySem.evalArgs_none ⟨rfl, hdo.typeIs, F.args_dict_values_1 _, _, PySem.meets_dict_values (mixKind X.prog X.w) d hs0, ⟨vs, hdo⟩, ?_⟩)
  refine Calls.spliced_nil ?_
  refine PySem.W.kdl_call (PySem.W.kdl_values (knd := mixKind X.prog X.w) (kvs := vs) (ep := ep)) (I1.ok.hd hc) ⟨⟨_, Heap.get?_push_size _ rfl, rfl, rfl⟩, hat.push _⟩ (by omega) fun h' tk acc c hk hS hacc => ?_
  have hl : acc.toList = vs.map (·.2) := PySem.W.kdl_vals_eq acc.toList (by rw [Array.length_toList]; exact hacc.1) fun j v e => hacc.2 j v (by rw [← Array.getElem?_toList]; exact e)
  refine ⟨.ref _, _, I2.laid (t' := tk) hk (Nat.le_refl _) (show ObjOk X.prog X.w _ h' _ (.lst (kvs.map (·.2))) from ⟨by rw [List.length_map]; exact hz, acc.toList, c, by rw [hl]; exact kv_vals kv, by rw [Array.toArray_toList]; exact hS⟩), rfl, q _ I2.fresh⟩
end
end Gd

set_option Elab.async false
set_option linter.all false
set_option maxRecDepth 100000
set_option maxHeartbeats 4000000
/-! Playing: the state of the keys, and what each event is. -/
namespace Pl
open PySem PySem.Spec PyProof.Rows L2 Gd Rm La

/-! ### what the keys are bound to -/
abbrev Bd0 := List (Int × Actn)
def putB (bd : Bd0) (k : Int) (x : Actn) : Bd0 := if (bd.any fun p => decide (p.1 = k)) = true then bd.map (fun p => if p.1 = k then (p.1, x) else p) else bd ++ [(k, x)]
def dropB (bd : Bd0) (k : Int) : Bd0 := bd.filter fun p => decide (p.1 ≠ k)
def getB (bd : Bd0) (k : Int) : Option Actn := (bd.find? fun p => decide (p.1 = k)).map (·.2)
abbrev BdR (H : Hp) : (Key × V) → (Int × Actn) → Prop := fun p q => p.1 = Sum.inl q.1 ∧ ActV H q.2 p.2
def Bd (H : Hp) (kvs : List (Key × V)) (bd : Bd0) : Prop := Paired (BdR H) kvs bd
theorem Bd.keep {H H' : Hp} {kvs : List (Key × V)} {bd : Bd0} (h : Bd H kvs bd) (t : Tk H H') : Bd H' kvs bd := by
  unfold Bd at h ⊢
  induction h with
  | nil => exact .nil
  | cons a _ ih => exact .cons ⟨a.1, a.2.keep t⟩ ih
theorem Bd.length {H : Hp} {kvs : List (Key × V)} {bd : Bd0} (h : Bd H kvs bd) : kvs.length = bd.length := by
  unfold Bd at h
  induction h with
  | nil => rfl
  | cons _ _ ih => rw [List.length_cons, List.length_cons, ih]
theorem inl_iff {a b : Int} : ((Sum.inl a : Key) = Sum.inl b) ↔ a = b := ⟨fun h => Sum.inl.inj h, fun h => by rw [h]⟩
theorem Bd.any {H : Hp} {kvs : List (Key × V)} {bd : Bd0} (h : Bd H kvs bd) (k : Int) : (kvs.any fun p => decide (p.1 = (Sum.inl k : Key))) = bd.any fun p => decide (p.1 = k) := by
  unfold Bd at h
  induction h with
  | nil => rfl
  | @cons p q _ _ a _ ih =>
    rw [List.any_cons, List.any_cons, ih, a.1]
    congr 1
    exact decide_eq_decide.mpr inl_iff
theorem Bd.mapP {H : Hp} {kvs : List (Key × V)} {bd : Bd0} (h : Bd H kvs bd) {k : Int} {x : Actn} {v : V} (hx : ActV H x v) :
    Bd H (kvs.map fun p => if p.1 = (Sum.inl k : Key) then (p.1, v) else p) (bd.map fun p => if p.1 = k then (p.1, x) else p) := by
  unfold Bd at h ⊢
  induction h with
  | nil => exact .nil
  | @cons p q _ _ a _ ih =>
    refine .cons ?_ ih
    show BdR H (if p.1 = (Sum.inl k : Key) then (p.1, v) else p) (if q.1 = k then (q.1, x) else q)
    by_cases e : q.1 = k
    · rw [if_pos e, if_pos (by rw [a.1, e])]
      exact ⟨a.1, hx⟩
    · rw [if_neg e, if_neg (fun z => e (inl_iff.mp (a.1.symm.trans z)))]
      exact a
theorem Bd.snoc {H : Hp} {kvs : List (Key × V)} {bd : Bd0} (h : Bd H kvs bd) {p : Key × V} {q : Int × Actn} (a : BdR H p q) : Bd H (kvs ++ [p]) (bd ++ [q]) := by
  unfold Bd at h ⊢
  induction h with
  | nil => exact .cons a .nil
  | cons b _ ih => exact .cons b ih
theorem Bd.put {H : Hp} {kvs : List (Key × V)} {bd : Bd0} (h : Bd H kvs bd) {k : Int} {x : Actn} {v : V} (hx : ActV H x v) : Bd H (putK kvs (Sum.inl k) v) (putB bd k x) := by
  unfold putK putB
  rw [h.any k]
  split
  · exact h.mapP hx
  · exact h.snoc ⟨rfl, hx⟩
theorem Bd.drop {H : Hp} {kvs : List (Key × V)} {bd : Bd0} (h : Bd H kvs bd) (k : Int) : Bd H (dropK kvs (Sum.inl k)) (dropB bd k) := by
  unfold Bd dropK dropB at *
  induction h with
  | nil => exact .nil
  | @cons p q _ _ a _ ih =>
    by_cases e : q.1 = k
    · rw [List.filter_cons_of_neg (by simp [a.1, e]), List.filter_cons_of_neg (by simp [e])]
      exact ih
    · have e' : ¬ p.1 = (Sum.inl k : Key) := fun z => e (inl_iff.mp (a.1.symm.trans z))
      rw [List.filter_cons_of_pos (by simp [e']), List.filter_cons_of_pos (by simp [e])]
      exact .cons a ih
theorem Bd.get {H : Hp} {kvs : List (Key × V)} {bd : Bd0} (h : Bd H kvs bd) (k : Int) : (valV kvs (Sum.inl k) = none ∧ getB bd k = none) ∨ ∃ v x, valV kvs (Sum.inl k) = some v ∧ getB bd k = some x ∧ ActV H x v := by
  unfold Bd at h
  induction h with
  | nil => exact .inl ⟨rfl, rfl⟩
  | @cons p q _ _ a _ ih =>
    by_cases e : q.1 = k
    · refine .inr ⟨p.2, q.2, valV_pos (by rw [a.1, e]), ?_, a.2⟩
      unfold getB
      rw [List.find?_cons_of_pos (by simp [e])]
      rfl
    · have e' : ¬ p.1 = (Sum.inl k : Key) := fun z => e (inl_iff.mp (a.1.symm.trans z))
      rw [valV_neg e']
      have g : ∀ r : Bd0, getB (q :: r) k = getB r k := fun r => by
        unfold getB
        rw [List.find?_cons_of_neg (by simp [e])]
      rw [g]
      exact ih
theorem Bd.dp {K : PySem.W.Frag} {H : Hp} {kvs : List (Key × V)} {bd : Bd0} (h : Bd H kvs bd) : DpAll K H (kvs.map (·.2)) (bd.map fun q => actD q.2) := by
  unfold Bd at h
  induction h with
  | nil => exact .nil
  | cons a _ ih => exact .cons a.2.dp ih
theorem putB_len (bd : Bd0) (k : Int) (x : Actn) : (putB bd k x).length ≤ bd.length + 1 := by
  unfold putB
  split
  · rw [List.length_map]; omega
  · rw [List.length_append]; exact Nat.le_refl _
theorem dropB_len (bd : Bd0) (k : Int) : (dropB bd k).length ≤ bd.length := List.length_filter_le ..
theorem putB_mem {bd : Bd0} {k : Int} {x : Actn} {p : Int × Actn} (h : p ∈ putB bd k x) : p ∈ bd ∨ p = (k, x) := by
  unfold putB at h
  split at h
  · obtain ⟨q, hq, e⟩ := List.mem_map.mp h
    by_cases z : q.1 = k
    · rw [if_pos z] at e; rw [← e, z]; exact .inr rfl
    · rw [if_neg z] at e; rw [← e]; exact .inl hq
  · rcases List.mem_append.mp h with q | q
    · exact .inl q
    · exact .inr (List.mem_singleton.mp q)
theorem dropB_mem {bd : Bd0} {k : Int} {p : Int × Actn} (h : p ∈ dropB bd k) : p ∈ bd := (List.mem_filter.mp h).1
theorem getB_mem {bd : Bd0} {k : Int} {x : Actn} (h : getB bd k = some x) : ∃ p ∈ bd, p.1 = k ∧ p.2 = x := by
  unfold getB at h
  cases e : bd.find? fun p => decide (p.1 = k) with
  | none => rw [e] at h; cases h
  | some p =>
    rw [e] at h
    exact ⟨p, List.mem_of_find?_eq_some e, of_decide_eq_true (List.find?_some (p := fun p : Int × Actn => decide (p.1 = k)) e), Option.some.inj h⟩
/-- what a key may be bound to -/
def BdOk (n : Int) : Actn → Prop
  | .code c => CodeOk c
  | .lay w j => w = ("layer" : String) ∧ 1 ≤ j ∧ j ≤ n - 1
  | _ => False
theorem BdOk.act {n : Int} {x : Actn} (h : BdOk n x) (i : Int) : ActOk n i x := by
  cases x with
  | code c => exact h
  | lay w j => exact ⟨by rw [h.1]; decide +kernel, h.2.1, h.2.2⟩
  | none => exact h.elim
  | thr => exact h.elim
  | dualC _ _ _ _ => exact h.elim
  | dualL _ _ _ _ => exact h.elim
def BdsOk (n : Int) (bd : Bd0) : Prop := ∀ p ∈ bd, BdOk n p.2

/-! ### the state -/
structure Sm where
  lk : List Bool
  on : Int
  bd : Bd0
def isLay (i : Int) : Actn → Bool
  | .lay w j => decide (w = (("layer" : String) : Str)) && decide (j = i)
  | _ => false
def onL (s : Sm) (i : Nat) : Bool := decide (i = 0) || s.lk.getD i false || decide (s.on = i) || s.bd.any fun p => isLay i p.2
def isThr : Actn → Bool
  | .thr => true
  | _ => false
def actAt (L : List (List Actn)) (i k : Nat) : Actn := ((L.getD i []).getD k .none)
def filt (L : List (List Actn)) (s : Sm) (k : Nat) : List Nat := (List.range L.length).filter fun i => !isThr (actAt L i k) && onL s i
def takenL (L : List (List Actn)) (s : Sm) (k : Nat) : Nat := (filt L s k).getLast?.getD 0
def isDl : Actn → Bool
  | .dualC .. => true
  | .dualL .. => true
  | _ => false
def timeOf : Actn → Int
  | .dualC _ _ t _ => t
  | .dualL _ _ t _ => t
  | _ => 0
def ruleOf : Actn → Str
  | .dualC _ _ _ r => r
  | .dualL _ _ _ r => r
  | _ => Str.empty
def tapOf : Actn → Actn
  | .dualC c _ _ _ => .code c
  | .dualL c _ _ _ => .code c
  | x => x
def holdOf : Actn → Actn
  | .dualC _ d _ _ => .code d
  | .dualL _ j _ _ => .lay "layer" j
  | x => x
def press (s : Sm) (k : Int) (x : Actn) : Sm :=
  match x with
  | .code c => { s with on := 0, bd := putB s.bd k (.code c) }
  | .lay w j => if w = ("layer" : String) then { s with on := 0, bd := putB s.bd k (.lay w j) } else if w = ("lock" : String) then { s with on := 0, lk := s.lk.set j.toNat (!s.lk.getD j.toNat false) } else { s with on := j }
  | _ => { s with on := 0 }
def release (s : Sm) (k : Int) : Sm := { s with bd := dropB s.bd k }
def init (n : Nat) : Sm := ⟨List.replicate n false, 0, []⟩

/-! ### deciding events -/
def decEv (own : Int) (rule : Str) : List Int → List Ev → Option Nat
  | _, [] => none
  | inner, e :: r =>
    if e.k = own ∨ (rule = ("other" : String) ∧ e.d = true) then some 0
    else if e.d = true then (decEv own rule (inner ++ [e.k]) r).map (· + 1)
    else if rule = ("within" : String) ∧ e.k ∈ inner then some 0
    else (decEv own rule inner r).map (· + 1)
def decM (es : List Ev) (at_ : Nat) (rule : Str) : Option Nat := (decEv ((es.getD at_ ⟨0, 0, false⟩).k) rule [] (es.drop (at_ + 1))).map (· + (at_ + 1))
def evAt (es : List Ev) (i : Nat) : Ev := es.getD i ⟨0, 0, false⟩
def sureM (es : List Ev) (at_ : Nat) (x : Actn) : Option Nat :=
  match decM es at_ (ruleOf x) with
  | none => none
  | some n => if (evAt es at_).t + timeOf x ≤ (evAt es n).t then none else some n
def tapM (es : List Ev) (at_ : Nat) (sure : Option Nat) : Bool :=
  match sure with
  | none => false
  | some n => decide ((evAt es n).k = (evAt es at_).k)
def kindM (es : List Ev) (at_ : Nat) (x : Actn) : Str := if isDl x then (if tapM es at_ (sureM es at_ x) then "tap" else "hold") else "plain"
def whatM (x : Actn) (kind : Str) : Actn := if kind = ("plain" : String) then x else if kind = ("tap" : String) then tapOf x else holdOf x
/-- what is told of an event: of an up, or of a down -/
inductive Td where
  | up
  | dn (lay : Nat) (kind : Str) (what : Actn) (sure : Option Nat)
def stepS (L : List (List Actn)) (es : List Ev) (i : Nat) (s : Sm) : Sm :=
  if (evAt es i).d then
    let x := actAt L (takenL L s (evAt es i).k.toNat) (evAt es i).k.toNat
    press s (evAt es i).k (whatM x (kindM es i x))
  else release s (evAt es i).k
def stepT (L : List (List Actn)) (es : List Ev) (i : Nat) (s : Sm) : Td :=
  if (evAt es i).d then
    let l := takenL L s (evAt es i).k.toNat
    let x := actAt L l (evAt es i).k.toNat
    .dn l (kindM es i x) (whatM x (kindM es i x)) (if isDl x then sureM es i x else none)
  else .up
def runS (L : List (List Actn)) (es : List Ev) : Nat → Sm
  | 0 => init L.length
  | n + 1 => stepS L es n (runS L es n)
def runT (L : List (List Actn)) (es : List Ev) (i : Nat) : Td := stepT L es i (runS L es i)
end Pl

set_option Elab.async false
set_option linter.all false
set_option maxRecDepth 100000
set_option maxHeartbeats 4000000
namespace K28
open PySem PySem.Spec PyProof.Rows L2 Gd Rm La Cb
def topS (i : Nat) : Stmt := PySem.Challenge.pw_holdtap_k28_whole_each_down_leaves_once.main.body.getD i (.Pass ⟨0, 0, 0, 0⟩)
abbrev s__wall : Stmt := topS 0
abbrev n__wall : List Str := ["k"]
theorem sc__wall : FnScope n__wall ["k"] (defScope s__wall) := ⟨rfl, rfl, rfl, by decide +kernel, rfl, by decide +kernel, by decide +kernel⟩
-- 0 k
abbrev s_come_all : Stmt := topS 2
abbrev n_come_all : List Str := ["machine", "events", "out", "event"]
theorem sc_come_all : FnScope n_come_all ["machine", "events"] (defScope s_come_all) := ⟨rfl, rfl, rfl, by decide +kernel, rfl, by decide +kernel, by decide +kernel⟩
-- 0 machine, 1 events, 2 out, 3 event
abbrev s_run_out : Stmt := topS 3
abbrev n_run_out : List Str := ["machine", "out", "due"]
theorem sc_run_out : FnScope n_run_out ["machine"] (defScope s_run_out) := ⟨rfl, rfl, rfl, by decide +kernel, rfl, by decide +kernel, by decide +kernel⟩
-- 0 machine, 1 out, 2 due
abbrev s_has_all : Stmt := topS 11
abbrev n_has_all : List Str := ["combo", "keys", "key"]
theorem sc_has_all : FnScope n_has_all ["combo", "keys"] (defScope s_has_all) := ⟨rfl, rfl, rfl, by decide +kernel, rfl, by decide +kernel, by decide +kernel⟩
-- 0 combo*, 1 keys, 2 key*
abbrev s_first_piece : Stmt := topS 12
abbrev n_first_piece : List Str := ["downs", "combos", "size", "keys", "index", "combo", "tick", "key"]
theorem sc_first_piece : FnScope n_first_piece ["downs", "combos"] (defScope s_first_piece) := ⟨rfl, rfl, rfl, by decide +kernel, rfl, by decide +kernel, by decide +kernel⟩
-- 0 downs, 1 combos, 2 size, 3 keys, 4 index, 5 combo, 6 tick*, 7 key*
abbrev s_is_an_integer : Stmt := topS 14
abbrev n_is_an_integer : List Str := ["value"]
theorem sc_is_an_integer : FnScope n_is_an_integer ["value"] (defScope s_is_an_integer) := ⟨rfl, rfl, rfl, by decide +kernel, rfl, by decide +kernel, by decide +kernel⟩
-- 0 value
abbrev s_is_between : Stmt := topS 15
abbrev n_is_between : List Str := ["value", "low", "high"]
theorem sc_is_between : FnScope n_is_between ["value", "low", "high"] (defScope s_is_between) := ⟨rfl, rfl, rfl, by decide +kernel, rfl, by decide +kernel, by decide +kernel⟩
-- 0 value, 1 low, 2 high
abbrev s_are_ascending : Stmt := topS 16
abbrev n_are_ascending : List Str := ["values", "many", "at", "value"]
theorem sc_are_ascending : FnScope n_are_ascending ["values", "many"] (defScope s_are_ascending) := ⟨rfl, rfl, rfl, by decide +kernel, rfl, by decide +kernel, by decide +kernel⟩
-- 0 values*, 1 many*, 2 at*, 3 value*
abbrev s_is_code : Stmt := topS 20
abbrev n_is_code : List Str := ["value", "sign"]
theorem sc_is_code : FnScope n_is_code ["value"] (defScope s_is_code) := ⟨rfl, rfl, rfl, by decide +kernel, rfl, by decide +kernel, by decide +kernel⟩
-- 0 value, 1 sign*
abbrev s_is_record : Stmt := topS 23
abbrev n_is_record : List Str := ["value"]
theorem sc_is_record : FnScope n_is_record ["value"] (defScope s_is_record) := ⟨rfl, rfl, rfl, by decide +kernel, rfl, by decide +kernel, by decide +kernel⟩
-- 0 value
abbrev s_is_whole : Stmt := topS 24
abbrev n_is_whole : List Str := ["record"]
theorem sc_is_whole : FnScope n_is_whole ["record"] (defScope s_is_whole) := ⟨rfl, rfl, rfl, by decide +kernel, rfl, by decide +kernel, by decide +kernel⟩
-- 0 record
abbrev s_held_keys : Stmt := topS 25
abbrev n_held_keys : List Str := ["record", "held", "tick", "key", "way"]
theorem sc_held_keys : FnScope n_held_keys ["record"] (defScope s_held_keys) := ⟨rfl, rfl, rfl, by decide +kernel, rfl, by decide +kernel, by decide +kernel⟩
-- 0 record, 1 held*, 2 tick, 3 key, 4 way
abbrev s_check_record : Stmt := topS 26
abbrev n_check_record : List Str := ["value", "many", "held", "index", "event"]
theorem sc_check_record : FnScope n_check_record ["value", "many"] (defScope s_check_record) := ⟨rfl, rfl, rfl, by decide +kernel, rfl, by decide +kernel, by decide +kernel⟩
-- 0 value, 1 many, 2 held, 3 index, 4 event
abbrev s_is_short_list : Stmt := topS 27
abbrev n_is_short_list : List Str := ["value"]
theorem sc_is_short_list : FnScope n_is_short_list ["value"] (defScope s_is_short_list) := ⟨rfl, rfl, rfl, by decide +kernel, rfl, by decide +kernel, by decide +kernel⟩
-- 0 value
abbrev s_is_event : Stmt := topS 28
abbrev n_is_event : List Str := ["value", "tick", "key", "way"]
theorem sc_is_event : FnScope n_is_event ["value"] (defScope s_is_event) := ⟨rfl, rfl, rfl, by decide +kernel, rfl, by decide +kernel, by decide +kernel⟩
-- 0 value, 1 tick, 2 key, 3 way
abbrev s_is_step : Stmt := topS 29
abbrev n_is_step : List Str := ["value", "key", "way"]
theorem sc_is_step : FnScope n_is_step ["value"] (defScope s_is_step) := ⟨rfl, rfl, rfl, by decide +kernel, rfl, by decide +kernel, by decide +kernel⟩
-- 0 value, 1 key, 2 way
abbrev s_is_below : Stmt := topS 30
abbrev n_is_below : List Str := ["key", "many"]
theorem sc_is_below : FnScope n_is_below ["key", "many"] (defScope s_is_below) := ⟨rfl, rfl, rfl, by decide +kernel, rfl, by decide +kernel, by decide +kernel⟩
-- 0 key, 1 many
abbrev s_can_follow : Stmt := topS 31
abbrev n_can_follow : List Str := ["event", "last", "held"]
theorem sc_can_follow : FnScope n_can_follow ["event", "last", "held"] (defScope s_can_follow) := ⟨rfl, rfl, rfl, by decide +kernel, rfl, by decide +kernel, by decide +kernel⟩
-- 0 event, 1 last, 2 held
abbrev s_takes_turn : Stmt := topS 32
abbrev n_takes_turn : List Str := ["held", "key", "way", "goes_down"]
theorem sc_takes_turn : FnScope n_takes_turn ["held", "key", "way"] (defScope s_takes_turn) := ⟨rfl, rfl, rfl, by decide +kernel, rfl, by decide +kernel, by decide +kernel⟩
-- 0 held, 1 key, 2 way, 3 goes_down
abbrev s_pieces : Stmt := topS 37
abbrev n_pieces : List Str := ["many", "combos", "record", "found", "run", "number", "event"]
theorem sc_pieces : FnScope n_pieces ["many", "combos", "record"] (defScope s_pieces) := ⟨rfl, rfl, rfl, by decide +kernel, rfl, by decide +kernel, by decide +kernel⟩
-- 0 many, 1 combos, 2 record, 3 found, 4 run, 5 number, 6 event
abbrev s_gated : Stmt := topS 38
abbrev n_gated : List Str := ["many", "combos", "record", "gate"]
theorem sc_gated : FnScope n_gated ["many", "combos", "record"] (defScope s_gated) := ⟨rfl, rfl, rfl, by decide +kernel, rfl, by decide +kernel, by decide +kernel⟩
-- 0 many, 1 combos, 2 record, 3 gate
abbrev s_cut : Stmt := topS 39
abbrev n_cut : List Str := ["record", "numbers", "combos", "found", "rest", "downs", "size", "_", "number"]
theorem sc_cut : FnScope n_cut ["record", "numbers", "combos"] (defScope s_cut) := ⟨rfl, rfl, rfl, by decide +kernel, rfl, by decide +kernel, by decide +kernel⟩
-- 0 record*, 1 numbers, 2 combos, 3 found, 4 rest, 5 downs, 6 size, 7 _, 8 number*
abbrev s_check_gate : Stmt := topS 40
abbrev n_check_gate : List Str := ["many", "combos", "record"]
theorem sc_check_gate : FnScope n_check_gate ["many", "combos", "record"] (defScope s_check_gate) := ⟨rfl, rfl, rfl, by decide +kernel, rfl, by decide +kernel, by decide +kernel⟩
-- 0 many, 1 combos, 2 record
abbrev s_check_many : Stmt := topS 41
abbrev n_check_many : List Str := ["many"]
theorem sc_check_many : FnScope n_check_many ["many"] (defScope s_check_many) := ⟨rfl, rfl, rfl, by decide +kernel, rfl, by decide +kernel, by decide +kernel⟩
-- 0 many
abbrev s_check_combos : Stmt := topS 42
abbrev n_check_combos : List Str := ["value", "many", "known", "index", "combo"]
theorem sc_check_combos : FnScope n_check_combos ["value", "many"] (defScope s_check_combos) := ⟨rfl, rfl, rfl, by decide +kernel, rfl, by decide +kernel, by decide +kernel⟩
-- 0 value, 1 many, 2 known, 3 index, 4 combo
abbrev s_is_combo : Stmt := topS 43
abbrev n_is_combo : List Str := ["value", "many", "keys", "time", "code"]
theorem sc_is_combo : FnScope n_is_combo ["value", "many"] (defScope s_is_combo) := ⟨rfl, rfl, rfl, by decide +kernel, rfl, by decide +kernel, by decide +kernel⟩
-- 0 value, 1 many, 2 keys, 3 time, 4 code
abbrev s_are_combo_keys : Stmt := topS 44
abbrev n_are_combo_keys : List Str := ["value", "many"]
theorem sc_are_combo_keys : FnScope n_are_combo_keys ["value", "many"] (defScope s_are_combo_keys) := ⟨rfl, rfl, rfl, by decide +kernel, rfl, by decide +kernel, by decide +kernel⟩
-- 0 value, 1 many
abbrev s__law_spring : Stmt := topS 46
abbrev n__law_spring : List Str := ["_law_script", "_law_k", "_law_cell"]
theorem sc__law_spring : FnScope n__law_spring ["_law_script", "_law_k"] (defScope s__law_spring) := ⟨rfl, rfl, rfl, by decide +kernel, rfl, by decide +kernel, by decide +kernel⟩
-- 0 _law_script, 1 _law_k, 2 _law_cell
abbrev s__law_take : Stmt := topS 47
abbrev n__law_take : List Str := ["_law_spring_here", "_law_many", "_law_digit", "_law_mixed"]
theorem sc__law_take : FnScope n__law_take ["_law_spring_here", "_law_many"] (defScope s__law_take) := ⟨rfl, rfl, rfl, by decide +kernel, rfl, by decide +kernel, by decide +kernel⟩
-- 0 _law_spring_here, 1 _law_many, 2 _law_digit, 3 _law_mixed
abbrev s__law_combos : Stmt := topS 48
abbrev n__law_combos : List Str := ["_law_spring_here", "_law_many", "_law_top", "_law_found", "_law_turn", "_law_some", "_law_size", "_law_keys", "_law_time", "_law_code_here", "_law_combo", "_law_part"]
theorem sc__law_combos : FnScope n__law_combos ["_law_spring_here", "_law_many", "_law_top"] (defScope s__law_combos) := ⟨rfl, rfl, rfl, by decide +kernel, rfl, by decide +kernel, by decide +kernel⟩
-- 0 _law_spring_here*, 1 _law_many, 2 _law_top, 3 _law_found, 4 _law_turn, 5 _law_some*, 6 _law_size, 7 _law_keys, 8 _law_time, 9 _law_code_here, 10 _law_combo*, 11 _law_part*
abbrev s__law_space : Stmt := topS 49
abbrev n__law_space : List Str := ["_law_spring_here", "_law_times", "_law_time"]
theorem sc__law_space : FnScope n__law_space ["_law_spring_here", "_law_times"] (defScope s__law_space) := ⟨rfl, rfl, rfl, by decide +kernel, rfl, by decide +kernel, by decide +kernel⟩
-- 0 _law_spring_here, 1 _law_times, 2 _law_time
abbrev s__law_presses : Stmt := topS 50
abbrev n__law_presses : List Str := ["_law_spring_here", "_law_many", "_law_events", "_law_times", "_law_tick", "_law_down", "_law_found", "_law_keys", "_law_turn", "_law_key", "_law_free", "_law_way", "_law_some", "_law_one"]
theorem sc__law_presses : FnScope n__law_presses ["_law_spring_here", "_law_many", "_law_events", "_law_times"] (defScope s__law_presses) := ⟨rfl, rfl, rfl, by decide +kernel, rfl, by decide +kernel, by decide +kernel⟩
-- 0 _law_spring_here, 1 _law_many, 2 _law_events, 3 _law_times, 4 _law_tick, 5 _law_down*, 6 _law_found, 7 _law_keys, 8 _law_turn, 9 _law_key*, 10 _law_free, 11 _law_way, 12 _law_some, 13 _law_one*
abbrev s__law_left_right : Stmt := topS 51
abbrev n__law_left_right : List Str := ["_law_many", "_law_combos_here", "_law_record", "_law_found", "_law_parts", "_law_downs", "_law_numbers", "_law_part", "_law_most", "_law_tick", "_law_own", "_law_way", "_law_keys", "_law_due", "_law_event", "_law_spot", "_law_combo"]
theorem sc__law_left_right : FnScope n__law_left_right ["_law_many", "_law_combos_here", "_law_record"] (defScope s__law_left_right) := ⟨rfl, rfl, rfl, by decide +kernel, rfl, by decide +kernel, by decide +kernel⟩
-- 0 _law_many, 1 _law_combos_here, 2 _law_record*, 3 _law_found, 4 _law_parts, 5 _law_downs, 6 _law_numbers, 7 _law_part, 8 _law_most, 9 _law_tick, 10 _law_own, 11 _law_way, 12 _law_keys, 13 _law_due, 14 _law_event*, 15 _law_spot*, 16 _law_combo*
abbrev s__law_moved_right : Stmt := topS 52
abbrev n__law_moved_right : List Str := ["_law_spring_here", "_law_many", "_law_combos_here", "_law_record", "_law_shift", "_law_found", "_law_later", "_law_names", "_law_named", "_law_turned", "_law_tick", "_law_key", "_law_way", "_law_keys", "_law_time", "_law_code", "_law_turn"]
theorem sc__law_moved_right : FnScope n__law_moved_right ["_law_spring_here", "_law_many", "_law_combos_here", "_law_record"] (defScope s__law_moved_right) := ⟨rfl, rfl, rfl, by decide +kernel, rfl, by decide +kernel, by decide +kernel⟩
-- 0 _law_spring_here*, 1 _law_many, 2 _law_combos_here, 3 _law_record, 4 _law_shift*, 5 _law_found, 6 _law_later, 7 _law_names*, 8 _law_named, 9 _law_turned, 10 _law_tick*, 11 _law_key*, 12 _law_way*, 13 _law_keys*, 14 _law_time*, 15 _law_code*, 16 _law_turn*
abbrev s_law : Stmt := topS 53
abbrev n_law : List Str := ["_law_script", "_law_k", "_law_spring_here", "_law_many", "_law_combos_here", "_law_record", "_law_ups", "_law_cut", "_law_some", "_law_wide", "_law_spot", "_law_event", "_law_tick", "_law_key", "_law_way", "_law_combo"]
theorem sc_law : FnScope n_law ["_law_script"] (defScope s_law) := ⟨rfl, rfl, rfl, by decide +kernel, rfl, by decide +kernel, by decide +kernel⟩
-- 0 _law_script, 1 _law_k, 2 _law_spring_here, 3 _law_many, 4 _law_combos_here, 5 _law_record, 6 _law_ups, 7 _law_cut, 8 _law_some, 9 _law_wide, 10 _law_spot*, 11 _law_event*, 12 _law_tick*, 13 _law_key*, 14 _law_way*, 15 _law_combo*
abbrev s_Gate_init : Stmt := inClass (topS 10) 0
abbrev n_Gate_init : List Str := ["self", "many", "combos"]
theorem sc_Gate_init : FnScope n_Gate_init ["self", "many", "combos"] (defScope s_Gate_init) := ⟨rfl, rfl, rfl, by decide +kernel, rfl, by decide +kernel, by decide +kernel⟩
-- 0 self, 1 many, 2 combos
abbrev s_twin : Stmt := inClass (topS 10) 1
abbrev n_twin : List Str := ["self"]
theorem sc_twin : FnScope n_twin ["self"] (defScope s_twin) := ⟨rfl, rfl, rfl, by decide +kernel, rfl, by decide +kernel, by decide +kernel⟩
-- 0 self
abbrev s_due : Stmt := inClass (topS 10) 2
abbrev n_due : List Str := ["self", "keys", "times", "tick", "key", "combo"]
theorem sc_due : FnScope n_due ["self"] (defScope s_due) := ⟨rfl, rfl, rfl, by decide +kernel, rfl, by decide +kernel, by decide +kernel⟩
-- 0 self, 1 keys*, 2 times, 3 tick*, 4 key*, 5 combo*
abbrev s_clock : Stmt := inClass (topS 10) 3
abbrev n_clock : List Str := ["self", "tick", "out", "due"]
theorem sc_clock : FnScope n_clock ["self", "tick"] (defScope s_clock) := ⟨rfl, rfl, rfl, by decide +kernel, rfl, by decide +kernel, by decide +kernel⟩
-- 0 self, 1 tick, 2 out, 3 due
abbrev s_come : Stmt := inClass (topS 10) 4
abbrev n_come : List Str := ["self", "event", "tick", "key", "way"]
theorem sc_come : FnScope n_come ["self", "event"] (defScope s_come) := ⟨rfl, rfl, rfl, by decide +kernel, rfl, by decide +kernel, by decide +kernel⟩
-- 0 self, 1 event, 2 tick, 3 key, 4 way
abbrev s_come_up : Stmt := inClass (topS 10) 5
abbrev n_come_up : List Str := ["self", "tick", "key", "out", "sent", "other"]
theorem sc_come_up : FnScope n_come_up ["self", "tick", "key"] (defScope s_come_up) := ⟨rfl, rfl, rfl, by decide +kernel, rfl, by decide +kernel, by decide +kernel⟩
-- 0 self, 1 tick, 2 key, 3 out, 4 sent, 5 other
abbrev s_let_leave : Stmt := inClass (topS 10) 6
abbrev n_let_leave : List Str := ["self", "now", "out"]
theorem sc_let_leave : FnScope n_let_leave ["self", "now"] (defScope s_let_leave) := ⟨rfl, rfl, rfl, by decide +kernel, rfl, by decide +kernel, by decide +kernel⟩
-- 0 self, 1 now, 2 out
abbrev s_send_piece : Stmt := inClass (topS 10) 7
abbrev n_send_piece : List Str := ["self", "now", "size", "index", "sent", "_", "key"]
theorem sc_send_piece : FnScope n_send_piece ["self", "now"] (defScope s_send_piece) := ⟨rfl, rfl, rfl, by decide +kernel, rfl, by decide +kernel, by decide +kernel⟩
-- 0 self, 1 now, 2 size, 3 index, 4 sent, 5 _, 6 key

/-! ### the spring -/
def Reel (H : Hp) (r : Addr) (n : Nat) : Prop := ∃ x y z : Int, H r = some (.lst [.int x, .int y, .int z]) ∧ 0 ≤ x ∧ 0 ≤ y ∧ y < 10 ^ 41 ∧ 0 ≤ z ∧ z ≤ (n : Int)
theorem Reel.mono {H : Hp} {r : Addr} {n m : Nat} (h : Reel H r n) (l : n ≤ m) : Reel H r m := by
  obtain ⟨x, y, z, a, b, c, d, e, f⟩ := h
  exact ⟨x, y, z, a, b, c, d, e, by omega⟩
theorem Reel.same {H H' : Hp} {r : Addr} {n : Nat} (h : Reel H r n) (l : Same H H') : Reel H' r n := by
  obtain ⟨x, y, z, a, b⟩ := h
  exact ⟨x, y, z, l _ _ a, b⟩
theorem Reel.upd {H : Hp} {r b : Addr} {n : Nat} {o : HO} (h : Reel H r n) (ne : b ≠ r) : Reel (upd H b o) r n := by
  obtain ⟨x, y, z, g, g'⟩ := h
  exact ⟨x, y, z, by rw [upd_ne ne.symm]; exact g, g'⟩
theorem Reel.new {H : Hp} {r b : Addr} {n : Nat} (h : Reel H r n) (nb : H b = none) : b ≠ r := by
  obtain ⟨_, _, _, hr, _⟩ := h
  exact (ne_of_none hr nb).symm
theorem Reel.free {H H1 : Hp} {r b : Addr} {n : Nat} (o : Off r H H1) (h : Reel H1 r n) (nb : H1 b = none) : H b = none := by
  obtain ⟨_, _, _, hr, _⟩ := h
  exact o.free hr nb
theorem Reel.lst {α : Type} {f : α → List V} {H H' : Hp} {r c : Addr} {n : Nat} {es : List α} (h : Reel H r n) (hl : Lst f H c es) (ne : c ≠ r) (o : Off r H H') : Lst f H' c es := by
  obtain ⟨_, _, _, hr, _⟩ := h
  exact hl.off hr ne o
theorem Reel.tk {H H' : Hp} {r : Addr} {n : Nat} (h : Reel H r n) (o : Off r H H') : Tk H H' := fun b xs e => o _ _ e (by
  obtain ⟨x, y, z, hr, _⟩ := h
  exact ne_of e hr (by intro q; cases q))
/-- the draws so far are fewer than this -/
abbrev most : Nat := 1000000000
def spDraw : Sp := fun vs H Q _ => ∃ (r : Addr) (m : Int) (n : Nat), vs = [.ref r, .int m] ∧ 0 < m ∧ m < 10 ^ 40 ∧ n < most ∧ Reel H r n ∧
  ∀ d H', 0 ≤ d → d < m → Reel H' r (n + 1) → Off r H H' → Q (.int d) H'
structure Bt (mg : Str → Option Value) : Prop where
  m_len : mg "len" = none
  m_max : mg "max" = none
  m_min : mg "min" = none
  m_repr : mg "repr" = none
  m_isinstance : mg "isinstance" = none
  m_all : mg "all" = none
  m_list : mg "list" = none
  m_tuple : mg "tuple" = none
  m_int : mg "int" = none
  m_bool : mg "bool" = none
  m_str : mg "str" = none
  m_range : mg "range" = none
  m_enumerate : mg "enumerate" = none
  m_sorted : mg "sorted" = none
  m_zip : mg "zip" = none
section
variable {P : Program} {w : World} {K : PySem.W.Frag} {mg : Str → Option Value} {base : Heap}
theorem ok__law_take (a : At K mg "_law_take" s__law_take ["_law_spring_here", "_law_many"]) : Cl P w K mg base 1 "_law_take" spDraw := by
  refine clG a sc__law_take (fun vs H Q E h => ?_) (fun f cdv A outer s H vs Q hg hr h => ?_)
  · obtain ⟨r, m, n, rfl, _⟩ := h
    rfl
  · obtain ⟨r, m, n, rfl, hm, hm2, hn0, ⟨x, y, z, hR, hx, hy, hy2, hz, hz2⟩, q⟩ := h
    have hn : n < 1000000000 := hn0
    refine ⟨_, (pss_cons (ps_if (pt_cmpR op_gt (pe_ix ix_list (pv 0) pe_int (fun _ _ => rfl)) pe_int (nomark _)) (pss_cons (ps_set (i := 2) sc__law_take.nd rfl (Or.inl rfl) (pe_op op_mod (pe_ix ix_list (pv 0) pe_int (fun _ _ => rfl)) (pv 1)))
      (pss_cons (ps_asg (pe_op op_fdivW (pe_ix ix_list (pv 0) pe_int (fun _ _ => rfl)) (pv 1)) (pg_sub (pv 0) pe_int set_list))
      (pss_one (ps_ret (pv 2))))) pss_nil)
      (pss_cons (ps_asg (pe_op op_add (pe_ix ix_list (pv 0) pe_int (fun _ _ => rfl)) pe_int) (pg_sub (pv 0) pe_int set_list))
      (pss_cons (ps_set (i := 3) sc__law_take.nd rfl (Or.inl rfl) (pe_op op_mod (pe_op op_powW (pe_op op_add (pe_ix ix_list (pv 0) pe_int (fun _ _ => rfl)) (pe_op op_mulW pe_int (pe_ix ix_list (pv 0) pe_int (fun _ _ => rfl)))) pe_int) (pe_op op_add (pe_op op_powW pe_int pe_int) pe_int)))
      (pss_cons (ps_set (i := 3) sc__law_take.nd rfl (Or.inl rfl) (pe_op op_mod (pe_op op_powW (pe_op op_add (pv 3) (pe_op op_mulW pe_int (pe_ix ix_list (pv 0) pe_int (fun _ _ => rfl)))) pe_int) (pe_op op_add (pe_op op_powW pe_int pe_int) pe_int)))
      (pss_one (ps_ret (pe_op op_mod (pe_op op_fdivW (pv 3) (pe_op op_powW pe_int pe_int)) (pv 1)))))))), ?_⟩
    refine ⟨_, rfl, r, _, 0, _, rfl, rfl, SqL.of hR, atI_nat (j := 0) rfl, ?_⟩
    refine ⟨_, _, rfl, rfl, _, rfl, ite2 (fun e => ?_) (fun e => ?_)⟩
    · have e0 : 0 < x := of_decide_eq_true e
      refine ⟨_, rfl, r, _, 0, _, rfl, rfl, SqL.of hR, atI_nat (j := 0) rfl, _, rfl, _, _, rfl, rfl, hm, ?_⟩
      refine ⟨_, rfl, r, _, 0, _, rfl, rfl, SqL.of hR, atI_nat (j := 0) rfl, _, rfl, _, _, rfl, rfl, wide_div (b := 140) hm (by omega) (by decide) (by decide), ?_⟩
      refine ⟨_, rfl, r, _, 0, 0, rfl, rfl, hR, rfl, ?_⟩
      refine ⟨_, rfl, q _ _ (Int.emod_nonneg _ (by omega)) (Int.emod_lt_of_pos _ hm) ⟨x / m, y, z, upd_same, Int.ediv_nonneg hx (by omega), hy, hy2, hz, by omega⟩ off_upd⟩
    · refine ⟨_, rfl, r, _, 2, _, rfl, rfl, SqL.of hR, atI_nat (j := 2) rfl, _, _, rfl, rfl, ?_⟩
      refine ⟨_, rfl, r, _, 2, 2, rfl, rfl, hR, rfl, ?_⟩
      have hR1 : upd H r (.lst [.int x, .int y, .int (z + 1)]) r = some (.lst [.int x, .int y, .int (z + 1)]) := upd_same
      refine ⟨_, rfl, r, _, 1, _, rfl, rfl, SqL.of hR1, atI_nat (j := 1) rfl, ?_⟩
      refine ⟨_, rfl, r, _, 2, _, rfl, rfl, SqL.of hR1, atI_nat (j := 2) rfl, ?_⟩
      have b1 : (z + 1).natAbs < 2 ^ 40 := by omega
      have b2 : (73939133 * (z + 1)).natAbs < 2 ^ 80 := by omega
      refine ⟨_, _, rfl, rfl, wide_mul (a := 40) (b := 40) (by decide) b1 (by decide) (by decide) (by decide), ?_⟩
      refine ⟨_, _, rfl, rfl, ?_⟩
      have b3 : (y + 73939133 * (z + 1)).natAbs < 2 ^ 150 := by omega
      refine ⟨_, _, rfl, rfl, powW (n := 150) (k := 3) b3 (by decide), ?_⟩
      refine ⟨_, _, rfl, rfl, powW (n := 40) (k := 40) (by decide) (by decide), _, _, rfl, rfl, _, _, rfl, rfl, (show (0 : Int) < 10 ^ 40 + 3 by decide), ?_⟩
      have c1 : 0 ≤ (y + 73939133 * (z + 1)) ^ 3 % (10 ^ 40 + 3) := Int.emod_nonneg _ (by decide)
      have c2 : (y + 73939133 * (z + 1)) ^ 3 % (10 ^ 40 + 3) < 10 ^ 40 + 3 := Int.emod_lt_of_pos _ (by decide)
      generalize hu : (y + 73939133 * (z + 1)) ^ 3 % (10 ^ 40 + 3) = u at c1 c2
      refine ⟨.int u, congrArg (fun v => some (some (V.int v))) hu, ?_⟩
      refine ⟨_, rfl, r, _, 2, _, rfl, rfl, SqL.of hR1, atI_nat (j := 2) rfl, ?_⟩
      have b4 : (29986577 * (z + 1)).natAbs < 2 ^ 80 := by omega
      refine ⟨_, _, rfl, rfl, wide_mul (a := 40) (b := 40) (by decide) b1 (by decide) (by decide) (by decide), ?_⟩
      have b5 : (u + 29986577 * (z + 1)).natAbs < 2 ^ 150 := by omega
      refine ⟨_, _, rfl, rfl, _, _, rfl, rfl, powW (n := 150) (k := 2) b5 (by decide), ?_⟩
      refine ⟨_, _, rfl, rfl, powW (n := 40) (k := 37) (by decide) (by decide), _, _, rfl, rfl, _, _, rfl, rfl, (show (0 : Int) < 10 ^ 37 + 43 by decide), ?_⟩
      refine ⟨_, rfl, _, _, rfl, rfl, powW (n := 40) (k := 7) (by decide) (by decide), _, _, rfl, rfl, wide_div (b := 40) (by decide) (by decide) (by decide) (by decide), ?_⟩
      refine ⟨_, rfl, _, _, rfl, rfl, hm, ?_⟩
      exact q _ _ (Int.emod_nonneg _ (by omega)) (Int.emod_lt_of_pos _ hm) ⟨x, y, z + 1, upd_same, hx, hy, hy2, by omega, by omega⟩ off_upd
def spPool (K : PySem.W.Frag) : Sp := fun vs H Q _ => ∃ (s : Addr) (ns : List Int) (i : Nat), vs = [.ref s, .int (i : Int)] ∧ SqL K H s (ns.map V.int) ∧ ns.length ≤ 63 ∧ i < 60 ∧
  ∀ r H', Same H H' → H r = none → Reel H' r 0 → Q (.ref r) H'
theorem ok__law_spring (bt : Bt mg) (a : At K mg "_law_spring" s__law_spring ["_law_script", "_law_k"]) : Cl P w K mg base 1 "_law_spring" (spPool K) := by
  refine clG a sc__law_spring (fun vs H Q E h => ?_) (fun f cdv A outer s H vs Q hg hr h => ?_)
  · obtain ⟨r, m, n, rfl, _⟩ := h
    rfl
  · obtain ⟨sc, ns, i, rfl, hS, hl, hi, q⟩ := h
    refine ⟨_, (pss_cons (ps_set (i := 2) sc__law_spring.nd rfl (Or.inl rfl) (pe_ifExp (pt_cmpR op_lt (pv 1) (pe_callB call_len_seq (by rfl) bt.m_len (by decide +kernel) (pa_cons (pv 0) pa_nil)) (nomark _)) (pe_ix ix_list (pv 0) (pv 1) (fun _ _ => rfl)) pe_int))
      (pss_one (ps_ret (pe_lst (pa_cons (pe_callB (call_max2 rfl) (by rfl) bt.m_max (by decide +kernel) (pa_cons pe_int (pa_cons (pe_op op_sub (pv 2) (pe_op op_powW pe_int pe_int)) pa_nil))) (pa_cons (pe_op op_add (pe_op op_mulW (pe_op op_add (pe_op op_mod (pv 2) (pe_op op_add (pe_op op_powW pe_int pe_int) pe_int)) pe_int) pe_int) (pv 1)) (pa_cons pe_int pa_nil))))))), ?_⟩
    have bb : ∀ c : Int, 0 ≤ (c % (10 ^ 37 + 63) + 7) * 64 + (i : Int) ∧ (c % (10 ^ 37 + 63) + 7) * 64 + (i : Int) < 10 ^ 41 := fun c => by
      have a1 := Int.emod_nonneg c (b := 10 ^ 37 + 63) (by decide)
      have a2 := Int.emod_lt_of_pos c (b := 10 ^ 37 + 63) (by decide)
      omega
    have b2 : ∀ c : Int, (c % (10 ^ 37 + 63) + 7).natAbs < 2 ^ 140 := fun c => by
      have a1 := Int.emod_nonneg c (b := 10 ^ 37 + 63) (by decide)
      have a2 := Int.emod_lt_of_pos c (b := 10 ^ 37 + 63) (by decide)
      omega
    refine ⟨_, rfl, .ref sc, rfl, sc, _, rfl, .inl hS, _, _, rfl, rfl, _, rfl, ite2 (fun e => ?_) (fun e => ?_)⟩
    · have e0 : (i : Int) < ((ns.map V.int).length : Nat) := of_decide_eq_true e
      rw [List.length_map] at e0
      have hlt : i < ns.length := by omega
      have g : (ns.map V.int)[i]? = some (.int ns[i]) := by
        rw [List.getElem?_map, List.getElem?_eq_getElem hlt]; rfl
      refine ⟨_, rfl, _, rfl, sc, _, (i : Int), _, rfl, rfl, hS, atI_nat g, ?_⟩
      refine ⟨_, rfl, _, _, rfl, rfl, powW (n := 40) (k := 18) (by decide) (by decide), _, _, rfl, rfl, _, _, rfl, ?_⟩
      refine ⟨_, rfl, _, _, rfl, rfl, powW (n := 40) (k := 37) (by decide) (by decide), _, _, rfl, rfl, _, _, rfl, rfl, (show (0 : Int) < 10 ^ 37 + 63 by decide), _, _, rfl, rfl, _, _, rfl, rfl, wide_mul (a := 140) (b := 40) (b2 ns[i]) (by decide) (by decide) (by decide) (by decide), _, rfl, _, _, rfl, rfl, (by show 3 ≤ sizeLine; decide), fun p np => ?_⟩
      exact q p _ (same_upd np) np ⟨_, _, 0, upd_same, by split <;> omega, (bb ns[i]).1, (bb ns[i]).2, by decide, by decide⟩
    · refine ⟨_, rfl, _, _, rfl, rfl, powW (n := 40) (k := 18) (by decide) (by decide), _, _, rfl, rfl, _, _, rfl, ?_⟩
      refine ⟨_, rfl, _, _, rfl, rfl, powW (n := 40) (k := 37) (by decide) (by decide), _, _, rfl, rfl, _, _, rfl, rfl, (show (0 : Int) < 10 ^ 37 + 63 by decide), _, _, rfl, rfl, _, _, rfl, rfl, wide_mul (a := 140) (b := 40) (b2 0) (by decide) (by decide) (by decide) (by decide), _, rfl, _, _, rfl, rfl, (by show 3 ≤ sizeLine; decide), fun p np => ?_⟩
      exact q p _ (same_upd np) np ⟨_, _, 0, upd_same, by split <;> omega, (bb 0).1, (bb 0).2, by decide, by decide⟩
end
end K28

set_option Elab.async false
set_option linter.all false
set_option maxRecDepth 100000
set_option maxHeartbeats 8000000
namespace K28
open PySem PySem.Spec PyProof.Rows L2 Gd Rm La Cb
theorem allT (m : Nat) : (List.replicate m true).all id = true := by
  rw [List.all_eq_true]
  intro x hx
  exact (List.mem_replicate.mp hx).2
theorem ixN_nat {n j : Nat} (hj : j < n) : ixN n (j : Int) = some j := by unfold ixN; rw [if_pos (by omega), if_pos (by omega), Int.toNat_natCast]
theorem get_map_ref {as : List Addr} {i : Nat} {b : Addr} (h : as[i]? = some b) : (as.map V.ref)[i]? = some (.ref b) := by rw [List.getElem?_map, h]; rfl
theorem get_map_int {ns : List Int} {i : Nat} {b : Int} (h : ns[i]? = some b) : (ns.map V.int)[i]? = some (.int b) := by rw [List.getElem?_map, h]; rfl
theorem cutTake {xs : List V} {k : Nat} : cutV xs none (some (k : Int)) = xs.take k := by
  unfold cutV
  rw [HT.sIx_none, HT.sIx_nat, List.drop_zero, Nat.sub_zero]
  rcases Nat.le_total k xs.length with h | h
  · rw [Nat.min_eq_left h]
  · rw [Nat.min_eq_right h, List.take_of_length_le (Nat.le_refl _), List.take_of_length_le h]
theorem cutDrop {xs : List V} {k : Nat} (h1 : k ≤ xs.length) : cutV xs (some (k : Int)) none = xs.drop k := by
  unfold cutV
  rw [HT.sIx_none, HT.sIx_nat, Nat.min_eq_left h1]
  exact List.take_of_length_le (by rw [List.length_drop]; omega)
section
variable {P : Program} {w : World} {K : PySem.W.Frag} {mg : Str → Option Value} {base : Heap}
def spInt : Sp := fun vs H Q _ => ∃ i : Int, vs = [.int i] ∧ Q (.bl true) H
theorem ok_is_an_integer (bt : Bt mg) (a : At K mg "is_an_integer" s_is_an_integer ["value"]) : Cl P w K mg base 1 "is_an_integer" spInt := by
  refine clG a sc_is_an_integer (fun vs H Q E h => ?_) (fun f cdv A outer s H vs Q hg hr h => ?_)
  · obtain ⟨i, rfl, _⟩ := h
    rfl
  · obtain ⟨i, rfl, q⟩ := h
    refine ⟨_, (pss_one (ps_ret (pe_and (pe_callB call_isi (by rfl) bt.m_isinstance (by decide +kernel) (pa_cons (pv 0) (pa_cons (pe_bltn (v := .ty "int") (by rfl) bt.m_int (by decide +kernel) rfl) pa_nil))) (pe_one (pe_not (pe_callB call_isi (by rfl) bt.m_isinstance (by decide +kernel) (pa_cons (pv 0) (pa_cons (pe_bltn (v := .ty "bool") (by rfl) bt.m_bool (by decide +kernel) rfl) pa_nil)))))))), ?_⟩
    refine ⟨_, rfl, _, _, _, _, true, rfl, .ty "int", .base (.int i), kit_ty (by decide +kernel), _, rfl, iteT ?_⟩
    exact ⟨_, rfl, _, _, _, _, false, rfl, .ty "bool", .base (.int i), kit_ty (by decide +kernel), _, rfl, q⟩
def spBtw : Sp := fun vs H Q _ => ∃ i lo hi : Int, vs = [.int i, .int lo, .int hi] ∧ lo ≤ i ∧ i ≤ hi ∧ Q (.bl true) H
theorem ok_is_between (a : At K mg "is_between" s_is_between ["value", "low", "high"]) (c_is_an_integer : Cl P w K mg base 1 "is_an_integer" spInt) : Cl P w K mg base 2 "is_between" spBtw := by
  refine clG a sc_is_between (fun vs H Q E h => ?_) (fun f cdv A outer s H vs Q hg hr h => ?_)
  · obtain ⟨i, lo, hi, rfl, _⟩ := h
    rfl
  · obtain ⟨i, lo, hi, rfl, h1, h2, q⟩ := h
    refine ⟨_, (pss_one (ps_ret (pe_and (pe_cl c_is_an_integer hg hr (by decide) (by rfl) (pa_cons (pv 0) pa_nil)) (pe_one (pe_chain op_le op_le (pv 1) (pv 0) (pv 2)))))), ?_⟩
    refine ⟨_, rfl, _, rfl, _, rfl, iteT ?_⟩
    exact ⟨_, rfl, _, rfl, _, _, rfl, rfl, true, congrArg V.bl (decide_eq_true h1), iteT ⟨_, rfl, _, _, rfl, rfl, by show Q (.bl (decide (i ≤ hi))) H; rw [decide_eq_true h2]; exact q⟩⟩
theorem down_or_up (d : Bool) : inV (.str (wayS d)) [.str "down", .str "up"] = true := by cases d <;> decide +kernel
def spStep : Sp := fun vs H Q _ => ∃ (a : Addr) (e : Ev), vs = [.ref a] ∧ H a = some (.tup (stV e)) ∧ 0 ≤ e.k ∧ ∀ H', Same H H' → Q (.bl true) H'
theorem ok_is_step (bt : Bt mg) (a : At K mg "is_step" s_is_step ["value"]) (c_is_an_integer : Cl P w K mg base 1 "is_an_integer" spInt) : Cl P w K mg base 2 "is_step" spStep := by
  refine clG a sc_is_step (fun vs H Q E h => ?_) (fun f cdv A outer s H vs Q hg hr h => ?_)
  · obtain ⟨a, e, rfl, _⟩ := h
    rfl
  · obtain ⟨a, e, rfl, ha, h0, q⟩ := h
    refine ⟨_, (pss_cons (ps_if (PW.pt (pw_or (pt_not (pt_val (pe_callB call_isi (by rfl) bt.m_isinstance (by decide +kernel) (pa_cons (pv 0) (pa_cons (pe_bltn (v := .ty "tuple") (by rfl) bt.m_tuple (by decide +kernel) rfl) pa_nil))))) (pw_or1 (pt_cmpR op_ne (pe_callB call_len_seq (by rfl) bt.m_len (by decide +kernel) (pa_cons (pv 0) pa_nil)) pe_int (nomark _))))) (pss_one (ps_ret pe_bl)) pss_nil)
      (pss_cons (ps_asg (pv 0) (pg_tup rfl (pgs_cons (pg_name (i := 1) sc_is_step.nd rfl (Or.inl rfl)) (pgs_cons (pg_name (i := 2) sc_is_step.nd rfl (Or.inl rfl)) pgs_nil))))
      (pss_one (ps_ret (pe_and (pe_cl c_is_an_integer hg hr (by decide) (by rfl) (pa_cons (pv 1) pa_nil)) (pe_and (pe_cmpR op_ge (pv 1) pe_int (nomark _)) (pe_and (pe_callB call_isi (by rfl) bt.m_isinstance (by decide +kernel) (pa_cons (pv 2) (pa_cons (pe_bltn (v := .ty "str") (by rfl) bt.m_str (by decide +kernel) rfl) pa_nil))) (pe_one (pe_cmpR op_in_seq (pv 2) (pe_tup (pa_cons pe_str (pa_cons pe_str pa_nil))) (by rfl)))))))))), ?_⟩
    refine ⟨_, rfl, _, _, _, _, true, rfl, .ty "tuple", .base (.tup ha), kit_ty (by decide +kernel), _, rfl, iteF ?_⟩
    refine ⟨_, rfl, a, _, rfl, .inr (SqT.of ha), rfl, _, rfl, iteF ?_⟩
    refine ⟨_, rfl, a, _, rfl, SqT.of ha, rfl, _, _, rfl, _, _, rfl, rfl, ?_⟩
    refine ⟨_, rfl, _, rfl, _, rfl, iteT ?_⟩
    refine ⟨_, rfl, _, _, rfl, rfl, true, congrArg V.bl (decide_eq_true h0), iteT ?_⟩
    refine ⟨_, rfl, _, _, _, _, true, rfl, .ty "str", .base (.str _), kit_ty (by decide +kernel), _, rfl, iteT ?_⟩
    refine ⟨_, rfl, (by show 2 ≤ sizeLine; decide), fun p np => ?_⟩
    refine ⟨p, _, rfl, .inr (SqT.of upd_same), rfl, rfl, ?_⟩
    have hd := down_or_up e.d
    show Q (.bl (inV (.str (wayS e.d)) [.str "down", .str "up"])) _
    rw [hd]
    exact q _ (same_upd np)
def spEvent : Sp := fun vs H Q _ => ∃ (a : Addr) (e : Ev), vs = [.ref a] ∧ H a = some (.tup (evV e)) ∧ 0 ≤ e.k ∧ ∀ H', Same H H' → Q (.bl true) H'
theorem ok_is_event (bt : Bt mg) (a : At K mg "is_event" s_is_event ["value"]) (c_is_an_integer : Cl P w K mg base 1 "is_an_integer" spInt) (c_is_step : Cl P w K mg base 2 "is_step" spStep) : Cl P w K mg base 3 "is_event" spEvent := by
  refine clG a sc_is_event (fun vs H Q E h => ?_) (fun f cdv A outer s H vs Q hg hr h => ?_)
  · obtain ⟨a, e, rfl, _⟩ := h
    rfl
  · obtain ⟨a, e, rfl, ha, h0, q⟩ := h
    refine ⟨_, (pss_cons (ps_if (PW.pt (pw_or (pt_not (pt_val (pe_callB call_isi (by rfl) bt.m_isinstance (by decide +kernel) (pa_cons (pv 0) (pa_cons (pe_bltn (v := .ty "tuple") (by rfl) bt.m_tuple (by decide +kernel) rfl) pa_nil))))) (pw_or1 (pt_cmpR op_ne (pe_callB call_len_seq (by rfl) bt.m_len (by decide +kernel) (pa_cons (pv 0) pa_nil)) pe_int (nomark _))))) (pss_one (ps_ret pe_bl)) pss_nil)
      (pss_cons (ps_asg (pv 0) (pg_tup rfl (pgs_cons (pg_name (i := 1) sc_is_event.nd rfl (Or.inl rfl)) (pgs_cons (pg_name (i := 2) sc_is_event.nd rfl (Or.inl rfl)) (pgs_cons (pg_name (i := 3) sc_is_event.nd rfl (Or.inl rfl)) pgs_nil)))))
      (pss_one (ps_ret (pe_and (pe_cl c_is_an_integer hg hr (by decide) (by rfl) (pa_cons (pv 1) pa_nil)) (pe_one (pe_cl c_is_step hg hr (by decide) (by rfl) (pa_cons (pe_tup (pa_cons (pv 2) (pa_cons (pv 3) pa_nil))) pa_nil)))))))), ?_⟩
    refine ⟨_, rfl, _, _, _, _, true, rfl, .ty "tuple", .base (.tup ha), kit_ty (by decide +kernel), _, rfl, iteF ?_⟩
    refine ⟨_, rfl, a, _, rfl, .inr (SqT.of ha), rfl, _, rfl, iteF ?_⟩
    refine ⟨_, rfl, a, _, rfl, SqT.of ha, rfl, _, _, rfl, _, _, rfl, _, _, rfl, rfl, ?_⟩
    refine ⟨_, rfl, _, rfl, _, rfl, iteT ?_⟩
    refine ⟨_, rfl, _, rfl, (by show 2 ≤ sizeLine; decide), fun p np => ?_⟩
    exact ⟨p, e, rfl, upd_same, h0, fun H' s' => q H' ((same_upd np).trans s')⟩
def spShort : Sp := fun vs H Q _ => ∃ (a : Addr) (xs : List V), vs = [.ref a] ∧ H a = some (.lst xs) ∧ xs.length ≤ 400 ∧ Q (.bl true) H
theorem ok_is_short_list (bt : Bt mg) (tk : Tok) (m_MOST_EVENTS : mg "MOST_EVENTS" = some (.int 400 tk)) (a : At K mg "is_short_list" s_is_short_list ["value"]) : Cl P w K mg base 1 "is_short_list" spShort := by
  refine clG a sc_is_short_list (fun vs H Q E h => ?_) (fun f cdv A outer s H vs Q hg hr h => ?_)
  · obtain ⟨a, xs, rfl, _⟩ := h
    rfl
  · obtain ⟨a, xs, rfl, ha, hl, q⟩ := h
    refine ⟨_, (pss_one (ps_ret (pe_and (pe_callB call_isi (by rfl) bt.m_isinstance (by decide +kernel) (pa_cons (pv 0) (pa_cons (pe_bltn (v := .ty "list") (by rfl) bt.m_list (by decide +kernel) rfl) pa_nil))) (pe_one (pe_cmpR op_le (pe_callB call_len_seq (by rfl) bt.m_len (by decide +kernel) (pa_cons (pv 0) pa_nil)) (pe_glob (v := .int 400) (by rfl) m_MOST_EVENTS ⟨_, rfl⟩) (nomark _)))))), ?_⟩
    refine ⟨_, rfl, _, _, _, _, true, rfl, .ty "list", .base (.lst ha), kit_ty (by decide +kernel), _, rfl, iteT ?_⟩
    refine ⟨_, rfl, a, _, rfl, .inl (SqL.of ha), _, _, rfl, rfl, ?_⟩
    show Q (.bl (decide ((xs.length : Int) ≤ 400))) H
    rw [decide_eq_true (show (xs.length : Int) ≤ 400 by omega)]
    exact q
def spTurn : Sp := fun vs H Q _ => ∃ (d : Addr) (kvs : List (Key × V)) (k : Int) (b : Bool), vs = [.ref d, .int k, .str (wayS b)] ∧ H d = some (.dK kvs) ∧ kvs.length < sizeLine ∧
  (valV kvs (Sum.inl k)).getD (.bl false) = .bl (!b) ∧ Q (.bl true) (upd H d (.dK (putK kvs (Sum.inl k) (.bl b))))
theorem ok_takes_turn (a : At K mg "takes_turn" s_takes_turn ["held", "key", "way"]) : Cl P w K mg base 1 "takes_turn" spTurn := by
  refine clG a sc_takes_turn (fun vs H Q E h => ?_) (fun f cdv A outer s H vs Q hg hr h => ?_)
  · obtain ⟨d, kvs, k, b, rfl, _⟩ := h
    rfl
  · obtain ⟨d, kvs, k, b, rfl, hd, hl, hv, q⟩ := h
    refine ⟨_, (pss_cons (ps_set (i := 3) sc_takes_turn.nd rfl (Or.inl rfl) (pe_cmpR op_eq (pv 2) pe_str (nomark _)))
      (pss_cons (ps_if (pt_cmpR op_eq (pe_dget2 (hu_of hr) (pv 0) (pv 1) pe_bl ⟨rfl, rfl, rfl, rfl⟩) (pv 3) (nomark _)) (pss_one (ps_ret pe_bl)) pss_nil)
      (pss_cons (ps_dput (hu_of hr) (pv 0) (pv 1) (pv 3) rfl)
      (pss_one (ps_ret pe_bl))))), ?_⟩
    refine ⟨_, rfl, rfl, ?_⟩
    refine ⟨_, rfl, d, rfl, .inl ⟨kvs, .inl hd⟩, _, rfl, _, DGet.k (k := Sum.inl k) hd, ?_⟩
    rw [wayS_down, hv]
    refine ⟨_, rfl, rfl, _, rfl, ?_⟩
    rw [decide_eq_false (fun z => by have := V.bl.inj z; cases b <;> cases this)]
    refine iteF ?_
    exact ⟨_, rfl, _, rfl, _, rfl, d, _, rfl, DPut.k (k := Sum.inl k) hd hl, q⟩
def spBelow : Sp := fun vs H Q _ => ∃ k m : Int, vs = [.int k, .int m] ∧ k < m ∧ Q (.bl true) H
theorem ok_is_below (a : At K mg "is_below" s_is_below ["key", "many"]) : Cl P w K mg base 1 "is_below" spBelow := by
  refine clG a sc_is_below (fun vs H Q E h => ?_) (fun f cdv A outer s H vs Q hg hr h => ?_)
  · obtain ⟨k, m, rfl, _⟩ := h
    rfl
  · obtain ⟨k, m, rfl, hk, q⟩ := h
    refine ⟨_, (pss_one (ps_ret (pe_or (pe_cmpR op_isN (pv 1) pe_non (nomark _)) (pe_one (pe_cmpR op_lt (pv 0) (pv 1) (nomark _)))))), ?_⟩
    refine ⟨_, rfl, rfl, _, rfl, iteF ⟨_, rfl, _, rfl, _, _, rfl, rfl, ?_⟩⟩
    show Q (.bl (decide (k < m))) H
    rw [decide_eq_true hk]
    exact q
def spFollow : Sp := fun vs H Q _ => ∃ (b d : Addr) (e : Ev) (l : V) (kvs : List (Key × V)), vs = [.ref b, l, .ref d] ∧ H b = some (.tup (evV e)) ∧
  (l = .non ∨ ∃ (b' : Addr) (e' : Ev), l = .ref b' ∧ H b' = some (.tup (evV e')) ∧ e'.t ≤ e.t) ∧ H d = some (.dK kvs) ∧ kvs.length < sizeLine ∧
  (valV kvs (Sum.inl e.k)).getD (.bl false) = .bl (!e.d) ∧ Q (.bl true) (upd H d (.dK (putK kvs (Sum.inl e.k) (.bl e.d))))
theorem ok_can_follow (a : At K mg "can_follow" s_can_follow ["event", "last", "held"]) (c_takes_turn : Cl P w K mg base 1 "takes_turn" spTurn) : Cl P w K mg base 2 "can_follow" spFollow := by
  refine clG a sc_can_follow (fun vs H Q E h => ?_) (fun f cdv A outer s H vs Q hg hr h => ?_)
  · obtain ⟨b, d, e, l, kvs, rfl, _⟩ := h
    rfl
  · obtain ⟨b, d, e, l, kvs, rfl, hb, hl, hd, hz, hv, q⟩ := h
    refine ⟨_, (pss_cons (ps_if (PW.pt (pw_and (pt_cmpR op_notN (pv 1) pe_non (nomark _)) (pw_and1 (pt_cmpR op_lt (pe_ix ix_tup (pv 0) pe_int (fun _ _ => rfl)) (pe_ix ix_tup (pv 1) pe_int (fun _ _ => rfl)) (nomark _))))) (pss_one (ps_ret pe_bl)) pss_nil)
      (pss_one (ps_ret (pe_cl c_takes_turn hg hr (by decide) (by rfl) (pa_cons (pv 2) (pa_cons (pe_ix ix_tup (pv 0) pe_int (fun _ _ => rfl)) (pa_cons (pe_ix ix_tup (pv 0) pe_int (fun _ _ => rfl)) pa_nil))))))), ?_⟩
    rcases hl with rfl | ⟨b', e', rfl, hb', hle⟩
    · refine ⟨_, rfl, rfl, _, rfl, iteF ?_⟩
      refine ⟨_, rfl, _, rfl, b, _, _, _, rfl, rfl, SqT.of hb, atI_nat (j := 1) rfl, _, rfl, b, _, _, _, rfl, rfl, SqT.of hb, atI_nat (j := 2) rfl, ?_⟩
      exact ⟨d, kvs, e.k, e.d, rfl, hd, hz, hv, q⟩
    · refine ⟨_, rfl, rfl, _, rfl, iteT ?_⟩
      refine ⟨_, rfl, b, _, _, _, rfl, rfl, SqT.of hb, atI_nat (j := 0) rfl, _, rfl, b', _, _, _, rfl, rfl, SqT.of hb', atI_nat (j := 0) rfl, _, _, rfl, rfl, _, rfl, ite2 (fun z => ?_) (fun z => ?_)⟩
      · have z0 : e.t < e'.t := of_decide_eq_true z
        omega
      · refine ⟨_, rfl, _, rfl, b, _, _, _, rfl, rfl, SqT.of hb, atI_nat (j := 1) rfl, _, rfl, b, _, _, _, rfl, rfl, SqT.of hb, atI_nat (j := 2) rfl, ?_⟩
        exact ⟨d, kvs, e.k, e.d, rfl, hd, hz, hv, q⟩
def spCheck : Sp := fun vs H Q _ => ∃ (c : Addr) (m : Int) (es : List Ev), vs = [.ref c, .int m] ∧ Lst evV H c es ∧ Valid es ∧ es.length ≤ 400 ∧ (∀ e ∈ es, e.k < m) ∧ ∀ H', Same H H' → Q .non H'
theorem ok_check_record (bt : Bt mg) (a : AtX K mg "check_record" s_check_record ["value", "many"] []) (c_is_short_list : Cl P w K mg base 1 "is_short_list" spShort) (c_is_event : Cl P w K mg base 3 "is_event" spEvent) (c_can_follow : Cl P w K mg base 2 "can_follow" spFollow) (c_is_below : Cl P w K mg base 1 "is_below" spBelow) :
    Cl P w K mg base 4 "check_record" spCheck := by
  refine clX a sc_check_record (fun vs H Q E h => ?_) (fun f cdv A outer s H vs Q hg hr h => ?_)
  · obtain ⟨a, m, e, rfl, _⟩ := h
    rfl
  · obtain ⟨c, m, es, rfl, hL, hV, hl, hkm, q⟩ := h
    refine ⟨_, (pss_cons (ps_if (pt_not (pt_val (pe_cl c_is_short_list hg hr (by decide) (by rfl) (pa_cons (pv 0) pa_nil)))) pss_never pss_nil)
      (pss_cons (ps_set (i := 2) sc_check_record.nd rfl (Or.inl rfl) pe_dnewK)
      (pss_one (ps_for PassesOwn.never rfl (pi_enum (by rfl) bt.m_enumerate (pa_cons (pv 0) pa_nil)) (pg_tup rfl (pgs_cons (pg_name (i := 3) sc_check_record.nd rfl (Or.inl rfl)) (pgs_cons (pg_name (i := 4) sc_check_record.nd rfl (Or.inl rfl)) pgs_nil))) (pss_cons (ps_if (PW.pt (pw_or (pt_not (pt_val (pe_cl c_is_event hg hr (by decide) (by rfl) (pa_cons (pv 4) pa_nil)))) (pw_or1 (pt_not (pt_val (pe_cl c_is_below hg hr (by decide) (by rfl) (pa_cons (pe_ix ix_tup (pv 4) pe_int (fun _ _ => rfl)) (pa_cons (pv 1) pa_nil)))))))) pss_never pss_nil)
      (pss_one (ps_if (pt_not (pt_val (pe_cl c_can_follow hg hr (by decide) (by rfl) (pa_cons (pv 4) (pa_cons (pe_ifExp (pt_cmpR op_gt (pv 3) pe_int (nomark _)) (pe_ix ix_list (pv 0) (pe_op op_sub (pv 3) pe_int) (fun _ _ => rfl)) pe_non) (pa_cons (pv 2) pa_nil)))))) pss_never pss_nil))))))), ?_⟩
    obtain ⟨as, hc, hT⟩ := hL
    have hlen : (as.map V.ref).length = es.length := by rw [List.length_map]; exact hT.1
    refine ⟨_, rfl, c, _, rfl, hc, by omega, _, rfl, iteF ?_⟩
    intro d nd
    refine ⟨_, rfl, c, _, rfl, SqL.of ((same_upd nd) _ _ hc), for_it (walk_enum (xs := as.map V.ref))
      (fun i σ H' => Same H H' ∧ ∃ kvs y2 y3, σ = [some (.ref c), some (.int m), some (.ref d), y2, y3] ∧ H' d = some (.dK kvs) ∧ kvs.length ≤ i ∧ HeldK kvs (heldB (es.take i)))
      ⟨same_upd nd, _, _, _, rfl, upd_same, Nat.le_refl _, HeldK.nil⟩ (fun _ _ H' _ p => SqL.of (p.1 _ _ hc)) (fun i x σ H1 H2 hi p y => ?_) (fun σ H1 p => ?_)⟩
    · obtain ⟨s1, kvs, y2, y3, rfl, hd, hkl, hk⟩ := p
      obtain ⟨T, u, v, rfl, nT, rfl, e1, e2⟩ := y
      have hi' : i < es.length := by omega
      obtain ⟨b, hb, hbt⟩ := hT.at_ hi'
      have he : es[i]? = some es[i] := List.getElem?_eq_getElem hi'
      obtain ⟨v1, v2, v3⟩ := hV i _ he
      have e2' : v = .ref b := by
        have e2 : (as.map V.ref)[i]? = some v := e2
        rw [List.getElem?_map, hb] at e2
        exact (Option.some.inj e2).symm
      subst e2'
      have e1' : u = .int (i : Nat) := (Option.some.inj e1).symm
      subst e1'
      have s2 : Same H (upd H1 T (.tup [.int (i : Nat), .ref b])) := s1.trans (same_upd nT)
      have hb2 := s2 _ _ hbt
      refine ⟨T, _, rfl, SqT.of upd_same, rfl, _, _, rfl, _, _, rfl, rfl, ?_⟩
      refine ⟨_, rfl, b, _, rfl, hb2, v1, fun H3 s3 => ?_⟩
      have s4 := s2.trans s3
      have hb4 := s4 _ _ hbt
      refine ⟨_, rfl, iteF ?_⟩
      have hkk := hkm _ (List.getElem_mem hi')
      refine ⟨_, rfl, b, _, _, _, rfl, rfl, SqT.of hb4, atI_nat (j := 1) rfl, _, rfl, es[i].k, m, rfl, hkk, _, rfl, iteF ?_⟩
      have hd4 : H3 d = some (.dK kvs) := s3 _ _ ((same_upd nT) _ _ hd)
      have fin : Same H (upd H3 d (.dK (putK kvs (Sum.inl es[i].k) (.bl es[i].d)))) ∧ ∃ kvs' y2 y3, [some (V.ref c), some (V.int m), some (V.ref d), some (V.int (i : Nat)), some (V.ref b)] = [some (V.ref c), some (V.int m), some (V.ref d), y2, y3] ∧
          upd H3 d (.dK (putK kvs (Sum.inl es[i].k) (.bl es[i].d))) d = some (.dK kvs') ∧ kvs'.length ≤ i + 1 ∧ HeldK kvs' (heldB (es.take (i + 1))) := by
        refine ⟨Same.off s4 nd off_upd, _, _, _, rfl, upd_same, ?_, ?_⟩
        · have := put_len kvs (Sum.inl es[i].k) (.bl es[i].d); omega
        · rw [List.take_add_one, he]
          exact hk.put
      have hv : (valV kvs (Sum.inl es[i].k)).getD (.bl false) = .bl (!es[i].d) := by rw [hk.at_, v2]
      have hz : kvs.length < sizeLine := small1000 (by omega)
      refine ⟨_, rfl, _, rfl, _, _, rfl, rfl, _, rfl, ite2 (fun e => ?_) (fun e => ?_)⟩
      · have e0 : (0 : Int) < (i : Nat) := of_decide_eq_true e
        obtain ⟨b', hb', hbt'⟩ := hT.at_ (i := i - 1) (by omega)
        have hle := v3 (i - 1) _ (by omega) (List.getElem?_eq_getElem (by omega))
        have g : (as.map V.ref)[i - 1]? = some (.ref b') := by rw [List.getElem?_map, hb']; rfl
        refine ⟨_, rfl, _, rfl, _, _, rfl, rfl, c, _, _, .ref b', rfl, rfl, SqL.of (s4 _ _ hc), at_of (j := i - 1) (by omega) g, _, rfl, ?_⟩
        exact ⟨b, d, es[i], .ref b', kvs, rfl, hb4, .inr ⟨b', _, rfl, s4 _ _ hbt', hle⟩, hd4, hz, hv, _, rfl, iteF fin⟩
      · exact ⟨_, rfl, b, d, es[i], .non, kvs, rfl, hb4, .inl rfl, hd4, hz, hv, _, rfl, iteF fin⟩
    · exact q _ p.1
def spCode : Sp := fun vs H Q _ => ∃ c : Str, vs = [.str c] ∧ CodeOk c ∧ ∀ H', Same H H' → Q (.bl true) H'
theorem ok_is_code (bt : Bt mg) {tk1 tk2 : Tok} (m_MOST_SIGNS : mg "MOST_SIGNS" = some (.int 8 tk1)) (m_CODE_SIGNS : mg "CODE_SIGNS" = some (.str "abcdefghijklmnopqrstuvwxyz0123456789" tk2)) (a : At K mg "is_code" s_is_code ["value"]) : Cl P w K mg base 1 "is_code" spCode := by
  refine clG a sc_is_code (fun vs H Q E h => ?_) (fun f cdv A outer s H vs Q hg hr h => ?_)
  · obtain ⟨i, rfl, _⟩ := h
    rfl
  · obtain ⟨c, rfl, hc, q⟩ := h
    refine ⟨_, (pss_cons (ps_if (PW.pt (pw_or (pt_not (pt_val (pe_callB call_isi (by rfl) bt.m_isinstance (by decide +kernel) (pa_cons (pv 0) (pa_cons (pe_bltn (v := .ty "str") (by rfl) bt.m_str (by decide +kernel) rfl) pa_nil))))) (pw_or1 (pt_not (pt_chain op_le op_le pe_int (pe_callB call_len_str (by rfl) bt.m_len (by decide +kernel) (pa_cons (pv 0) pa_nil)) (pe_glob (v := .int 8) (by rfl) m_MOST_SIGNS ⟨_, rfl⟩)))))) (pss_one (ps_ret pe_bl)) pss_nil)
      (pss_one (ps_ret (pe_callB (cr_all rfl) (by rfl) bt.m_all (by decide +kernel) (pa_cons (pe_lc (own := [("sign", 1)]) (g := (gName 1)) (by rfl) sc_is_code.nd (pi_str (pv 0)) (blkOk_by (N := n_is_code) (sc := defScope s_is_code) (by decide +kernel)) (fun _ _ _ _ _ => (pg_name (i := 1) sc_is_code.nd rfl (Or.inl rfl))) (fun _ _ _ _ _ => pts_nil) (fun _ _ _ _ _ => (pe_cmpR op_in_sign (pv 1) (pe_glob (v := .str "abcdefghijklmnopqrstuvwxyz0123456789") (by rfl) m_CODE_SIGNS ⟨_, rfl⟩) rfl))) pa_nil))))), ?_⟩
    have e1 : (c.length : Int) = (c.cps.size : Int) := rfl
    have h1 := hc.1
    have h8 := hc.2.1
    refine ⟨_, rfl, _, _, _, _, true, rfl, .ty "str", .base (.str _), kit_ty (by decide +kernel), _, rfl, iteF ?_⟩
    refine ⟨_, rfl, c, rfl, (by rw [sizeLine_eq]; have : c.length = c.cps.size := rfl; omega), _, _, rfl, rfl, true, congrArg V.bl (decide_eq_true (by omega)), iteT ⟨_, _, rfl, rfl, true, congrArg V.bl (decide_eq_true (by omega)), ?_⟩⟩
    refine iteF ⟨_, rfl, c, rfl, fun L nL => lc_it (walk_str (z := c)) (fun i H' => H' = upd H L (.lst ((List.replicate i true).map V.bl))) rfl (fun _ _ _ _ => True.intro) (fun i x H2 H3 hi p y => ?_) (fun H2 p => ?_)⟩
    · obtain ⟨rfl, d, hd, rfl⟩ := y
      subst p
      have hm : d ∈ signs.cps.toList := hc.2.2 d (by rw [Array.mem_toList_iff]; exact Array.mem_of_getElem? hd)
      refine ⟨rfl, ⟨_, rfl, d, signs, rfl, rfl, _, upd_same, ?_, ?_⟩⟩
      · rw [List.length_map, List.length_replicate]; exact small1000 (by omega)
      · show upd (upd H L _) L (.lst (_ ++ [V.bl (decide (d ∈ signs.cps.toList))])) = _
        rw [decide_eq_true hm, upd_upd, List.replicate_succ', List.map_append]; rfl
    · subst p
      refine ⟨L, _, rfl, SqL.of upd_same, ?_⟩
      rw [allT]
      exact q _ (same_upd nL)
end
end K28

set_option Elab.async false
set_option linter.all false
set_option maxRecDepth 100000
set_option maxHeartbeats 8000000
namespace K28
open PySem PySem.Spec PyProof.Rows L2 Gd Rm La Cb
def ksV (ks : List Int) : List V := ks.map V.int
theorem at_int {ns : List Int} {i : Nat} (h : i < ns.length) : (ns.map V.int)[i]? = some (.int ns[i]) := get_map_int (List.getElem?_eq_getElem h)
section
variable {P : Program} {w : World} {K : PySem.W.Frag} {mg : Str → Option Value} {base : Heap}
def spAsc : Sp := fun vs H Q _ => ∃ (a : Addr) (ks : List Int) (m : Int), vs = [.ref a, .int m] ∧ H a = some (.tup (ks.map V.int)) ∧ ks.Pairwise (· < ·) ∧ (ks.length = 2 ∨ ks.length = 3) ∧ (∀ k ∈ ks, 0 ≤ k ∧ k < m) ∧ ∀ H', Same H H' → Q (.bl true) H'
theorem ok_are_ascending (bt : Bt mg) (a : At K mg "are_ascending" s_are_ascending ["values", "many"]) (c_is_between : Cl P w K mg base 2 "is_between" spBtw) : Cl P w K mg base 3 "are_ascending" spAsc := by
  refine clG a sc_are_ascending (fun vs H Q E h => ?_) (fun f cdv A outer s H vs Q hg hr h => ?_)
  · obtain ⟨a, ks, m, rfl, _⟩ := h
    rfl
  · obtain ⟨a, ks, m, rfl, ha, hasc, hlen, hkey, q⟩ := h
    refine ⟨_, (pss_cons (ps_if (pt_not (pt_val (pe_callB (cr_all rfl) (by rfl) bt.m_all (by decide +kernel) (pa_cons (pe_lc (own := [("value", 3)]) (g := (gName 3)) (by rfl) sc_are_ascending.nd (pi_tup (pv 0)) (blkOk_by (N := n_are_ascending) (sc := defScope s_are_ascending) (by decide +kernel)) (fun _ _ _ _ _ => (pg_name (i := 3) sc_are_ascending.nd rfl (Or.inl rfl))) (fun _ _ _ _ _ => pts_nil) (fun _ _ _ _ _ => (pe_cl c_is_between hg hr (by decide) (by rfl) (pa_cons (pv 3) (pa_cons pe_int (pa_cons (pe_op op_sub (pv 1) pe_int) pa_nil)))))) pa_nil)))) (pss_one (ps_ret pe_bl)) pss_nil)
      (pss_one (ps_ret (pe_callB (cr_all rfl) (by rfl) bt.m_all (by decide +kernel) (pa_cons (pe_lc (own := [("at", 2)]) (g := (gName 2)) (by rfl) sc_are_ascending.nd (pi_range2 (by rfl) bt.m_range (pa_cons pe_int (pa_cons (pe_callB call_len_seq (by rfl) bt.m_len (by decide +kernel) (pa_cons (pv 0) pa_nil)) pa_nil))) (blkOk_by (N := n_are_ascending) (sc := defScope s_are_ascending) (by decide +kernel)) (fun _ _ _ _ _ => (pg_name (i := 2) sc_are_ascending.nd rfl (Or.inl rfl))) (fun _ _ _ _ _ => pts_nil) (fun _ _ _ _ _ => (pe_cmpR op_lt (pe_ix (r := rIxT K) ix_tup (pv 0) (pe_op op_sub (pv 2) pe_int) (fun _ _ => rfl)) (pe_ix (r := rIxT K) ix_tup (pv 0) (pv 2) (fun _ _ => rfl)) (nomark _)))) pa_nil))))), ?_⟩
    have hl : (ks.map V.int).length = ks.length := List.length_map _
    refine ⟨_, rfl, a, rfl, ⟨_, SqT.of ha⟩, fun M nM => lc_it (walk_tup (xs := ks.map V.int)) (fun i H' => Same H H' ∧ H' M = some (.lst ((List.replicate i true).map V.bl))) ⟨same_upd nM, upd_same⟩ (fun i H' _ p => SqT.of (p.1 _ _ ha)) (fun i x Hx H3 hi p y => ?_) (fun H3 p => ?_)⟩
    · obtain ⟨rfl, e2⟩ := y
      have hi' : i < ks.length := by rw [hl] at hi; exact hi
      have ex : V.int ks[i] = x := Option.some.inj ((at_int hi').symm.trans e2)
      subst ex
      have hk := hkey ks[i] (List.getElem_mem hi')
      refine ⟨rfl, _, rfl, _, rfl, _, _, rfl, rfl, _, _, _, rfl, hk.1, by omega, _, p.2, ?_, Same.off p.1 nM off_upd, ?_⟩
      · rw [List.length_map, List.length_replicate]; exact small1000 (by omega)
      · rw [upd_same, List.replicate_succ', List.map_append]; rfl
    · refine ⟨M, _, rfl, SqL.of p.2, _, rfl, ?_⟩
      rw [allT]
      refine iteF ?_
      have ha3 := p.1 _ _ ha
      refine ⟨_, rfl, a, _, rfl, .inr (SqT.of ha3), 1, _, rfl, ⟨by decide, by decide, by rw [hl]; omega, by rw [hl]; omega⟩, fun M2 nM2 => lc_it walk_range (fun i H' => Same H3 H' ∧ H' M2 = some (.lst ((List.replicate i true).map V.bl))) ⟨same_upd nM2, upd_same⟩ (fun _ _ _ _ => True.intro) (fun i x Hx H5 hi p5 y => ?_) (fun H5 p5 => ?_)⟩
      · obtain ⟨rfl, rfl⟩ := y
        rw [hl] at hi
        have hi' : i + 1 < ks.length := by omega
        have ha5 := p5.1 _ _ ha3
        have e1 : (1 : Int) + (i : Int) - 1 = ((i : Nat) : Int) := by omega
        have e2 : (1 : Int) + (i : Int) = ((i + 1 : Nat) : Int) := by omega
        have hlt : ks[i] < ks[i + 1] := List.pairwise_iff_getElem.mp hasc i (i + 1) (by omega) hi' (by omega)
        refine ⟨rfl, _, rfl, _, rfl, _, _, rfl, rfl, a, _, _, _, rfl, rfl, SqT.of ha5, by rw [e1]; exact atI_nat (at_int (by omega)), _, rfl, _, rfl, a, _, _, _, rfl, rfl, SqT.of ha5, by rw [e2]; exact atI_nat (at_int hi'), _, _, rfl, rfl, _, p5.2, ?_, Same.off p5.1 nM2 off_upd, ?_⟩
        · rw [List.length_map, List.length_replicate]; exact small1000 (by omega)
        · rw [upd_same, List.replicate_succ', List.map_append]
          show some (HO.lst (_ ++ [V.bl (decide (ks[i] < ks[i + 1]))])) = _
          rw [decide_eq_true hlt]; rfl
      · refine ⟨M2, _, rfl, SqL.of p5.2, ?_⟩
        rw [allT]
        exact q _ (p.1.trans p5.1)
def spKeys : Sp := fun vs H Q _ => ∃ (a : Addr) (ks : List Int) (m : Int), vs = [.ref a, .int m] ∧ H a = some (.tup (ks.map V.int)) ∧ ks.Pairwise (· < ·) ∧ (ks.length = 2 ∨ ks.length = 3) ∧ (∀ k ∈ ks, 0 ≤ k ∧ k < m) ∧ ∀ H', Same H H' → Q (.bl true) H'
theorem ok_are_combo_keys (bt : Bt mg) (a : At K mg "are_combo_keys" s_are_combo_keys ["value", "many"]) (c_are_ascending : Cl P w K mg base 3 "are_ascending" spAsc) : Cl P w K mg base 4 "are_combo_keys" spKeys := by
  refine clG a sc_are_combo_keys (fun vs H Q E h => ?_) (fun f cdv A outer s H vs Q hg hr h => ?_)
  · obtain ⟨a, ks, m, rfl, _⟩ := h
    rfl
  · obtain ⟨a, ks, m, rfl, ha, hasc, hlen, hkey, q⟩ := h
    refine ⟨_, (pss_one (ps_ret (pe_and (pe_callB call_isi (by rfl) bt.m_isinstance (by decide +kernel) (pa_cons (pv 0) (pa_cons (pe_bltn (v := .ty "tuple") (by rfl) bt.m_tuple (by decide +kernel) rfl) pa_nil))) (pe_and (pe_chain op_le op_le pe_int (pe_callB call_len_seq (by rfl) bt.m_len (by decide +kernel) (pa_cons (pv 0) pa_nil)) pe_int) (pe_one (pe_cl c_are_ascending hg hr (by decide) (by rfl) (pa_cons (pv 0) (pa_cons (pv 1) pa_nil)))))))), ?_⟩
    have hl : (ks.map V.int).length = ks.length := List.length_map _
    refine ⟨_, rfl, _, _, _, _, true, rfl, .ty "tuple", .base (.tup ha), kit_ty (by decide +kernel), _, rfl, iteT ?_⟩
    refine ⟨_, rfl, a, _, rfl, .inr (SqT.of ha), _, _, rfl, rfl, true, congrArg V.bl (decide_eq_true (by rw [hl]; omega)), iteT ⟨_, _, rfl, rfl, true, congrArg V.bl (decide_eq_true (by rw [hl]; omega)), iteT ?_⟩⟩
    exact ⟨_, rfl, _, rfl, a, ks, m, rfl, ha, hasc, hlen, hkey, q⟩
def spCombo : Sp := fun vs H Q _ => ∃ (v : V) (cb : Cmb) (m : Int), vs = [v, .int m] ∧ CmbV H cb v ∧ CmbOk m cb ∧ ∀ H', Same H H' → Q (.bl true) H'
theorem ok_is_combo (bt : Bt mg) {tk : Tok} (m_GREATEST_COMBO_TIME : mg "GREATEST_COMBO_TIME" = some (.int 1000000000 tk)) (a : At K mg "is_combo" s_is_combo ["value", "many"]) (c_is_between : Cl P w K mg base 2 "is_between" spBtw) (c_is_code : Cl P w K mg base 1 "is_code" spCode) (c_are_combo_keys : Cl P w K mg base 4 "are_combo_keys" spKeys) : Cl P w K mg base 5 "is_combo" spCombo := by
  refine clG a sc_is_combo (fun vs H Q E h => ?_) (fun f cdv A outer s H vs Q hg hr h => ?_)
  · obtain ⟨a, ks, m, rfl, _⟩ := h
    rfl
  · obtain ⟨v, cb, m, rfl, ⟨a, k, rfl, ha, hk⟩, ok, q⟩ := h
    refine ⟨_, (pss_cons (ps_if (PW.pt (pw_or (pt_not (pt_val (pe_callB call_isi (by rfl) bt.m_isinstance (by decide +kernel) (pa_cons (pv 0) (pa_cons (pe_bltn (v := .ty "tuple") (by rfl) bt.m_tuple (by decide +kernel) rfl) pa_nil))))) (pw_or1 (pt_cmpR op_ne (pe_callB call_len_seq (by rfl) bt.m_len (by decide +kernel) (pa_cons (pv 0) pa_nil)) pe_int (nomark _))))) (pss_one (ps_ret pe_bl)) pss_nil)
      (pss_cons (ps_asg (pv 0) (pg_tup rfl (pgs_cons (pg_name (i := 2) sc_is_combo.nd rfl (Or.inl rfl)) (pgs_cons (pg_name (i := 3) sc_is_combo.nd rfl (Or.inl rfl)) (pgs_cons (pg_name (i := 4) sc_is_combo.nd rfl (Or.inl rfl)) pgs_nil)))))
      (pss_cons (ps_if (pt_not (pt_val (pe_cl c_are_combo_keys hg hr (by decide) (by rfl) (pa_cons (pv 2) (pa_cons (pv 1) pa_nil))))) (pss_one (ps_ret pe_bl)) pss_nil)
      (pss_one (ps_ret (pe_and (pe_cl c_is_between hg hr (by decide) (by rfl) (pa_cons (pv 3) (pa_cons pe_int (pa_cons (pe_glob (v := .int 1000000000) (by rfl) m_GREATEST_COMBO_TIME ⟨_, rfl⟩) pa_nil)))) (pe_one (pe_cl c_is_code hg hr (by decide) (by rfl) (pa_cons (pv 4) pa_nil))))))))), ?_⟩
    refine ⟨_, rfl, _, _, _, _, true, rfl, .ty "tuple", .base (.tup ha), kit_ty (by decide +kernel), _, rfl, iteF ?_⟩
    refine ⟨_, rfl, a, _, rfl, .inr (SqT.of ha), rfl, _, rfl, iteF ?_⟩
    refine ⟨_, rfl, a, _, rfl, SqT.of ha, rfl, _, _, rfl, _, _, rfl, _, _, rfl, rfl, ?_⟩
    refine ⟨_, rfl, _, rfl, k, cb.ks, m, rfl, hk, ok.asc, ok.len, ok.key, fun H1 s1 => ⟨_, rfl, iteF ?_⟩⟩
    refine ⟨_, rfl, _, _, _, rfl, ok.time.1, ok.time.2, _, rfl, iteT ?_⟩
    exact ⟨_, rfl, cb.c, rfl, ok.code, fun H2 s2 => q _ (s1.trans s2)⟩
def spCCombos : Sp := fun vs H Q _ => ∃ (c : Addr) (cbs : List Cmb) (m : Int), vs = [.ref c, .int m] ∧ Cmbs H c cbs ∧ CbsOk m cbs ∧ ∀ H', Same H H' → Q .non H'
theorem ok_check_combos (bt : Bt mg) {tk : Tok} (m_MOST_COMBOS : mg "MOST_COMBOS" = some (.int 6 tk)) (a : At K mg "check_combos" s_check_combos ["value", "many"]) (c_is_combo : Cl P w K mg base 5 "is_combo" spCombo) : Cl P w K mg base 6 "check_combos" spCCombos := by
  refine clG a sc_check_combos (fun vs H Q E h => ?_) (fun f cdv A outer s H vs Q hg hr h => ?_)
  · obtain ⟨a, ks, m, rfl, _⟩ := h
    rfl
  · obtain ⟨c, cbs, m, rfl, ⟨vs, hc, hC⟩, ok, q⟩ := h
    have few := ok.few
    have hvl := hC.1
    refine ⟨_, (pss_cons (ps_if (PW.pt (pw_or (pt_not (pt_val (pe_callB call_isi (by rfl) bt.m_isinstance (by decide +kernel) (pa_cons (pv 0) (pa_cons (pe_bltn (v := .ty "list") (by rfl) bt.m_list (by decide +kernel) rfl) pa_nil))))) (pw_or1 (pt_cmpR op_gt (pe_callB call_len_seq (by rfl) bt.m_len (by decide +kernel) (pa_cons (pv 0) pa_nil)) (pe_glob (v := .int 6) (by rfl) m_MOST_COMBOS ⟨_, rfl⟩) (nomark _))))) pss_never pss_nil)
      (pss_cons (ps_set (i := 2) sc_check_combos.nd rfl (Or.inl rfl) (pe_lst pa_nil))
      (pss_one (ps_for PassesOwn.never rfl (pi_enum (by rfl) bt.m_enumerate (pa_cons (pv 0) pa_nil)) (pg_tup rfl (pgs_cons (pg_name (i := 3) sc_check_combos.nd rfl (Or.inl rfl)) (pgs_cons (pg_name (i := 4) sc_check_combos.nd rfl (Or.inl rfl)) pgs_nil))) (pss_cons (ps_if (PW.pt (pw_or (pt_not (pt_val (pe_cl c_is_combo hg hr (by decide) (by rfl) (pa_cons (pv 4) (pa_cons (pv 1) pa_nil))))) (pw_or1 (pt_cmpR (op_inD (room65 hr)) (pe_ix ix_tup (pv 4) pe_int (fun _ _ => rfl)) (pv 2) (by rfl))))) pss_never pss_nil)
      (pss_one (ps_expr (pe_bm PySem.F.plainAttrs_list PySem.F.slot_list_append PySem.F.type_list_append mt_append (pv 2) (pa_cons (pe_ix ix_tup (pv 4) pe_int (fun _ _ => rfl)) pa_nil))))))))), ?_⟩
    refine ⟨_, rfl, _, _, _, _, true, rfl, .ty "list", .base (.lst hc), kit_ty (by decide +kernel), _, rfl, iteF ?_⟩
    refine ⟨_, rfl, c, _, rfl, .inl (SqL.of hc), _, _, rfl, rfl, false, congrArg V.bl (decide_eq_false (by omega)), iteF ?_⟩
    refine ⟨Nat.zero_le _, fun Kn nKn => ?_⟩
    have sK := same_upd (o := .lst []) nKn
    refine ⟨_, rfl, c, _, rfl, SqL.of (sK _ _ hc), for_it (walk_enum (xs := vs)) (fun i σ H' => ∃ y3 y4, σ = [some (.ref c), some (.int m), some (.ref Kn), y3, y4] ∧ Same H H' ∧ Lst ksV H' Kn ((cbs.take i).map Cmb.ks))
      ⟨_, _, rfl, sK, [], upd_same, Tups.nil⟩ (fun i H' _ _ p => by obtain ⟨_, _, _, s, _⟩ := p; exact SqL.of (s _ _ hc)) (fun i x σ H1 H2 hi p y => ?_) (fun σ H1 p => ?_)⟩
    · obtain ⟨y3, y4, rfl, s1, hL⟩ := p
      obtain ⟨T, u, v, rfl, nT, rfl, e1, e2⟩ := y
      have hi' : i < cbs.length := by omega
      obtain ⟨ad, k, hv, ha, hk⟩ := Cmbs.at_ hC hi'
      have e1' : u = .int (i : Nat) := (Option.some.inj e1).symm
      subst e1'
      have e2' : v = .ref ad := Option.some.inj ((show vs[i]? = some v from e2).symm.trans hv)
      subst e2'
      have sT := same_upd (o := .tup [.int (i : Nat), .ref ad]) nT
      have s2 := s1.trans sT
      have hcb : cbs[i]? = some cbs[i] := List.getElem?_eq_getElem hi'
      have ok1 := ok.all cbs[i] (List.getElem_mem hi')
      refine ⟨T, _, rfl, SqT.of upd_same, rfl, _, _, rfl, _, _, rfl, rfl, ?_⟩
      refine ⟨_, rfl, _, rfl, .ref ad, cbs[i], m, rfl, ⟨ad, k, rfl, s2 _ _ ha, s2 _ _ hk⟩, ok1, fun H3 s3 => ⟨_, rfl, iteF ?_⟩⟩
      have s4 := s2.trans s3
      have hL4 := hL.same (sT.trans s3)
      obtain ⟨as, hKn, hT⟩ := id hL4
      have hal := hT.1
      have ha4 := s4 _ _ ha
      have hk4 := s4 _ _ hk
      refine ⟨_, rfl, ad, _, _, _, rfl, rfl, SqT.of ha4, atI_nat (j := 0) rfl, _, rfl, ksD cbs[i].ks, ((cbs.take i).map Cmb.ks).map ksD, .tup (SqT.of hk4) (dpInts _), .lst (SqL.of hKn) (dpAll_of (fun a e h => .tup (SqT.of h) (dpInts e)) as _ hT), shaped_ks _, shaped_kss _, _, rfl, ?_⟩
      rw [any_ks]
      have hnot : ¬ cbs[i].ks ∈ (cbs.take i).map Cmb.ks := fun hm => by
        obtain ⟨j, hj⟩ := List.getElem?_of_mem hm
        have hji : j < i := by
          have := (List.getElem?_eq_some_iff.mp hj).1
          rw [List.length_map, List.length_take] at this; omega
        rw [List.getElem?_map, List.getElem?_take_of_lt hji] at hj
        have h1 : (cbs.map Cmb.ks)[j]? = some cbs[i].ks := by rw [List.getElem?_map]; exact hj
        have h2 : (cbs.map Cmb.ks)[i]? = some cbs[i].ks := by rw [List.getElem?_map, hcb]; rfl
        have := (List.getElem?_inj (by rw [List.length_map]; omega) ok.apart).mp (h1.trans h2.symm)
        omega
      rw [decide_eq_false hnot]
      refine iteF ?_
      refine ⟨_, rfl, .inl ⟨rfl, _, SqL.of hKn⟩, _, rfl, ad, _, _, _, rfl, rfl, SqT.of ha4, atI_nat (j := 0) rfl, Kn, _, _, rfl, rfl, hKn, ?_, _, _, rfl, Same.off s4 nKn off_upd, as ++ [k], ?_, ?_⟩
      · rw [List.length_map, hal, List.length_map, List.length_take]; exact small1000 (by omega)
      · rw [upd_same, List.map_append]; rfl
      · rw [List.take_add_one, hcb, List.map_append]
        refine Tups.snoc (hT.off hKn off_upd) ?_
        rw [upd_ne (ne_of hk4 hKn (by intro z; cases z))]
        exact hk4
    · obtain ⟨y3, y4, rfl, s1, hL⟩ := p
      exact q _ s1
def spMany : Sp := fun vs H Q _ => ∃ m : Int, vs = [.int m] ∧ 1 ≤ m ∧ m ≤ 10 ∧ Q .non H
theorem ok_check_many {tk : Tok} (m_MOST_BOARD_KEYS : mg "MOST_BOARD_KEYS" = some (.int 10 tk)) (a : At K mg "check_many" s_check_many ["many"]) (c_is_between : Cl P w K mg base 2 "is_between" spBtw) : Cl P w K mg base 3 "check_many" spMany := by
  refine clG a sc_check_many (fun vs H Q E h => ?_) (fun f cdv A outer s H vs Q hg hr h => ?_)
  · obtain ⟨m, rfl, _⟩ := h
    rfl
  · obtain ⟨m, rfl, h1, h2, q⟩ := h
    refine ⟨_, (pss_one (ps_if (pt_not (pt_val (pe_cl c_is_between hg hr (by decide) (by rfl) (pa_cons (pv 0) (pa_cons pe_int (pa_cons (pe_glob (v := .int 10) (by rfl) m_MOST_BOARD_KEYS ⟨_, rfl⟩) pa_nil)))))) pss_never pss_nil)), ?_⟩
    exact ⟨_, rfl, _, _, _, rfl, h1, h2, _, rfl, iteF q⟩
structure Rc (H : Hp) (c : Addr) (m : Int) (es : List Ev) : Prop where
  ls : Lst evV H c es
  valid : Valid es
  len : es.length ≤ 400
  key : ∀ e ∈ es, e.k < m
theorem Rc.same {H H' : Hp} {c : Addr} {m : Int} {es : List Ev} (h : Rc H c m es) (s : Same H H') : Rc H' c m es := { h with ls := h.ls.same s }
def spGate : Sp := fun vs H Q _ => ∃ (cc c : Addr) (cbs : List Cmb) (m : Int) (es : List Ev), vs = [.int m, .ref cc, .ref c] ∧ 1 ≤ m ∧ m ≤ 10 ∧ Cmbs H cc cbs ∧ CbsOk m cbs ∧ Rc H c m es ∧ ∀ H', Same H H' → Q .non H'
theorem ok_check_gate (a : At K mg "check_gate" s_check_gate ["many", "combos", "record"]) (c_check_many : Cl P w K mg base 3 "check_many" spMany) (c_check_combos : Cl P w K mg base 6 "check_combos" spCCombos) (c_check_record : Cl P w K mg base 4 "check_record" spCheck) : Cl P w K mg base 7 "check_gate" spGate := by
  refine clG a sc_check_gate (fun vs H Q E h => ?_) (fun f cdv A outer s H vs Q hg hr h => ?_)
  · obtain ⟨cc, c, cbs, m, es, rfl, _⟩ := h
    rfl
  · obtain ⟨cc, c, cbs, m, es, rfl, m1, m2, hC, ok, R, q⟩ := h
    refine ⟨_, (pss_cons (ps_expr (pe_cl c_check_many hg hr (by decide) (by rfl) (pa_cons (pv 0) pa_nil)))
      (pss_cons (ps_expr (pe_cl c_check_combos hg hr (by decide) (by rfl) (pa_cons (pv 1) (pa_cons (pv 0) pa_nil))))
      (pss_one (ps_expr (pe_cl c_check_record hg hr (by decide) (by rfl) (pa_cons (pv 2) (pa_cons (pv 0) pa_nil))))))), ?_⟩
    refine ⟨_, rfl, m, rfl, m1, m2, ?_⟩
    refine ⟨_, rfl, _, rfl, cc, cbs, m, rfl, hC, ok, fun H1 s1 => ?_⟩
    exact ⟨_, rfl, _, rfl, c, m, es, rfl, R.ls.same s1, R.valid, R.len, R.key, fun H2 s2 => q _ (s1.trans s2)⟩
def tkV (e : Ev) : List V := [.int e.t, .int e.k]
def optN : Option Nat → V
  | none => .non
  | some i => .int (i : Int)
/-- which combo the first piece is -/
structure FpAt (cbs : List Cmb) (ds : List Ev) (o : Option Nat) : Prop where
  yes : ∀ i, o = some i → ∃ cb, cbs[i]? = some cb ∧ Match cb (fp cbs ds) ds
  no : o = none → fp cbs ds = 1
theorem FpAt.uniq {m : Int} {cbs : List Cmb} {ds : List Ev} {o o' : Option Nat} (ok : CbsOk m cbs) (h : FpAt cbs ds o) (h' : FpAt cbs ds o') : o = o' := by
  have one : ∀ {a b : Option Nat}, FpAt cbs ds a → FpAt cbs ds b → a = none → b = none := fun {a b} ha hb z => by
    cases b with
    | none => rfl
    | some i =>
      obtain ⟨cb, e, mt⟩ := hb.yes i rfl
      rw [ha.no z] at mt
      have := (ok.all cb (List.mem_of_getElem? e)).len
      have := mt.1
      omega
  cases o with
  | none => exact (one h h' rfl).symm
  | some i =>
    cases o' with
    | none => cases one h' h rfl
    | some j =>
      obtain ⟨cb, e, mt⟩ := h.yes i rfl
      obtain ⟨cb', e', mt'⟩ := h'.yes j rfl
      have a := (ok.all cb (List.mem_of_getElem? e)).asc
      have a' := (ok.all cb' (List.mem_of_getElem? e')).asc
      have ek : cb.ks = cb'.ks := List.Perm.eq_of_pairwise (fun x y _ _ h1 h2 => Int.le_antisymm h1 h2) (a.imp fun h => by omega) (a'.imp fun h => by omega) (mt.2.1.trans mt'.2.1.symm)
      have hi := (List.getElem?_eq_some_iff.mp e).1
      have hj := (List.getElem?_eq_some_iff.mp e').1
      have g1 : (cbs.map Cmb.ks)[i]? = some cb.ks := by rw [List.getElem?_map, e]; rfl
      have g2 : (cbs.map Cmb.ks)[j]? = some cb.ks := by rw [List.getElem?_map, e', ek]; rfl
      have := (List.getElem_inj ok.apart (i := i) (j := j) (h₀ := by rw [List.length_map]; exact hi) (h₁ := by rw [List.length_map]; exact hj)).mp (by
        have q1 := List.getElem?_eq_getElem (l := cbs.map Cmb.ks) (i := i) (by rw [List.length_map]; exact hi)
        have q2 := List.getElem?_eq_getElem (l := cbs.map Cmb.ks) (i := j) (by rw [List.length_map]; exact hj)
        rw [g1] at q1
        rw [g2] at q2
        exact (Option.some.inj q1).symm.trans (Option.some.inj q2))
      rw [this]
def spFirst : Sp := fun vs H Q _ => ∃ (d cc : Addr) (cbs : List Cmb) (m : Int) (ds : List Ev), vs = [.ref d, .ref cc] ∧ Lst tkV H d ds ∧ ds ≠ [] ∧ ds.length ≤ 400 ∧ Cmbs H cc cbs ∧ CbsOk m cbs ∧
  ∀ H' p o, Same H H' → H p = none → FpAt cbs ds o → H' p = some (.tup [.int (fp cbs ds : Nat), optN o]) → Q (.ref p) H'
theorem ok_first_piece (bt : Bt mg) (a : At K mg "first_piece" s_first_piece ["downs", "combos"]) : Cl P w K mg base 1 "first_piece" spFirst := by
  refine clG a sc_first_piece (fun vs H Q E h => ?_) (fun f cdv A outer s H vs Q hg hr h => ?_)
  · obtain ⟨d, cc, cbs, m, ds, rfl, _⟩ := h
    rfl
  · obtain ⟨d, cc, cbs, m, ds, rfl, ⟨as, hd, hT⟩, hne, hdl, ⟨vs, hc, hC⟩, ok, q⟩ := h
    have few := ok.few
    have hvl := hC.1
    have hal := hT.1
    have hpos : 0 < ds.length := by
      cases ds with
      | nil => exact absurd rfl hne
      | cons _ _ => exact Nat.succ_pos _
    refine ⟨_, (pss_cons (ps_for PassesOwn.never rfl (pi_tup (pe_tup (pa_cons pe_int (pa_cons pe_int pa_nil)))) (pg_name (i := 2) sc_first_piece.nd rfl (Or.inl rfl)) (pss_cons (ps_set (i := 3) sc_first_piece.nd rfl (Or.inl rfl) (pe_callB cr_sortedI (by rfl) bt.m_sorted (by decide +kernel) (pa_cons (pe_lc (own := [("tick", 6), ("key", 7)]) (g := (gTup K 2 (gCons (gName 6) (gCons (gName 7) gNil)))) (by rfl) sc_first_piece.nd (pi_list (pe_slice sl_list (pv 0) po_none (po_some (pv 2)))) (blkOk_by (N := n_first_piece) (sc := defScope s_first_piece) (by decide +kernel)) (fun _ _ _ _ _ => (pg_tup rfl (pgs_cons (pg_name (i := 6) sc_first_piece.nd rfl (Or.inl rfl)) (pgs_cons (pg_name (i := 7) sc_first_piece.nd rfl (Or.inl rfl)) pgs_nil)))) (fun _ _ _ _ _ => pts_nil) (fun _ _ _ _ _ => (pv 7))) pa_nil)))
      (pss_one (ps_for PassesOwn.never rfl (pi_enum (by rfl) bt.m_enumerate (pa_cons (pv 1) pa_nil)) (pg_tup rfl (pgs_cons (pg_name (i := 4) sc_first_piece.nd rfl (Or.inl rfl)) (pgs_cons (pg_name (i := 5) sc_first_piece.nd rfl (Or.inl rfl)) pgs_nil))) (pss_one (ps_if (PW.pt (pw_and (pt_cmpR op_eq (pe_callB call_len_seq (by rfl) bt.m_len (by decide +kernel) (pa_cons (pe_ix ix_tup (pv 5) pe_int (fun _ _ => rfl)) pa_nil)) (pv 2) (nomark _)) (pw_and1 (pt_cmpR (op_eqD hr.units) (pe_callTy call_list_of (by rfl) bt.m_list (by decide +kernel) (pa_cons (pe_ix ix_tup (pv 5) pe_int (fun _ _ => rfl)) pa_nil)) (pv 3) (nomark _))))) (pss_one (ps_if (pt_cmpR op_lt (pe_ix ix_tup (pe_ix ix_list (pv 0) (pe_op op_sub (pv 2) pe_int) (fun _ _ => rfl)) pe_int (fun _ _ => rfl)) (pe_op op_add (pe_ix ix_tup (pe_ix ix_list (pv 0) pe_int (fun _ _ => rfl)) pe_int (fun _ _ => rfl)) (pe_ix ix_tup (pv 5) pe_int (fun _ _ => rfl))) (nomark _)) (pss_one (ps_ret (pe_tup (pa_cons (pv 2) (pa_cons (pv 4) pa_nil))))) pss_nil)) pss_nil))))))
      (pss_one (ps_ret (pe_tup (pa_cons pe_int (pa_cons pe_non pa_nil)))))), ?_⟩
    refine ⟨(by show 2 ≤ sizeLine; decide), fun Sz nSz => ⟨Sz, rfl, ⟨_, SqT.of upd_same⟩, ?_⟩⟩
    have sS := same_upd (o := .tup [.int 3, .int 2]) nSz
    refine for_it (walk_tup (xs := [.int 3, .int 2])) (fun j σ H' => ∃ (y2 y3 y4 y5 y6 y7 : Option V), σ = [some (.ref d), some (.ref cc), y2, y3, y4, y5, y6, y7] ∧ Same H H' ∧ H' Sz = some (.tup [.int 3, .int 2]) ∧ (0 < j → ∀ cb ∈ cbs, ¬ Match cb 3 ds) ∧ (1 < j → ∀ cb ∈ cbs, ¬ Match cb 2 ds))
      ⟨_, _, _, _, _, _, rfl, sS, upd_same, fun h => by omega, fun h => by omega⟩ (fun _ _ _ _ p => by obtain ⟨_, _, _, _, _, _, _, _, h, _⟩ := p; exact SqT.of h) (fun j x σ H1 H2 hj p y => ?_) (fun σ H1 p => ?_)
    · obtain ⟨y2, y3, y4, y5, y6, y7, rfl, s1, hSz, n3, n2⟩ := p
      obtain ⟨rfl, e2⟩ := y
      obtain ⟨sz, rfl, hsz, hlast⟩ : ∃ sz : Nat, x = .int (sz : Nat) ∧ (sz = 2 ∨ sz = 3) ∧ (∀ cb ∈ cbs, ∀ _ : Match cb sz ds, fp cbs ds = sz) ∧ ((∀ cb ∈ cbs, ¬ Match cb sz ds) → (0 < j + 1 → ∀ cb ∈ cbs, ¬ Match cb 3 ds) ∧ (1 < j + 1 → ∀ cb ∈ cbs, ¬ Match cb 2 ds)) := by
        have hj2 : j < 2 := hj
        match j, hj2, e2, n3, n2 with
        | 0, _, e2, _, _ => exact ⟨3, (Option.some.inj e2).symm, .inr rfl, fun cb h m => fp_three h m, fun h => ⟨fun _ => h, fun q => by omega⟩⟩
        | 1, _, e2, n3, _ => exact ⟨2, (Option.some.inj e2).symm, .inl rfl, fun cb h m => fp_two (n3 (by decide)) h m, fun h => ⟨fun _ => n3 (by decide), fun _ => h⟩⟩
      obtain ⟨hfp, hnext⟩ := hlast
      have hd1 := s1 _ _ hd
      refine ⟨_, rfl, _, rfl, _, rfl, d, _, rfl, SqL.of hd1, fun Sl nSl => ⟨Sl, rfl, ⟨_, SqL.of upd_same⟩, fun M nM => ?_⟩⟩
      rw [cutTake, ← List.map_take] at *
      have kS := same_upd (o := .lst ((as.take sz).map V.ref)) nSl
      have hSl := upd_same (H := H2) (a := Sl) (o := .lst ((as.take sz).map V.ref))
      have hTs := (hT.same (s1.trans kS)).take sz
      refine lc_it (walk_list (xs := (as.take sz).map V.ref)) (fun i H' => Same (upd H2 Sl (.lst ((as.take sz).map V.ref))) H' ∧ H' M = some (.lst ((((ds.take sz).take i).map Ev.k).map V.int))) ⟨same_upd nM, upd_same⟩ (fun i H' _ p => SqL.of (p.1 _ _ hSl)) (fun i v H3 H4 hi p y => ?_) (fun H3 p => ?_)
      · obtain ⟨rfl, e3⟩ := y
        have hi' : i < (ds.take sz).length := by rw [List.length_map, hTs.1] at hi; exact hi
        obtain ⟨b, hb, hbt⟩ := hTs.at_ hi'
        have e3' : v = .ref b := Option.some.inj (e3.symm.trans (get_map_ref hb))
        subst e3'
        refine ⟨b, _, rfl, SqT.of (p.1 _ _ hbt), rfl, _, _, rfl, _, _, rfl, rfl, rfl, _, rfl, _, p.2, ?_, Same.off p.1 nM off_upd, ?_⟩
        · rw [List.length_map, List.length_map, List.length_take, List.length_take]; exact small1000 (by omega)
        · rw [upd_same, List.take_add_one, List.getElem?_eq_getElem hi', List.map_append, List.map_append]; rfl
      · rw [List.length_map, hTs.1, List.take_length] at p
        refine ⟨M, _, rfl, SqL.of p.2, fun ns' pk hpk hok npk => ?_⟩
        have kP := same_upd (o := .lst (ns'.map V.int)) npk
        have s3 := ((s1.trans kS).trans p.1).trans kP
        have hSz3 := ((kS.trans p.1).trans kP) _ _ hSz
        have hkeys := upd_same (H := H3) (a := pk) (o := .lst (ns'.map V.int))
        refine (fun (G : ∀ H5 : Hp, Same H H5 → H5 Sz = some (.tup [.int 3, .int 2]) → H5 pk = some (.lst (ns'.map V.int)) → _) => G _ s3 hSz3 hkeys) (fun H5 s5 hSz5 hkeys => ?_)
        refine ⟨_, rfl, cc, _, rfl, SqL.of (s5 _ _ hc), for_it (walk_enum (xs := vs)) (fun i σ H' => ∃ (y4 y5 y6 y7 : Option V), σ = [some (.ref d), some (.ref cc), some (.int (sz : Nat)), some (.ref pk), y4, y5, y6, y7] ∧ Same H5 H' ∧ ∀ (m : Nat) (cb : Cmb), m < i → cbs[m]? = some cb → ¬ Match cb sz ds)
          ⟨_, _, _, _, rfl, Same.refl _, fun m cb h => by omega⟩ (fun _ _ _ _ p => by obtain ⟨_, _, _, _, _, s, _⟩ := p; exact SqL.of ((s5.trans s) _ _ hc)) (fun i v σ H6 H7 hi p y => ?_) (fun σ H6 p => ?_)⟩
        · obtain ⟨y4, y5, y6, y7, rfl, s6, hno⟩ := p
          obtain ⟨T, u, v, rfl, nT, rfl, e1, e3⟩ := y
          have hi' : i < cbs.length := by omega
          obtain ⟨ad, k, hv, ha, hk⟩ := Cmbs.at_ hC hi'
          have e1' : u = .int (i : Nat) := (Option.some.inj e1).symm
          subst e1'
          have e2' : v = .ref ad := Option.some.inj ((show vs[i]? = some v from e3).symm.trans hv)
          subst e2'
          have sT := same_upd (o := .tup [.int (i : Nat), .ref ad]) nT
          have s7 := s6.trans sT
          have s57 := s5.trans s7
          have hcb : cbs[i]? = some cbs[i] := List.getElem?_eq_getElem hi'
          have hmem : cbs[i] ∈ cbs := List.getElem_mem hi'
          have ok1 := ok.all cbs[i] hmem
          generalize cbs[i] = cb at *
          have ha7 := s57 _ _ ha
          have hk7 := s57 _ _ hk
          have step : ∀ {H' : Hp}, Same H5 H' → ¬ Match cb sz ds → ∃ (y4 y5 y6 y7 : Option V), [some (V.ref d), some (V.ref cc), some (V.int (sz : Nat)), some (V.ref pk), some (V.int (i : Nat)), some (V.ref ad), y6, y7] = [some (.ref d), some (.ref cc), some (.int (sz : Nat)), some (.ref pk), y4, y5, y6, y7] ∧ Same H5 H' ∧ ∀ (m : Nat) (cb : Cmb), m < i + 1 → cbs[m]? = some cb → ¬ Match cb sz ds := fun {H'} s nm =>
            ⟨_, _, y6, y7, rfl, s, fun m cb' hm hc' => by
              by_cases z : m = i
              · subst z
                rw [hcb] at hc'
                cases hc'
                exact nm
              · exact hno m cb' (by omega) hc'⟩
          refine ⟨T, _, rfl, SqT.of upd_same, rfl, _, _, rfl, _, _, rfl, rfl, ?_⟩
          refine ⟨_, rfl, ad, _, _, _, rfl, rfl, SqT.of ha7, atI_nat (j := 0) rfl, k, _, rfl, .inr (SqT.of hk7), _, rfl, rfl, _, rfl, ?_⟩
          rw [List.length_map]
          refine ite2 (fun z1 => ?_) (fun z1 => iteF ?_)
          · have z1' : cb.ks.length = sz := by
              have := V.int.inj (of_decide_eq_true z1)
              omega
            refine ⟨_, rfl, ad, _, _, _, rfl, rfl, SqT.of ha7, atI_nat (j := 0) rfl, k, _, rfl, .inr (SqT.of hk7), fun Lc nLc => ?_⟩
            have kL := same_upd (o := .lst (cb.ks.map V.int)) nLc
            refine ⟨_, rfl, _, _, .lst (SqL.of upd_same) (dpInts _), .lst (SqL.of ((s7.trans kL) _ _ hkeys)) (dpInts _), shaped_ints _, shaped_ints _, _, rfl, ?_⟩
            rw [eqv_intL]
            have s8 := s7.trans kL
            refine ite2 (fun z2 => ?_) (fun z2 => ?_)
            · have z2' : cb.ks = ns' := of_decide_eq_true z2
              have hperm : cb.ks.Perm ((ds.take sz).map Ev.k) := by rw [z2']; exact hpk
              have hlen : sz ≤ ds.length := by
                have := hperm.length_eq
                rw [z1', List.length_map, List.length_take] at this
                omega
              have s58 := s5.trans s8
              obtain ⟨bl, hbl, hblt⟩ := hT.at_ (i := sz - 1) (by omega)
              obtain ⟨b0, hb0, hb0t⟩ := hT.at_ (i := 0) hpos
              have eidx : ((sz : Nat) : Int) - 1 = ((sz - 1 : Nat) : Int) := by omega
              refine ⟨_, rfl, _, rfl, _, _, rfl, rfl, d, _, _, _, rfl, rfl, SqL.of (s58 _ _ hd), by rw [eidx]; exact atI_nat (get_map_ref hbl), bl, _, _, _, rfl, rfl, SqT.of (s58 _ _ hblt), atI_nat (j := 0) rfl, ?_⟩
              refine ⟨_, rfl, d, _, _, _, rfl, rfl, SqL.of (s58 _ _ hd), atI_nat (j := 0) (get_map_ref hb0), b0, _, _, _, rfl, rfl, SqT.of (s58 _ _ hb0t), atI_nat (j := 0) rfl, ?_⟩
              refine ⟨_, rfl, ad, _, _, _, rfl, rfl, SqT.of ((sT.trans kL) _ _ (s6 _ _ (s5 _ _ ha))), atI_nat (j := 1) rfl, _, _, rfl, rfl, _, _, rfl, rfl, _, rfl, ite2 (fun z3 => ?_) (fun z3 => ?_)⟩
              · have z3' : ds[sz - 1].t < ds[0].t + cb.t := of_decide_eq_true z3
                have mt : Match cb sz ds := ⟨z1', hperm, ds[0], ds[sz - 1], List.getElem?_eq_getElem hpos, List.getElem?_eq_getElem (by omega), z3'⟩
                refine ⟨_, rfl, _, rfl, (by show 2 ≤ sizeLine; decide), fun p np => q _ p (some i) (s58.trans (same_upd np)) (s58.free np) ⟨(fun j e => by cases e; exact ⟨cb, hcb, by rw [hfp cb hmem mt]; exact mt⟩), (fun e => by cases e)⟩ ?_⟩
                rw [upd_same, hfp cb hmem mt]; rfl
              · have z3' : ¬ ds[sz - 1].t < ds[0].t + cb.t := fun q => z3 (decide_eq_true q)
                obtain ⟨w4, w5, w6, w7, e, ss, hh⟩ := step s8 fun ⟨_, _, a, b, ha, hb, lt⟩ => by
                  rw [List.getElem?_eq_getElem hpos] at ha
                  rw [List.getElem?_eq_getElem (by omega)] at hb
                  have e1 := Option.some.inj ha
                  have e2 := Option.some.inj hb
                  rw [← e1, ← e2] at lt
                  exact z3' lt
                exact ⟨_, _, _, _, rfl, ss, hh⟩
            · have z2' : ¬ cb.ks = ns' := fun q => z2 (decide_eq_true q)
              obtain ⟨w4, w5, w6, w7, e, ss, hh⟩ := step s8 fun ⟨_, hp, _⟩ => z2' (List.Perm.eq_of_pairwise (fun x y _ _ h1 h2 => Int.le_antisymm h1 h2) (ok1.asc.imp fun h => by omega) hok (hp.trans hpk.symm))
              exact ⟨_, _, _, _, rfl, ss, hh⟩
          · have z1' : ¬ cb.ks.length = sz := fun q => z1 (decide_eq_true (congrArg V.int (by omega)))
            obtain ⟨w4, w5, w6, w7, e, ss, hh⟩ := step s7 fun m => z1' m.1
            exact ⟨_, _, _, _, rfl, ss, hh⟩
        · obtain ⟨y4, y5, y6, y7, rfl, s6, hno⟩ := p
          have nm : ∀ cb ∈ cbs, ¬ Match cb sz ds := fun cb hm => by
            obtain ⟨i, hi⟩ := List.getElem?_of_mem hm
            have := (List.getElem?_eq_some_iff.mp hi).1
            exact hno i cb (by omega) hi
          obtain ⟨g3, g2⟩ := hnext nm
          exact ⟨_, _, _, _, _, _, rfl, s5.trans s6, s6 _ _ hSz5, g3, g2⟩
    · obtain ⟨y2, y3, y4, y5, y6, y7, rfl, s1, hSz, n3, n2⟩ := p
      refine ⟨(by show 2 ≤ sizeLine; decide), fun p np => q _ p none (s1.trans (same_upd np)) (s1.free np) ⟨(fun j e => by cases e), (fun _ => fp_one (n3 (by decide)) (n2 (by decide)))⟩ ?_⟩
      rw [upd_same, fp_one (n3 (by decide)) (n2 (by decide))]; rfl
end
end K28

set_option Elab.async false
set_option linter.all false
set_option maxRecDepth 100000
set_option maxHeartbeats 8000000
namespace K28
open PySem PySem.Spec PyProof.Rows L2 Gd Rm La Cb Pl
/-- a new list of new lists of numbers -/
structure LL (H0 H : Hp) (p : Addr) (r : List (List Int)) (as : List Addr) : Prop where
  ls : H p = some (.lst (as.map V.ref))
  len : as.length = r.length
  el : ∀ (i : Nat) (a : Addr) (ns : List Int), as[i]? = some a → r[i]? = some ns → H a = some (.lst (ns.map V.int))
  new : ∀ a ∈ as, H0 a = none ∧ a ≠ p
theorem LL.nil {H0 H : Hp} {p : Addr} (h : H p = some (.lst [])) : LL H0 H p [] [] := ⟨h, rfl, fun i a ns x _ => by simp at x, fun a h => by simp at h⟩
theorem LL.same {H0 H H' : Hp} {p : Addr} {r : List (List Int)} {as : List Addr} (h : LL H0 H p r as) (s : Same H H') : LL H0 H' p r as := ⟨s _ _ h.ls, h.len, fun i a ns x y => s _ _ (h.el i a ns x y), h.new⟩
theorem LL.get {H0 H : Hp} {p : Addr} {r : List (List Int)} {as : List Addr} (h : LL H0 H p r as) {a : Addr} (ha : a ∈ as) : ∃ ns : List Int, H a = some (.lst (ns.map V.int)) := by
  obtain ⟨i, hi⟩ := List.getElem?_of_mem ha
  have hl := h.len
  have := (List.getElem?_eq_some_iff.mp hi).1
  exact ⟨r[i], h.el i a _ hi (List.getElem?_eq_getElem (by omega))⟩
/-- one more list put in -/
theorem LL.push {H0 H : Hp} {p b : Addr} {r : List (List Int)} {as : List Addr} {ns : List Int} (h : LL H0 H p r as) (hb : H b = some (.lst (ns.map V.int))) (nb : H0 b = none) (bp : b ≠ p) :
    LL H0 (upd H p (.lst (as.map V.ref ++ [.ref b]))) p (r ++ [ns]) (as ++ [b]) := by
  refine ⟨by rw [upd_same, List.map_append]; rfl, by rw [List.length_append, List.length_append, h.len]; rfl, fun i a ms x y => ?_, fun a ha => ?_⟩
  · have hl := h.len
    rcases Nat.lt_or_ge i as.length with q | q
    · rw [List.getElem?_append_left q] at x
      rw [List.getElem?_append_left (by omega)] at y
      rw [upd_ne (h.new a (List.mem_of_getElem? x)).2]
      exact h.el i a ms x y
    · have hi : i = as.length := by
        have := (List.getElem?_eq_some_iff.mp x).1
        rw [List.length_append, List.length_singleton] at this
        omega
      subst hi
      rw [List.getElem?_append_right (Nat.le_refl _), Nat.sub_self] at x
      rw [List.getElem?_append_right (by omega), show as.length - r.length = 0 by omega] at y
      have e1 : b = a := Option.some.inj x
      have e2 : ns = ms := Option.some.inj y
      subst e1 e2
      rw [upd_ne bp]
      exact hb
  · rcases List.mem_append.mp ha with q | q
    · exact h.new a q
    · rw [List.mem_singleton.mp q]; exact ⟨nb, bp⟩
theorem seg_len (a b : Nat) : (seg a b).length = b - a := by unfold seg; rw [List.length_map, List.length_range']
theorem seg_at {a b i : Nat} (h : i < b - a) : (seg a b)[i]? = some ((a + i : Nat) : Int) := by
  unfold seg
  rw [List.getElem?_map, List.getElem?_range' h, Nat.one_mul]; rfl
theorem seg_ext {a b : Nat} {l : List Int} (hl : l.length = b - a) (h : ∀ i, i < b - a → l[i]? = some ((a + i : Nat) : Int)) : l = seg a b := by
  refine List.ext_getElem? fun i => ?_
  rcases Nat.lt_or_ge i (b - a) with q | q
  · rw [h i q, seg_at q]
  · rw [List.getElem?_eq_none (by omega), List.getElem?_eq_none (by rw [seg_len]; omega)]
theorem seg_take {a b k : Nat} (h : a + k ≤ b) : (seg a b).take k = seg a (a + k) := seg_ext (by rw [List.length_take, seg_len]; omega) fun i hi => by
  rw [List.getElem?_take_of_lt (by omega), seg_at (by omega)]
theorem seg_drop {a b k : Nat} (h : a + k ≤ b) : (seg a b).drop k = seg (a + k) b := seg_ext (by rw [List.length_drop, seg_len]; omega) fun i hi => by
  rw [List.getElem?_drop, seg_at (by omega)]
  exact congrArg some (by omega)
theorem seg_snoc {a b : Nat} (h : a ≤ b) : seg a b ++ [(b : Int)] = seg a (b + 1) := seg_ext (by rw [List.length_append, seg_len, List.length_singleton]; omega) fun i hi => by
  rcases Nat.lt_or_ge i (b - a) with q | q
  · rw [List.getElem?_append_left (by rw [seg_len]; exact q), seg_at q]
  · rw [List.getElem?_append_right (by rw [seg_len]; exact q), seg_len, show i - (b - a) = 0 by omega]
    exact congrArg some (by omega)
theorem seg_nil (a : Nat) : seg a a = [] := by unfold seg; rw [Nat.sub_self]; rfl
theorem prt_at {es : List Ev} {s e i : Nat} (h : i < e - s) : (prt es s e)[i]? = es[s + i]? := by
  unfold prt
  rw [List.getElem?_take_of_lt h, List.getElem?_drop]
theorem cut_len {es : List Ev} {cbs : List Cmb} {e s : Nat} {r : List (List Int)} (h : Cut es cbs e s r) : e ≤ es.length → s ≤ e → r.length ≤ e - s := by
  induction h with
  | nil => intro _ _; exact Nat.zero_le _
  | @cons s r hs _ ih =>
    intro he _
    have hl := prt_len (es := es) (s := s) he
    have ne : prt es s e ≠ [] := fun z => by rw [z] at hl; simp at hl; omega
    have f := fp_le cbs ne
    have f1 := fp_pos cbs (prt es s e)
    rw [hl] at f
    have := ih he (by omega)
    rw [List.length_cons]
    omega
section
variable {P : Program} {w : World} {K : PySem.W.Frag} {mg : Str → Option Value} {base : Heap}
def spCut : Sp := fun vs H Q _ => ∃ (c N cc : Addr) (es : List Ev) (cbs : List Cmb) (m : Int) (s e : Nat), vs = [.ref c, .ref N, .ref cc] ∧ Lst evV H c es ∧ es.length ≤ 400 ∧ Cmbs H cc cbs ∧ CbsOk m cbs ∧ H N = some (.lst ((seg s e).map V.int)) ∧ s ≤ e ∧ e ≤ es.length ∧
  ∀ H' p r as, Same H H' → H p = none → LL H H' p r as → Cut es cbs e s r → Q (.ref p) H'
theorem ok_cut (bt : Bt mg) (a : At K mg "cut" s_cut ["record", "numbers", "combos"]) (c_first_piece : Cl P w K mg base 1 "first_piece" spFirst) : Cl P w K mg base 2 "cut" spCut := by
  refine clG a sc_cut (fun vs H Q E h => ?_) (fun f cdv A outer s H vs Q hg hr h => ?_)
  · obtain ⟨c, N, cc, es, cbs, m, s, e, rfl, _⟩ := h
    rfl
  · obtain ⟨c, N, cc, es, cbs, m, s0, e, rfl, hL, hl4, hC, ok, hN, hse, hel, q⟩ := h
    refine ⟨_, (pss_cons (ps_par (i := 3) (j := 4) rfl sc_cut.nd rfl rfl (by decide) rfl rfl (pa_cons (pe_lst pa_nil) (pa_cons (pv 1) pa_nil)) (by rfl))
      (pss_cons (ps_while PassesOwn.never (pt_truth (pv 4) (by intro _; rfl)) (pss_cons (ps_setLc (i := 5) (own := [("number", 8)]) (g := (gName 8)) (by rfl) sc_cut.nd rfl rfl (sw_true rfl rfl rfl (by decide +kernel)) (pi_list (pv 4)) (blkOk_by (N := n_cut) (sc := defScope s_cut) (by decide +kernel)) (fun _ _ _ _ _ => (pg_name (i := 8) sc_cut.nd rfl (Or.inl rfl))) (fun _ _ _ _ _ => pts_nil) (fun _ _ _ _ _ => (pe_tup (pa_cons (pe_ix (r := rIxT K) ix_tup (pe_ix (r := rIxL K) ix_list (pv 0) (pv 8) (fun _ _ => rfl)) pe_int (fun _ _ => rfl)) (pa_cons (pe_ix (r := rIxT K) ix_tup (pe_ix (r := rIxL K) ix_list (pv 0) (pv 8) (fun _ _ => rfl)) pe_int (fun _ _ => rfl)) pa_nil)))))
      (pss_cons (ps_asg (pe_cl c_first_piece hg hr (by decide) (by rfl) (pa_cons (pv 5) (pa_cons (pv 2) pa_nil))) (pg_tup rfl (pgs_cons (pg_name (i := 6) sc_cut.nd rfl (Or.inl rfl)) (pgs_cons (pg_name (i := 7) sc_cut.nd rfl (Or.inl rfl)) pgs_nil))))
      (pss_cons (ps_expr (pe_bm PySem.F.plainAttrs_list PySem.F.slot_list_append PySem.F.type_list_append mt_append (pv 3) (pa_cons (pe_slice sl_list (pv 4) po_none (po_some (pv 6))) pa_nil)))
      (pss_one (ps_set (i := 4) sc_cut.nd rfl (Or.inl rfl) (pe_slice sl_list (pv 4) (po_some (pv 6)) po_none)))))))
      (pss_one (ps_ret (pv 3))))), ?_⟩
    refine ⟨Nat.zero_le _, fun F nF => ⟨_, rfl, _, _, rfl, ?_⟩⟩
    have sF := same_upd (o := .lst []) nF
    obtain ⟨asr, hc, hT⟩ := id hL
    have hal := hT.1
    refine ⟨fun k σ H' => ∃ (R : Addr) (s : Nat) (acc : List (List Int)) (as : List Addr) (y5 y6 y7 y8 : Option V), k = e - s ∧ s ≤ e ∧ s0 ≤ s ∧ σ = [some (.ref c), some (.ref N), some (.ref cc), some (.ref F), some (.ref R), y5, y6, y7, y8] ∧ Same H H' ∧ LL H H' F acc as ∧ acc.length ≤ s - s0 ∧ R ≠ F ∧
        H' R = some (.lst ((seg s e).map V.int)) ∧ ∀ r, Cut es cbs e s r → Cut es cbs e s0 (acc ++ r), ⟨_, N, s0, [], [], _, _, _, _, rfl, hse, Nat.le_refl _, rfl, sF, LL.nil upd_same, Nat.zero_le _, ne_of_none hN nF, sF _ _ hN, fun r h => h⟩, fun k σ H1 W => ?_⟩
    obtain ⟨R, s, acc, as, y5, y6, y7, y8, rfl, hs1, hs2, rfl, s1, ll, hacc, RF, hR, hcut⟩ := W
    refine ⟨_, rfl, _, .inl ⟨_, SqL.of hR, rfl⟩, ?_⟩
    have hR0 := hR
    by_cases hz : s = e
    · subst hz
      rw [seg_nil]
      refine iteF ⟨_, rfl, q H1 F _ as s1 nF ll ?_⟩
      have := hcut [] .nil
      rwa [List.append_nil] at this
    · have hlt : s < e := by omega
      have hne : (!(((seg s e).map V.int).isEmpty)) = true := by
        have hln := seg_len s e
        cases h : seg s e with
        | nil => rw [h] at hln; simp at hln; omega
        | cons _ _ => rfl
      rw [hne]
      refine iteT ⟨fun σ' H' => ∃ m', m' < e - s ∧ ∃ (R : Addr) (s : Nat) (acc : List (List Int)) (as : List Addr) (y5 y6 y7 y8 : Option V), m' = e - s ∧ s ≤ e ∧ s0 ≤ s ∧ σ' = [some (.ref c), some (.ref N), some (.ref cc), some (.ref F), some (.ref R), y5, y6, y7, y8] ∧ Same H H' ∧ LL H H' F acc as ∧ acc.length ≤ s - s0 ∧ R ≠ F ∧
          H' R = some (.lst ((seg s e).map V.int)) ∧ ∀ r, Cut es cbs e s r → Cut es cbs e s0 (acc ++ r), fun _ _ h => h, ?_⟩
      have hpl := prt_len (es := es) (s := s) hel
      have pne : prt es s e ≠ [] := fun z => by rw [z] at hpl; simp at hpl; omega
      have f1 := fp_pos cbs (prt es s e)
      have f2 := fp_le cbs pne
      rw [hpl] at f2
      have hc1 := s1 _ _ hc
      refine ⟨_, rfl, R, rfl, ⟨_, SqL.of hR⟩, fun D nD => lc_it (walk_list (xs := (seg s e).map V.int)) (fun i H' => Same H1 H' ∧ Lst tkV H' D ((prt es s e).take i)) ⟨same_upd nD, [], upd_same, Tups.nil⟩ (fun i H' _ p => SqL.of (p.1 _ _ hR)) (fun i v H2 H3 hi p y => ?_) (fun H2 p => ?_)⟩
      · obtain ⟨rfl, e2⟩ := y
        obtain ⟨p1, asd, hD, hTd⟩ := p
        have hi' : i < e - s := by rw [List.length_map, seg_len] at hi; exact hi
        have ev : v = .int ((s + i : Nat) : Int) := Option.some.inj (e2.symm.trans (get_map_int (seg_at hi')))
        subst ev
        have hsi : s + i < es.length := by omega
        obtain ⟨b, hb, hbt⟩ := hT.at_ hsi
        have hc3 := p1 _ _ hc1
        have hb3 := p1 _ _ (s1 _ _ hbt)
        refine ⟨rfl, _, rfl, _, rfl, c, _, _, _, rfl, rfl, SqL.of hc3, atI_nat (get_map_ref hb), b, _, _, _, rfl, rfl, SqT.of hb3, atI_nat (j := 0) rfl, _, rfl, _, rfl, c, _, _, _, rfl, rfl, SqL.of hc3, atI_nat (get_map_ref hb), b, _, _, _, rfl, rfl, SqT.of hb3, atI_nat (j := 1) rfl, (by show 2 ≤ sizeLine; decide), fun p np => ?_⟩
        have kp := same_upd (o := .tup [.int es[s + i].t, .int es[s + i].k]) np
        have hDp := kp _ _ hD
        have pD : p ≠ D := (ne_of_none hD np).symm
        have hald := hTd.1
        refine ⟨_, hDp, ?_, Same.off (p1.trans kp) nD off_upd, asd ++ [p], by rw [upd_same, List.map_append]; rfl, ?_⟩
        · rw [List.length_map, hald, List.length_take]; exact small1000 (by omega)
        · rw [List.take_add_one, prt_at hi', List.getElem?_eq_getElem hsi]
          refine Tups.snoc ((hTd.same kp).off hDp off_upd) ?_
          rw [upd_ne pD]
          exact upd_same
      · obtain ⟨p1, hD⟩ := p
        rw [List.length_map, seg_len, List.take_of_length_le (by omega)] at hD
        have s2 := s1.trans p1
        refine ⟨_, rfl, _, rfl, D, cc, cbs, m, prt es s e, rfl, hD, pne, by omega, hC.same s2, ok, fun H3 p oo s3 np hfp hp => ?_⟩
        clear hfp
        have s4 := s2.trans s3
        have ll4 := (ll.same p1).same s3
        have hR4 := (p1.trans s3) _ _ hR
        refine ⟨p, _, rfl, SqT.of hp, rfl, _, _, rfl, _, _, rfl, rfl, ?_⟩
        generalize hsz : fp cbs (prt es s e) = sz at *
        have hll := ll4.len
        refine ⟨_, rfl, .inl ⟨rfl, _, SqL.of ll4.ls⟩, _, rfl, _, rfl, sz, rfl, R, _, rfl, SqL.of hR4, fun A1 nA => ?_⟩
        rw [cutTake, ← List.map_take, seg_take (by omega)]
        have kA := same_upd (o := .lst ((seg s (s + sz)).map V.int)) nA
        have ll5 := ll4.same kA
        have AF : A1 ≠ F := (ne_of_none ll4.ls nA).symm
        refine ⟨F, _, .ref A1, rfl, rfl, ll5.ls, by rw [List.length_map, hll]; exact small1000 (by omega), ?_⟩
        have ll6 := ll5.push (upd_same (H := H3) (a := A1) (o := .lst ((seg s (s + sz)).map V.int))) (s4.free nA) AF
        have s6 : Same H (upd (upd H3 A1 (.lst ((seg s (s + sz)).map V.int))) F (.lst (as.map V.ref ++ [.ref A1]))) := Same.off (s4.trans kA) nF off_upd
        have hR6 : upd (upd H3 A1 (.lst ((seg s (s + sz)).map V.int))) F (.lst (as.map V.ref ++ [.ref A1])) R = some (.lst ((seg s e).map V.int)) := by rw [upd_ne RF]; exact kA _ _ hR4
        refine ⟨_, rfl, _, rfl, sz, rfl, R, _, rfl, SqL.of hR6, fun R2 nR2 => ?_⟩
        rw [cutDrop (by rw [List.length_map, seg_len]; omega), ← List.map_drop, seg_drop (by omega)]
        have k7 := same_upd (o := .lst ((seg (s + sz) e).map V.int)) nR2
        refine ⟨e - (s + sz), by omega, R2, s + sz, acc ++ [seg s (s + sz)], as ++ [A1], _, _, _, _, rfl, by omega, by omega, rfl, s6.trans k7, ll6.same k7, by rw [List.length_append, List.length_singleton]; omega, (ne_of_none ll6.ls nR2).symm, upd_same, fun r h => ?_⟩
        rw [List.append_assoc]
        refine hcut _ ?_
        have := Cut.cons (es := es) (cbs := cbs) (e := e) (s := s) (r := r) hlt (by rw [hsz]; exact h)
        rw [hsz] at this
        exact this
def spPieces : Sp := fun vs H Q _ => ∃ (cc c : Addr) (cbs : List Cmb) (m : Int) (es : List Ev), vs = [.int m, .ref cc, .ref c] ∧ 1 ≤ m ∧ m ≤ 10 ∧ Cmbs H cc cbs ∧ CbsOk m cbs ∧ Rc H c m es ∧ ∀ H' p r as, Same H H' → H p = none → LL H H' p r as → Due es cbs 0 r → r.length ≤ es.length → Q (.ref p) H'
theorem ok_pieces (bt : Bt mg) (a : At K mg "pieces" s_pieces ["many", "combos", "record"]) (c_check_gate : Cl P w K mg base 7 "check_gate" spGate) (c_cut : Cl P w K mg base 2 "cut" spCut) : Cl P w K mg base 8 "pieces" spPieces := by
  refine clG a sc_pieces (fun vs H Q E h => ?_) (fun f cdv A outer s H vs Q hg hr h => ?_)
  · obtain ⟨cc, c, cbs, m, es, rfl, _⟩ := h
    rfl
  · obtain ⟨cc, c, cbs, m, es, rfl, m1, m2, hC, ok, R, q⟩ := h
    refine ⟨_, (pss_cons (ps_expr (pe_cl c_check_gate hg hr (by decide) (by rfl) (pa_cons (pv 0) (pa_cons (pv 1) (pa_cons (pv 2) pa_nil)))))
      (pss_cons (ps_par (i := 3) (j := 4) rfl sc_pieces.nd rfl rfl (by decide) rfl rfl (pa_cons (pe_lst pa_nil) (pa_cons (pe_lst pa_nil) pa_nil)) (by rfl))
      (pss_cons (ps_for PassesOwn.never rfl (pi_enum (by rfl) bt.m_enumerate (pa_cons (pv 2) pa_nil)) (pg_tup rfl (pgs_cons (pg_name (i := 5) sc_pieces.nd rfl (Or.inl rfl)) (pgs_cons (pg_name (i := 6) sc_pieces.nd rfl (Or.inl rfl)) pgs_nil))) (pss_one (ps_if (pt_cmpR op_eq (pe_ix ix_tup (pv 6) pe_int (fun _ _ => rfl)) pe_str (nomark _)) (pss_one (ps_expr (pe_bm PySem.F.plainAttrs_list PySem.F.slot_list_append PySem.F.type_list_append mt_append (pv 4) (pa_cons (pv 5) pa_nil)))) (pss_cons (ps_expr (pe_bm PySem.F.plainAttrs_list PySem.F.slot_list_extend PySem.F.type_list_extend mt_extend (pv 3) (pa_cons (pe_cl c_cut hg hr (by decide) (by rfl) (pa_cons (pv 2) (pa_cons (pv 4) (pa_cons (pv 1) pa_nil)))) pa_nil)))
      (pss_one (ps_set (i := 4) sc_pieces.nd rfl (Or.inl rfl) (pe_lst pa_nil)))))))
      (pss_one (ps_ret (pe_op op_cat (pv 3) (pe_cl c_cut hg hr (by decide) (by rfl) (pa_cons (pv 2) (pa_cons (pv 4) (pa_cons (pv 1) pa_nil)))))))))), ?_⟩
    refine ⟨_, rfl, _, rfl, _, rfl, cc, c, cbs, m, es, rfl, m1, m2, hC, ok, R, fun H1 s1 => ?_⟩
    refine ⟨Nat.zero_le _, fun F nF => ⟨Nat.zero_le _, fun N0 nN0 => ⟨_, _, rfl, ?_⟩⟩⟩
    have sF := same_upd (o := .lst []) nF
    have sN := same_upd (o := .lst []) nN0
    have s2 := (s1.trans sF).trans sN
    obtain ⟨asr, hc, hT⟩ := id R.ls
    have hal := hT.1
    have hl4 := R.len
    have nFH := s1.free nF
    have nNH := (s1.trans sF).free nN0
    refine ⟨_, rfl, c, _, rfl, SqL.of (s2 _ _ hc), for_it (walk_enum (xs := asr.map V.ref)) (fun i σ H' => ∃ (N : Addr) (s : Nat) (acc : List (List Int)) (as : List Addr) (y5 y6 : Option V), σ = [some (.int m), some (.ref cc), some (.ref c), some (.ref F), some (.ref N), y5, y6] ∧ Same H H' ∧ LL H H' F acc as ∧ (∀ a ∈ as, a ≠ N) ∧ H N = none ∧ N ≠ F ∧ H' N = some (.lst ((seg s i).map V.int)) ∧ s ≤ i ∧ Downs es s i ∧ acc.length ≤ s ∧
        ∀ r, Due es cbs s r → Due es cbs 0 (acc ++ r))
      ⟨N0, 0, [], [], _, _, rfl, s2, LL.nil (sN _ _ upd_same), fun a h => by simp at h, nNH, (ne_of_none upd_same nN0).symm, by rw [seg_nil]; exact upd_same, Nat.le_refl _, fun i a b => by omega, Nat.le_refl _, fun r h => h⟩ (fun _ _ _ _ p => by obtain ⟨_, _, _, _, _, _, _, s, _⟩ := p; exact SqL.of (s _ _ hc)) (fun i v σ H3 H4 hi p y => ?_) (fun σ H3 p => ?_)⟩
    · obtain ⟨N, s, acc, as, y5, y6, rfl, s3, ll, hasN, nN, NF, hN, hsi, hdn, hacl, hdue⟩ := p
      obtain ⟨T, u, v, rfl, nT, rfl, e1, e2⟩ := y
      have hi' : i < es.length := by rw [List.length_map] at hi; omega
      obtain ⟨b, hb, hbt⟩ := hT.at_ hi'
      have hev : es[i]? = some es[i] := List.getElem?_eq_getElem hi'
      have e1' : u = .int (i : Nat) := (Option.some.inj e1).symm
      subst e1'
      have e2' : v = .ref b := Option.some.inj ((show (asr.map V.ref)[i]? = some v from e2).symm.trans (get_map_ref hb))
      subst e2'
      have sT := same_upd (o := .tup [.int (i : Nat), .ref b]) nT
      have s4 := s3.trans sT
      have hN4 := sT _ _ hN
      have ll4 := ll.same sT
      refine ⟨T, _, rfl, SqT.of upd_same, rfl, _, _, rfl, _, _, rfl, rfl, ?_⟩
      refine ⟨_, rfl, b, _, _, _, rfl, rfl, SqT.of (s4 _ _ hbt), atI_nat (j := 2) rfl, rfl, _, rfl, ?_⟩
      rw [wayS_down]
      cases hd : es[i].d with
      | true =>
        refine iteT ⟨_, rfl, .inl ⟨rfl, _, SqL.of hN4⟩, _, rfl, N, _, _, rfl, rfl, hN4, by rw [List.length_map, seg_len]; exact small1000 (by omega), ?_⟩
        refine ⟨N, s, acc, as, _, _, rfl, Same.off s4 nN off_upd, ⟨by rw [upd_ne NF.symm]; exact ll4.ls, ll4.len, fun j a ns x y => by rw [upd_ne (hasN a (List.mem_of_getElem? x))]; exact ll4.el j a ns x y, ll4.new⟩, hasN, nN, NF, ?_, by omega, fun j h1 h2 => ?_, hacl, hdue⟩
        · rw [upd_same, ← seg_snoc hsi, List.map_append]; rfl
        · by_cases z : j = i
          · subst z; exact ⟨_, hev, hd⟩
          · exact hdn j h1 (by omega)
      | false =>
        have stp : Stops es i := .inr ⟨_, hev, hd⟩
        refine iteF ⟨_, rfl, .inl ⟨rfl, _, SqL.of ll4.ls⟩, _, rfl, _, rfl, _, rfl, c, N, cc, es, cbs, m, s, i, rfl, R.ls.same s4, hl4, hC.same s4, ok, hN4, hsi, by omega, fun H5 p r1 as1 s5 np ll1 cut => ?_⟩
        have s6 := s4.trans s5
        have ll6 := ll4.same s5
        have hcl := cut_len cut (by omega) hsi
        have hl1 := ll1.len
        have hl2 := ll6.len
        have pF : p ≠ F := (ne_of_none ll4.ls np).symm
        refine ⟨F, p, _, _, rfl, rfl, ll6.ls, ll1.ls, by rw [List.length_map, List.length_map, hl1, hl2, sizeLine_eq]; omega, ?_⟩
        refine ⟨Nat.zero_le _, fun N2 nN2 => ?_⟩
        have as1F : ∀ a ∈ as1, a ≠ F := fun a ha => (ne_of_none ll4.ls (ll1.new a ha).1).symm
        have ll7 : LL H (upd H5 F (.lst (as.map V.ref ++ as1.map V.ref))) F (acc ++ r1) (as ++ as1) := by
          refine ⟨by rw [upd_same, List.map_append], by rw [List.length_append, List.length_append, hl1, hl2], fun j a ns x y => ?_, fun a ha => ?_⟩
          · rcases Nat.lt_or_ge j as.length with q | q
            · rw [List.getElem?_append_left q] at x
              rw [List.getElem?_append_left (by omega)] at y
              rw [upd_ne (ll6.new a (List.mem_of_getElem? x)).2]
              exact ll6.el j a ns x y
            · rw [List.getElem?_append_right q] at x
              rw [List.getElem?_append_right (by omega), ← hl2] at y
              rw [upd_ne (as1F a (List.mem_of_getElem? x))]
              exact ll1.el _ a ns x y
          · rcases List.mem_append.mp ha with h | h
            · exact ll6.new a h
            · exact ⟨s4.free (ll1.new a h).1, as1F a h⟩
        have k7 := same_upd (o := .lst []) nN2
        have s7 : Same H (upd H5 F (.lst (as.map V.ref ++ as1.map V.ref))) := Same.off s6 nFH off_upd
        refine ⟨N2, i + 1, acc ++ r1, as ++ as1, _, _, rfl, s7.trans k7, ll7.same k7, fun a ha e => ?_, s7.free nN2, (ne_of_none ll7.ls nN2).symm, by rw [seg_nil]; exact upd_same, Nat.le_refl _, fun j a b => by omega, by rw [List.length_append]; omega, fun r h => ?_⟩
        · obtain ⟨ns, hns⟩ := ll7.get ha
          rw [e, nN2] at hns
          cases hns
        · rw [List.append_assoc]
          exact hdue _ (cut_due stp (.up hev hd h) cut hdn hsi)
    · obtain ⟨N, s, acc, as, y5, y6, rfl, s3, ll, hasN, nN, NF, hN, hsi, hdn, hacl, hdue⟩ := p
      rw [List.length_map, hal] at hN hsi hdn
      refine ⟨_, rfl, _, rfl, _, rfl, _, rfl, c, N, cc, es, cbs, m, s, es.length, rfl, R.ls.same s3, hl4, hC.same s3, ok, hN, hsi, Nat.le_refl _, fun H5 p r1 as1 s5 np ll1 cut => ?_⟩
      have s6 := s3.trans s5
      have ll6 := ll.same s5
      have hcl := cut_len cut (Nat.le_refl _) hsi
      have hl1 := ll1.len
      have hl2 := ll6.len
      refine ⟨F, p, _, _, rfl, rfl, ll6.ls, ll1.ls, by rw [List.length_map, List.length_map, hl1, hl2, sizeLine_eq]; omega, fun U nU => ?_⟩
      have kU := same_upd (o := .lst (as.map V.ref ++ as1.map V.ref)) nU
      have hd0 := hdue _ (cut_due (.inl rfl) (.fin (Nat.le_refl _)) cut hdn hsi)
      rw [List.append_nil] at hd0
      refine q _ U (acc ++ r1) (as ++ as1) (s6.trans kU) (s6.free nU) ⟨by rw [upd_same, List.map_append], by rw [List.length_append, List.length_append, hl1, hl2], fun j a ns x y => ?_, fun a ha => ?_⟩ hd0 (by rw [List.length_append]; omega)
      · rcases Nat.lt_or_ge j as.length with q | q
        · rw [List.getElem?_append_left q] at x
          rw [List.getElem?_append_left (by omega)] at y
          exact kU _ _ (ll6.el j a ns x y)
        · rw [List.getElem?_append_right q] at x
          rw [List.getElem?_append_right (by omega), ← hl2] at y
          exact kU _ _ (ll1.el _ a ns x y)
      · rcases List.mem_append.mp ha with h | h
        · obtain ⟨ns, hns⟩ := ll6.get h
          exact ⟨(ll6.new a h).1, ne_of_none hns nU⟩
        · obtain ⟨ns, hns⟩ := ll1.get h
          exact ⟨s3.free (ll1.new a h).1, ne_of_none hns nU⟩
end
end K28

set_option Elab.async false
set_option linter.all false
set_option maxRecDepth 100000
set_option maxHeartbeats 8000000
namespace K28
open PySem PySem.Spec PyProof.Rows L2 Gd Rm La Cb
def rLenB (K : PySem.W.Frag) : List V → Hp → VK → Prop := fun xs H Q => ∃ p ys, xs = [.ref p] ∧ (SqL K H p ys ∨ SqT K H p ys) ∧ Q (.int ys.length) H
def nI (n : Nat) : List Int := (List.range n).map fun k : Nat => (k : Int)
theorem rgV_nI (n : Nat) : rgV 0 (n : Int) = (nI n).map V.int := by
  unfold rgV nI
  rw [List.map_map, show ((n : Int) - 0).toNat = n by omega]
  refine List.map_congr_left fun k _ => ?_
  show V.int (0 + (k : Int)) = V.int (k : Int)
  rw [Int.zero_add]
theorem nI_nd (n : Nat) : (nI n).Nodup := by
  unfold nI
  rw [List.Nodup, List.pairwise_map]
  exact List.nodup_range.imp fun h e => h (by omega)
theorem nI_mem {n : Nat} {k : Int} : k ∈ nI n ↔ 0 ≤ k ∧ k < n := by
  unfold nI
  rw [List.mem_map]
  constructor
  · rintro ⟨j, hj, rfl⟩
    have := List.mem_range.mp hj
    omega
  · rintro ⟨h1, h2⟩
    exact ⟨k.toNat, List.mem_range.mpr (by omega), by omega⟩
theorem nI_len (n : Nat) : (nI n).length = n := by unfold nI; rw [List.length_map, List.length_range]
theorem eraseMap {α β : Type} (f : α → β) : ∀ (ns : List α) (j : Nat), (ns.map f).eraseIdx j = (ns.eraseIdx j).map f
  | [], _ => rfl
  | _ :: _, 0 => rfl
  | n :: ns, j + 1 => by
    show f n :: (ns.map f).eraseIdx j = f n :: (ns.eraseIdx j).map f
    rw [eraseMap f ns j]
theorem small30 {n : Nat} (h : n ≤ 1000) : n ≤ sizeLine := Nat.le_of_lt (small1000 h)
def codes8 : List Str := ["q", "w", "a", "zz9", "enter", "bksp", "a1b2c3d", "00000000"]
theorem codes_ok : ∀ c ∈ codes8, CodeOk c := by decide +kernel
theorem getC {d : Int} (h0 : 0 ≤ d) (h1 : d < 8) : ∃ c, atI (codes8.map V.str) d = some (.str c) ∧ CodeOk c := by
  have hd : d.toNat < codes8.length := by show d.toNat < 8; omega
  refine ⟨codes8[d.toNat], ?_, codes_ok _ (List.getElem_mem hd)⟩
  refine at_of (j := d.toNat) (by omega) ?_
  rw [List.getElem?_map, List.getElem?_eq_getElem hd]
  rfl
/-- other than at these two, nothing changes -/
def Off2 (r c : Addr) (H H' : Hp) : Prop := ∀ b o, H b = some o → b ≠ r → b ≠ c → H' b = some o
theorem Off2.same {r c : Addr} {H H1 H2 : Hp} (a : Off2 r c H H1) (s : Same H1 H2) : Off2 r c H H2 := fun b o h x y => s _ _ (a b o h x y)
theorem Off2.off {r c : Addr} {H H1 H2 : Hp} (a : Off2 r c H H1) (s : Off r H1 H2) : Off2 r c H H2 := fun b o h x y => s _ _ (a b o h x y) x
theorem Off2.new {r c p : Addr} {o : HO} {H H1 : Hp} (a : Off2 r c H H1) (n : H p = none) : Off2 r c H (upd H1 p o) := fun b x h y z => by rw [upd_ne (ne_of_none h n)]; exact a b x h y z
theorem Off2.at_ {r c : Addr} {o : HO} {H H1 : Hp} (a : Off2 r c H H1) : Off2 r c H (upd H1 c o) := fun b x h y z => by rw [upd_ne z]; exact a b x h y z
section
variable {P : Program} {w : World} {K : PySem.W.Frag} {mg : Str → Option Value} {base : Heap}
def spLCombos : Sp := fun vs H Q _ => ∃ (r : Addr) (k m : Nat) (top : Int), vs = [.ref r, .int (m : Int), .int top] ∧ Reel H r k ∧ k + 1000 < most ∧ 1 ≤ m ∧ m ≤ 10 ∧ 1 ≤ top ∧ top ≤ 10 ^ 9 ∧
  ∀ H' p cbs, Off r H H' → H p = none → Reel H' r (k + 100) → Cmbs H' p cbs → CbsOk m cbs → Q (.ref p) H'
theorem ok__law_combos (bt : Bt mg) (a : At K mg "_law_combos" s__law_combos ["_law_spring_here", "_law_many", "_law_top"]) (c__law_take : Cl P w K mg base 1 "_law_take" spDraw) : Cl P w K mg base 2 "_law_combos" spLCombos := by
  refine clG a sc__law_combos (fun vs H Q E h => ?_) (fun f cdv A outer s H vs Q hg hr h => ?_)
  · obtain ⟨r, k, m, top, rfl, _⟩ := h
    rfl
  · obtain ⟨r, k, m, top, rfl, R, hk, hm1, hm2, t1, t2, q⟩ := h
    have hk' : k + 1000 < 1000000000 := hk
    have big : (10 : Int) ^ 40 > 10 ^ 10 := by decide
    refine ⟨_, (pss_cons (ps_set (i := 3) sc__law_combos.nd rfl (Or.inl rfl) (pe_lst pa_nil))
      (pss_cons (ps_for PassesOwn.never rfl (pi_range1 (by rfl) bt.m_range (pa_cons (pe_op op_mulW (pe_cl c__law_take hg hr (by decide) (by rfl) (pa_cons (pv 0) (pa_cons pe_int pa_nil))) (pe_callTy call_int1 (by rfl) bt.m_int (by decide +kernel) (pa_cons (pe_cmpR op_gt (pv 1) pe_int (nomark _)) pa_nil))) pa_nil)) (pg_name (i := 4) sc__law_combos.nd rfl (Or.inl rfl)) (pss_cons (ps_set (i := 5) sc__law_combos.nd rfl (Or.inr rfl) (pe_listRg rfl (by rfl) bt.m_list (prg_1 (by rfl) bt.m_range (pe_ix ix_list (pe_lst (pa_cons (pe_callB (call_min2 rfl) (by rfl) bt.m_min (by decide +kernel) (pa_cons (pv 1) (pa_cons pe_int pa_nil))) (pa_cons (pv 1) pa_nil))) (pe_cl c__law_take hg hr (by decide) (by rfl) (pa_cons (pv 0) (pa_cons pe_int pa_nil))) (fun _ _ => rfl)))))
      (pss_cons (ps_set (i := 6) sc__law_combos.nd rfl (Or.inl rfl) (pe_callB (call_min2 rfl) (by rfl) bt.m_min (by decide +kernel) (pa_cons (pe_callB call_len_seq (by rfl) bt.m_len (by decide +kernel) (pa_cons (pv 5) pa_nil)) (pa_cons (pe_op op_add pe_int (pe_cl c__law_take hg hr (by decide) (by rfl) (pa_cons (pv 0) (pa_cons pe_int pa_nil)))) pa_nil))))
      (pss_cons (ps_set (i := 7) sc__law_combos.nd rfl (Or.inl rfl) (pe_callTy call_tuple_of (by rfl) bt.m_tuple (by decide +kernel) (pa_cons (pe_callB cr_sortedI (by rfl) bt.m_sorted (by decide +kernel) (pa_cons (pe_lc (own := [("_law_part", 11)]) (g := (gName 11)) (by rfl) sc__law_combos.nd (pi_range1 (by rfl) bt.m_range (pa_cons (pv 6) pa_nil)) (blkOk_by (N := n__law_combos) (sc := defScope s__law_combos) (by decide +kernel)) (fun _ _ _ _ _ => (pg_name (i := 11) sc__law_combos.nd rfl (Or.inl rfl))) (fun _ _ _ _ _ => pts_nil) (fun _ _ _ _ _ => (pe_bmB (K0 := K) rfl PySem.F.plainAttrs_list PySem.F.slot_list_pop PySem.F.type_list_pop mt_popAt (pv 5) (pa_cons (pe_cl c__law_take hg hr (by decide) (by rfl) (pa_cons (pv 0) (pa_cons (pe_callB (r := rLenB K) call_len_seq (by rfl) bt.m_len (by decide +kernel) (pa_cons (pv 5) pa_nil)) pa_nil))) pa_nil)))) pa_nil)) pa_nil)))
      (pss_cons (ps_set (i := 8) sc__law_combos.nd rfl (Or.inl rfl) (pe_op op_add pe_int (pe_cl c__law_take hg hr (by decide) (by rfl) (pa_cons (pv 0) (pa_cons (pe_ix ix_list (pe_lst (pa_cons pe_int (pa_cons pe_int (pa_cons (pv 2) pa_nil)))) (pe_cl c__law_take hg hr (by decide) (by rfl) (pa_cons (pv 0) (pa_cons pe_int pa_nil))) (fun _ _ => rfl)) pa_nil)))))
      (pss_cons (ps_set (i := 9) sc__law_combos.nd rfl (Or.inl rfl) (pe_ix ix_list (pe_lst (pa_cons pe_str (pa_cons pe_str (pa_cons pe_str (pa_cons pe_str (pa_cons pe_str (pa_cons pe_str (pa_cons pe_str (pa_cons pe_str pa_nil))))))))) (pe_cl c__law_take hg hr (by decide) (by rfl) (pa_cons (pv 0) (pa_cons pe_int pa_nil))) (fun _ _ => rfl)))
      (pss_one (ps_if (pt_cmpR (op_notInD (room65 hr)) (pv 7) (pe_lc (own := [("_law_combo", 10)]) (g := (gName 10)) (by rfl) sc__law_combos.nd (pi_list (pv 3)) (blkOk_by (N := n__law_combos) (sc := defScope s__law_combos) (by decide +kernel)) (fun _ _ _ _ _ => (pg_name (i := 10) sc__law_combos.nd rfl (Or.inl rfl))) (fun _ _ _ _ _ => pts_nil) (fun _ _ _ _ _ => (pe_ix (r := rIxT K) ix_tup (pv 10) pe_int (fun _ _ => rfl)))) (by rfl)) (pss_one (ps_expr (pe_bm PySem.F.plainAttrs_list PySem.F.slot_list_append PySem.F.type_list_append mt_append (pv 3) (pa_cons (pe_tup (pa_cons (pv 7) (pa_cons (pv 8) (pa_cons (pv 9) pa_nil)))) pa_nil)))) pss_nil))))))))
      (pss_one (ps_ret (pv 3))))), ?_⟩
    refine ⟨Nat.zero_le _, fun F nF => ?_⟩
    have sF := same_upd (o := .lst []) nF
    have Fr : F ≠ r := R.new nF
    refine ⟨_, rfl, r, 7, k, rfl, by decide, by decide, by show k < 1000000000; omega, R.same sF, fun d1 H1 d10 d11 R1 o1 => ?_⟩
    refine ⟨_, rfl, _, _, rfl, rfl, .inr ⟨_, rfl, ?_⟩⟩
    have hb : ∀ b : Bool, (if b = true then (1 : Int) else 0) = 0 ∨ (if b = true then (1 : Int) else 0) = 1 := fun b => by cases b <;> decide
    refine ⟨_, _, rfl, rfl, wide_mul (a := 40) (b := 40) (by omega) (by have := hb (decide ((m : Int) > 1)); omega) (by decide) (by decide) (by decide), ?_⟩
    have hN : ∃ N : Nat, d1 * (if decide ((m : Int) > 1) = true then 1 else 0) = (N : Int) ∧ N ≤ 6 ∧ (0 < N → 2 ≤ m) := by
      by_cases z : (m : Int) > 1
      · refine ⟨d1.toNat, ?_, by omega, fun _ => by omega⟩
        rw [decide_eq_true z, if_pos rfl]; omega
      · refine ⟨0, ?_, by omega, fun h => by omega⟩
        rw [decide_eq_false z, if_neg (by decide)]; omega
    obtain ⟨N, eN, hN6, hN2⟩ := hN
    have hF1 := o1 _ _ (upd_same (a := F) (o := .lst [])) Fr
    have ob : Off r H H1 := (Off.of sF).trans o1
    refine ⟨_, rfl, by rw [eN]; omega, by rw [eN]; omega, ?_⟩
    rw [eN, Int.toNat_natCast]
    refine for_it walk_range (fun i σ H' => ∃ (y4 y5 y6 y7 y8 y9 y10 y11 : Option V) (cbs : List Cmb), σ = [some (.ref r), some (.int (m : Int)), some (.int top), some (.ref F), y4, y5, y6, y7, y8, y9, y10, y11] ∧ Off r H H' ∧ Reel H' r (k + 1 + 10 * i) ∧ Cmbs H' F cbs ∧ CbsOk m cbs ∧ cbs.length ≤ i)
      ⟨_, _, _, _, _, _, _, _, [], rfl, ob, R1, ⟨[], hF1, rfl, fun i v cb h => by simp at h⟩, CbsOk.nil _, Nat.le_refl _⟩ (fun _ _ _ _ _ => True.intro) (fun i x σ H2 H3 hi p y => ?_) (fun σ H2 p => ?_)
    · obtain ⟨y4, y5, y6, y7, y8, y9, y10, y11, cbs, rfl, o2, R2, hC2, ok, hcl⟩ := p
      obtain ⟨rfl, rfl⟩ := y
      have hm := hN2 (by omega)
      -- some
      refine ⟨_, rfl, _, _, rfl, ?_⟩
      refine ⟨_, rfl, (by show 2 ≤ sizeLine; decide), fun W1 nW1 => ?_⟩
      have mn : ∃ v : Nat, (if (4 : Int) < (m : Int) then (4 : Int) else (m : Int)) = (v : Int) ∧ 2 ≤ v ∧ v ≤ m := by
        by_cases z : (4 : Int) < (m : Int)
        · exact ⟨4, by rw [if_pos z]; rfl, by decide, by omega⟩
        · exact ⟨m, by rw [if_neg z], by omega, Nat.le_refl _⟩
      obtain ⟨mv, emv, mv1, mv2⟩ := mn
      rw [emv] at *
      have k1 := same_upd (o := .lst [.int (mv : Int), .int (m : Int)]) nW1
      refine ⟨_, rfl, r, 2, k + 1 + 10 * i, rfl, by decide, by decide, by show _ < 1000000000; omega, R2.same k1, fun d2 H4 d20 d21 R4 o4 => ?_⟩
      have W1r : W1 ≠ r := R2.new nW1
      have hW1 : H4 W1 = some (.lst (([(mv : Int), (m : Int)] : List Int).map V.int)) := o4 _ _ upd_same W1r
      obtain ⟨sv, asv, msv⟩ := getI (ns := ([(mv : Int), (m : Int)] : List Int)) d20 (by show d2 < 2; exact d21)
      obtain ⟨M, rfl, hM1, hM2⟩ : ∃ M : Nat, sv = (M : Int) ∧ 2 ≤ M ∧ M ≤ m := by
        have hmm := List.mem_of_getElem? msv
        simp only [List.mem_cons, List.mem_nil_iff, or_false] at hmm
        rcases hmm with rfl | rfl
        · exact ⟨mv, rfl, mv1, mv2⟩
        · exact ⟨m, rfl, hm, Nat.le_refl _⟩
      refine ⟨W1, _, d2, _, rfl, rfl, SqL.of hW1, asv, _, rfl, ⟨by omega, by omega, by omega, by omega, by omega⟩, fun Sm nSm => ?_⟩
      rw [rgV_nI]
      have k2 := same_upd (o := .lst ((nI M).map V.int)) nSm
      have Smr : Sm ≠ r := R4.new nSm
      have o24 : Off r _ H4 := (Off.of k1).trans o4
      have hC4 := hC2.go (R2.tk o24) (fun vs h => o24 _ _ h Fr)
      have hC5 := hC4.same k2
      have R5 := R4.same k2
      have oH5 := (o2.trans o24).sameTrans k2
      have nSmH : H Sm = none := R4.free (o2.trans o24) nSm
      have FS : F ≠ Sm := by
        obtain ⟨vs, hF4, _⟩ := id hC4
        exact ne_of_none hF4 nSm
      have hS5 := upd_same (H := H4) (a := Sm) (o := .lst ((nI M).map V.int))
      refine (fun (G : ∀ H5 : Hp, Reel H5 r (k + 1 + 10 * i + 1) → Cmbs H5 F cbs → Rm.Off r H H5 → H5 Sm = some (.lst ((nI M).map V.int)) → _) => G _ R5 hC5 oH5 hS5) (fun H5 R5 hC5 oH5 hS5 => ?_)
      -- size
      refine ⟨_, rfl, Sm, _, rfl, .inl (SqL.of hS5), ?_⟩
      refine ⟨_, rfl, r, 2, k + 1 + 10 * i + 1, rfl, by decide, by decide, by show _ < 1000000000; omega, R5, fun d3 H6 d30 d31 R6 o6 => ⟨_, _, rfl, rfl, _, _, rfl, ?_⟩⟩
      rw [List.length_map, nI_len]
      obtain ⟨sz, esz, sz1, sz2⟩ : ∃ sz : Nat, (if 2 + d3 < ((M : Nat) : Int) then 2 + d3 else ((M : Nat) : Int)) = (sz : Int) ∧ (sz = 2 ∨ sz = 3) ∧ sz ≤ M := by
        by_cases z : 2 + d3 < ((M : Nat) : Int)
        · refine ⟨(2 + d3).toNat, by rw [if_pos z]; omega, by omega, by omega⟩
        · refine ⟨M, by rw [if_neg z], by omega, Nat.le_refl _⟩
      rw [esz]
      have hS6 := o6 _ _ hS5 Smr
      have hC6 := hC5.go (R5.tk o6) (fun vs h => o6 _ _ h Fr)
      have oH6 := oH5.trans o6
      -- keys
      refine ⟨_, rfl, _, rfl, by omega, by omega, ?_⟩
      rw [Int.toNat_natCast]
      refine fun Pp nPp => lc_it walk_range (fun j H' => Off2 r Sm H6 H' ∧ Reel H' r (k + 1 + 10 * i + 2 + j) ∧ ∃ rem got : List Int, H' Sm = some (.lst (rem.map V.int)) ∧ H' Pp = some (.lst (got.map V.int)) ∧ rem.Nodup ∧ got.Nodup ∧ got.length = j ∧ rem.length + j = M ∧ (∀ x ∈ rem, 0 ≤ x ∧ x < (m : Int)) ∧ (∀ x ∈ got, (0 ≤ x ∧ x < (m : Int)) ∧ ¬ x ∈ rem))
        ⟨fun b o h _ _ => same_upd nPp _ _ h, R6.same (same_upd nPp), nI M, [], (same_upd nPp) _ _ hS6, upd_same, nI_nd M, List.nodup_nil, rfl, nI_len M, fun x hx => by have := nI_mem.mp hx; omega, fun x h => by simp at h⟩ (fun _ _ _ _ => True.intro) (fun j x H7 H8 hj p y => ?_) (fun H7 p => ?_)
      · obtain ⟨o7, R7, rem, got, hS7, hP7, nd1, nd2, hgl, hrl, hr1, hg1⟩ := p
        obtain ⟨rfl, rfl⟩ := y
        have PpS : Pp ≠ Sm := (ne_of_none hS6 nPp).symm
        have Ppr : Pp ≠ r := R6.new nPp
        refine ⟨rfl, _, rfl, .inl ⟨rfl, _, SqL.of hS7⟩, ?_⟩
        refine ⟨_, rfl, _, rfl, Sm, _, rfl, .inl (SqL.of hS7), r, _, k + 1 + 10 * i + 2 + j, rfl, by rw [List.length_map]; omega, by rw [List.length_map]; omega, by show _ < 1000000000; omega, R7, fun e H9 e0 e1 R9 o9 => ?_⟩
        rw [List.length_map] at e1
        have hS9 := o9 _ _ hS7 Smr
        have hP9 := o9 _ _ hP7 Ppr
        obtain ⟨ej, rfl⟩ := Int.eq_ofNat_of_zero_le e0
        have hej : ej < rem.length := by omega
        have hix := seqIndex_of (k := (ej : Int)) (n := (rem.map V.int).length) (by omega) (by rw [List.length_map]; omega)
        rw [Int.toNat_natCast] at hix
        have gx : rem[ej]? = some rem[ej] := List.getElem?_eq_getElem hej
        refine ⟨Sm, _, _, ej, .int rem[ej], rfl, rfl, hS9, by omega, by omega, hix, get_map_int gx, ?_⟩
        rw [eraseMap]
        have hP10 : upd H9 Sm (.lst ((rem.eraseIdx ej).map V.int)) Pp = some (.lst (got.map V.int)) := by rw [upd_ne PpS]; exact hP9
        refine ⟨_, hP10, by rw [List.length_map]; exact small1000 (by omega), ((o7.off o9).at_).new nPp, (R9.upd Smr).upd Ppr, rem.eraseIdx ej, got ++ [rem[ej]], by rw [upd_ne PpS.symm, upd_same], by rw [upd_same, List.map_append]; rfl, nd1.eraseIdx ej, nd_snoc nd2 (fun h => (hg1 _ h).2 (List.getElem_mem hej)), by rw [List.length_append, hgl]; rfl, by rw [List.length_eraseIdx, if_pos hej]; omega, fun x hx => hr1 x (List.mem_of_mem_eraseIdx hx), fun x hx => ?_⟩
        rcases List.mem_append.mp hx with h | h
        · exact ⟨(hg1 x h).1, fun z => (hg1 x h).2 (List.mem_of_mem_eraseIdx z)⟩
        · rw [List.mem_singleton.mp h]
          exact ⟨hr1 _ (List.getElem_mem hej), fun z => ((mem_eraseIdx nd1 gx _).mp z).1 rfl⟩
      · obtain ⟨o7, R7, rem, got, hS7, hP7, nd1, nd2, hgl, hrl, hr1, hg1⟩ := p
        refine ⟨Pp, got, rfl, SqL.of hP7, fun ks Sd hpk hok nSd => ?_⟩
        have k8 := same_upd (o := .lst (ks.map V.int)) nSd
        refine ⟨Sd, _, rfl, .inl ⟨SqL.of upd_same, fun Kt nKt => ?_⟩⟩
        have k9 := same_upd (o := .tup (ks.map V.int)) nKt
        have oH9 : Off r H (upd (upd H7 Sd (.lst (ks.map V.int))) Kt (.tup (ks.map V.int))) := fun b o h n => (k8.trans k9) _ _ (o7 _ _ (oH6 _ _ h n) n (ne_of_none h nSmH))
        have R9 := (R7.same k8).same k9
        have hC9 : Cmbs (upd (upd H7 Sd (.lst (ks.map V.int))) Kt (.tup (ks.map V.int))) F cbs := hC6.go (fun b xs h => (k8.trans k9) _ _ (o7 _ _ h (by
          obtain ⟨_, _, _, hr6, _⟩ := id R6
          exact ne_of h hr6 (by intro z; cases z)) (ne_of h hS6 (by intro z; cases z)))) (fun vs h => (k8.trans k9) _ _ (o7 _ _ h Fr FS))
        have hKt := upd_same (H := upd H7 Sd (.lst (ks.map V.int))) (a := Kt) (o := .tup (ks.map V.int))
        have kasc : ks.Pairwise (· < ·) := (hok.and (hpk.nodup_iff.mpr nd2)).imp fun h => by have := h.1; have := h.2; omega
        have klen : ks.length = 2 ∨ ks.length = 3 := by rw [hpk.length_eq, hgl]; exact sz1
        have kkey : ∀ x ∈ ks, 0 ≤ x ∧ x < (m : Int) := fun x hx => (hg1 x (hpk.mem_iff.mp hx)).1
        refine (fun (G : ∀ H9 : Hp, Reel H9 r (k + 1 + 10 * i + 5) → Cmbs H9 F cbs → Rm.Off r H H9 → H9 Kt = some (.tup (ks.map V.int)) → _) => G _ (R9.mono (by omega)) hC9 oH9 hKt) (fun H9 R9 hC9 oH9 hKt => ?_)
        -- time
        refine ⟨_, rfl, _, rfl, (by show 3 ≤ sizeLine; decide), fun W2 nW2 => ?_⟩
        have k10 := same_upd (o := .lst [.int 4, .int 12, .int top]) nW2
        refine ⟨_, rfl, r, 3, k + 1 + 10 * i + 5, rfl, by decide, by decide, by show _ < 1000000000; omega, R9.same k10, fun d4 H11 d40 d41 R11 o11 => ?_⟩
        have W2r : W2 ≠ r := R9.new nW2
        have hW2 : H11 W2 = some (.lst (([4, 12, top] : List Int).map V.int)) := o11 _ _ upd_same W2r
        obtain ⟨tv, atv, mtv⟩ := getI (ns := ([4, 12, top] : List Int)) d40 (by show d4 < 3; exact d41)
        have htv : 1 ≤ tv ∧ tv ≤ 10 ^ 9 := by
          have hmm := List.mem_of_getElem? mtv
          simp only [List.mem_cons, List.mem_nil_iff, or_false] at hmm
          omega
        refine ⟨W2, _, d4, _, rfl, rfl, SqL.of hW2, atv, r, tv, k + 1 + 10 * i + 6, rfl, by omega, by omega, by show _ < 1000000000; omega, R11, fun tt H12 tt0 tt1 R12 o12 => ⟨_, _, rfl, rfl, ?_⟩⟩
        -- code
        refine ⟨(by show 8 ≤ sizeLine; decide), fun W3 nW3 => ?_⟩
        have k13 := same_upd (o := .lst (codes8.map V.str)) nW3
        refine ⟨_, rfl, r, 8, k + 1 + 10 * i + 7, rfl, by decide, by decide, by show _ < 1000000000; omega, R12.same k13, fun d5 H14 d50 d51 R14 o14 => ?_⟩
        have W3r : W3 ≠ r := R12.new nW3
        have hW3 : H14 W3 = some (.lst (codes8.map V.str)) := o14 _ _ upd_same W3r
        obtain ⟨cc, acc, hcc⟩ := getC d50 d51
        refine ⟨W3, _, d5, _, rfl, rfl, SqL.of hW3, acc, ?_⟩
        have o914 : Off r H9 H14 := ((((Off.of k10).trans o11).trans o12).sameTrans k13).trans o14
        have tk914 := R9.tk o914
        have hC14 := hC9.go tk914 (fun vs h => o914 _ _ h Fr)
        have hKt14 := tk914 _ _ hKt
        have oH14 := oH9.trans o914
        obtain ⟨vs, hF14, hCv⟩ := id hC14
        have hvl := hCv.1
        -- not in
        refine ⟨_, rfl, _, rfl, F, rfl, ⟨_, SqL.of hF14⟩, fun Ky nKy => lc_it (walk_list (xs := vs)) (fun j H' => Same H14 H' ∧ Lst ksV H' Ky ((cbs.take j).map Cmb.ks)) ⟨same_upd nKy, [], upd_same, Tups.nil⟩ (fun j H' _ p => SqL.of (p.1 _ _ hF14)) (fun j v H15 H16 hj p y => ?_) (fun H15 p => ?_)⟩
        · obtain ⟨rfl, e2⟩ := y
          obtain ⟨p1, as, hKy, hT⟩ := p
          have hj' : j < cbs.length := by omega
          obtain ⟨ad, kk, hv, ha, hkk⟩ := Cmbs.at_ hCv hj'
          have e2' : v = .ref ad := Option.some.inj (e2.symm.trans hv)
          subst e2'
          have hal := hT.1
          refine ⟨rfl, _, rfl, ad, _, _, _, rfl, rfl, SqT.of (p1 _ _ ha), atI_nat (j := 0) rfl, _, hKy, ?_, Same.off p1 nKy off_upd, as ++ [kk], by rw [upd_same, List.map_append]; rfl, ?_⟩
          · rw [List.length_map, hal, List.length_map, List.length_take]; exact small1000 (by omega)
          · rw [List.take_add_one, List.getElem?_eq_getElem hj', List.map_append]
            refine Tups.snoc (hT.off hKy off_upd) ?_
            have := p1 _ _ hkk
            rw [upd_ne (ne_of this hKy (by intro z; cases z))]
            exact this
        · obtain ⟨p1, as, hKy, hT⟩ := p
          rw [hvl, List.take_length] at hT
          refine ⟨ksD ks, (cbs.map Cmb.ks).map ksD, .tup (SqT.of (p1 _ _ hKt14)) (dpInts _), .lst (SqL.of hKy) (dpAll_of (fun a e h => .tup (SqT.of h) (dpInts e)) as _ hT), shaped_ks _, shaped_kss _, _, rfl, ?_⟩
          rw [any_ks]
          have R15 := R14.same p1
          have hC15 := hC14.same p1
          have oH15 := oH14.sameTrans p1
          obtain ⟨vs5, hF15, hCv5⟩ := id hC15
          have hvl5 := hCv5.1
          refine ite2 (fun z => ?_) (fun z => ?_)
          · have zn : ¬ ks ∈ cbs.map Cmb.ks := fun h => by rw [decide_eq_true h] at z; cases z
            refine ⟨_, rfl, .inl ⟨rfl, _, SqL.of hF15⟩, _, rfl, _, rfl, _, rfl, (by show 3 ≤ sizeLine; decide), fun p np => ?_⟩
            have kp := same_upd (o := .tup [.ref Kt, .int (1 + tt), .str cc]) np
            have hF16 := kp _ _ hF15
            refine ⟨F, _, .ref p, rfl, rfl, hF16, by rw [hvl5]; exact small1000 (by omega), ?_⟩
            have pF : p ≠ F := (ne_of_none hF15 np).symm
            have tkF : Tk (upd H15 p (.tup [.ref Kt, .int (1 + tt), .str cc])) (upd (upd H15 p (.tup [.ref Kt, .int (1 + tt), .str cc])) F (.lst (vs5 ++ [.ref p]))) := tk_upd hF16
            refine ⟨_, _, _, _, _, _, _, _, cbs ++ [⟨ks, 1 + tt, cc⟩], rfl, (oH15.sameTrans kp).new nF, ((R15.same kp).upd Fr).mono (by omega), ⟨vs5 ++ [.ref p], upd_same, by rw [List.length_append, List.length_append, hvl5]; rfl, fun j v cb x y => ?_⟩, ⟨fun cb hc => ?_, by rw [List.length_append, List.length_singleton]; omega, ?_⟩, by rw [List.length_append, List.length_singleton]; omega⟩
            · rcases Nat.lt_or_ge j vs5.length with q | q
              · rw [List.getElem?_append_left q] at x
                rw [List.getElem?_append_left (by omega)] at y
                exact ((hCv5.2 j v cb x y).tk (Tk.of kp)).tk tkF
              · have hj : j = vs5.length := by
                  have := (List.getElem?_eq_some_iff.mp x).1
                  rw [List.length_append, List.length_singleton] at this
                  omega
                subst hj
                rw [List.getElem?_append_right (Nat.le_refl _), Nat.sub_self] at x
                rw [List.getElem?_append_right (by omega), show vs5.length - cbs.length = 0 by omega] at y
                have e1 : V.ref p = v := Option.some.inj x
                have e2 : (⟨ks, 1 + tt, cc⟩ : Cmb) = cb := Option.some.inj y
                subst e1 e2
                exact ⟨p, Kt, rfl, tkF _ _ upd_same, tkF _ _ (kp _ _ (p1 _ _ hKt14))⟩
            · rcases List.mem_append.mp hc with h | h
              · exact ok.all cb h
              · rw [List.mem_singleton.mp h]
                exact ⟨kasc, klen, kkey, ⟨by show 1 ≤ 1 + tt; omega, by show 1 + tt ≤ 10 ^ 9; omega⟩, hcc⟩
            · rw [List.map_append]
              exact List.nodup_append.mpr ⟨ok.apart, by simp, fun a ha b hb => by
                rw [List.mem_singleton.mp hb]
                exact fun e => zn (by rw [show a = ks from e] at ha; exact ha)⟩
          · exact ⟨_, _, _, _, _, _, _, _, cbs, rfl, oH15, R15.mono (by omega), hC15, ok, by omega⟩
    · obtain ⟨y4, y5, y6, y7, y8, y9, y10, y11, cbs, rfl, o2, R2, hC2, ok, hcl⟩ := p
      exact ⟨_, rfl, q H2 F cbs o2 nF (R2.mono (by omega)) hC2 ok⟩
end
end K28

set_option Elab.async false
set_option linter.all false
set_option maxRecDepth 100000
set_option maxHeartbeats 8000000
namespace K28
open PySem PySem.Spec PyProof.Rows L2 Gd Rm La Cb
theorem down_cut (ns : List Int) (k : Int) : ns.filter (fun x => decide (x ≠ k)) = ns.filter fun x => !decide (x = k) := by
  refine List.filter_congr fun x _ => ?_
  by_cases z : x = k <;> simp [z]
section
variable {P : Program} {w : World} {K : PySem.W.Frag} {mg : Str → Option Value} {base : Heap}
def spSpace : Sp := fun vs H Q _ => ∃ (r T : Addr) (k : Nat) (ts : List Int), vs = [.ref r, .ref T] ∧ Reel H r k ∧ k + 1000 < most ∧ H T = some (.lst (ts.map V.int)) ∧ T ≠ r ∧ 0 < ts.length ∧ ts.length ≤ 10 ∧ (∀ t ∈ ts, 1 ≤ t ∧ t ≤ 10 ^ 9) ∧
  ∀ H' d, Off r H H' → Reel H' r (k + 10) → 0 ≤ d → d ≤ 10 ^ 9 → Q (.int d) H'
theorem ok__law_space (bt : Bt mg) (a : At K mg "_law_space" s__law_space ["_law_spring_here", "_law_times"]) (c__law_take : Cl P w K mg base 1 "_law_take" spDraw) : Cl P w K mg base 2 "_law_space" spSpace := by
  refine clG a sc__law_space (fun vs H Q E h => ?_) (fun f cdv A outer s H vs Q hg hr h => ?_)
  · obtain ⟨r, T, k, ts, rfl, _⟩ := h
    rfl
  · obtain ⟨r, T, k, ts, rfl, R, hk, hT, Tr, l0, l1, hts, q⟩ := h
    have hk' : k + 1000 < 1000000000 := hk
    have big : (10 : Int) ^ 40 > 10 ^ 10 := by decide
    refine ⟨_, (pss_cons (ps_set (i := 2) sc__law_space.nd rfl (Or.inl rfl) (pe_ix ix_list (pv 1) (pe_cl c__law_take hg hr (by decide) (by rfl) (pa_cons (pv 0) (pa_cons (pe_callB call_len_seq (by rfl) bt.m_len (by decide +kernel) (pa_cons (pv 1) pa_nil)) pa_nil))) (fun _ _ => rfl)))
      (pss_one (ps_ret (pe_ix ix_list (pe_lst (pa_cons pe_int (pa_cons pe_int (pa_cons pe_int (pa_cons pe_int (pa_cons (pe_cl c__law_take hg hr (by decide) (by rfl) (pa_cons (pv 0) (pa_cons pe_int pa_nil))) (pa_cons (pe_op op_sub (pv 2) pe_int) (pa_cons (pv 2) (pa_cons (pe_cl c__law_take hg hr (by decide) (by rfl) (pa_cons (pv 0) (pa_cons (pe_op op_add (pv 2) pe_int) pa_nil))) pa_nil))))))))) (pe_cl c__law_take hg hr (by decide) (by rfl) (pa_cons (pv 0) (pa_cons pe_int pa_nil))) (fun _ _ => rfl))))), ?_⟩
    refine ⟨_, rfl, _, rfl, _, rfl, T, _, rfl, .inl (SqL.of hT), r, _, k, rfl, by rw [List.length_map]; omega, by rw [List.length_map]; omega, by show k < 1000000000; omega, R, fun d1 H1 d10 d11 R1 o1 => ?_⟩
    rw [List.length_map] at d11
    obtain ⟨tv, atv, mtv⟩ := getI (ns := ts) d10 (by omega)
    have htv := hts tv (List.mem_of_getElem? mtv)
    refine ⟨T, _, d1, _, rfl, rfl, SqL.of (o1 _ _ hT Tr), atv, ?_⟩
    refine ⟨_, rfl, r, 6, k + 1, rfl, by decide, by decide, by show _ < 1000000000; omega, R1, fun d2 H2 d20 d21 R2 o2 => ?_⟩
    refine ⟨_, rfl, _, _, rfl, rfl, _, rfl, _, rfl, _, rfl, _, _, rfl, rfl, r, _, k + 2, rfl, by omega, by omega, by show _ < 1000000000; omega, R2, fun d3 H3 d30 d31 R3 o3 => ⟨(by show 8 ≤ sizeLine; decide), fun W nW => ?_⟩⟩
    have kW := same_upd (o := .lst (([0, 0, 1, 1, d2, tv - 1, tv, d3] : List Int).map V.int)) nW
    refine ⟨_, rfl, r, 8, k + 3, rfl, by decide, by decide, by show _ < 1000000000; omega, R3.same kW, fun d4 H4 d40 d41 R4 o4 => ?_⟩
    have Wr : W ≠ r := R3.new nW
    have hW : H4 W = some (.lst (([0, 0, 1, 1, d2, tv - 1, tv, d3] : List Int).map V.int)) := o4 _ _ upd_same Wr
    obtain ⟨v, av, mv⟩ := getI (ns := ([0, 0, 1, 1, d2, tv - 1, tv, d3] : List Int)) d40 (by show d4 < 8; exact d41)
    have hv : 0 ≤ v ∧ v ≤ 10 ^ 9 := by
      have hm := List.mem_of_getElem? mv
      simp only [List.mem_cons, List.mem_nil_iff, or_false] at hm
      omega
    exact ⟨W, _, d4, _, rfl, rfl, SqL.of hW, av, q H4 v (((o1.trans o2).trans o3).sameTrans kW |>.trans o4) (R4.mono (by omega)) hv.1 hv.2⟩
structure RcOk (m : Int) (size : Nat) (es : List Ev) : Prop where
  valid : Valid es
  len : es.length = size
  key : ∀ e ∈ es, 0 ≤ e.k ∧ e.k < m
  tick : ∀ e ∈ es, -(10 ^ 20) < e.t ∧ e.t < 10 ^ 20
def spPresses : Sp := fun vs H Q _ => ∃ (r T : Addr) (k m size : Nat) (ts : List Int), vs = [.ref r, .int (m : Int), .int (size : Int), .ref T] ∧ Reel H r k ∧ k + 10000 < most ∧ 1 ≤ m ∧ m ≤ 10 ∧ size ≤ 200 ∧ H T = some (.lst (ts.map V.int)) ∧ T ≠ r ∧ 0 < ts.length ∧ ts.length ≤ 10 ∧ (∀ t ∈ ts, 1 ≤ t ∧ t ≤ 10 ^ 9) ∧
  ∀ H' p es, Off r H H' → H p = none → Reel H' r (k + 4000) → Lst evV H' p es → RcOk m size es → Q (.ref p) H'
theorem ok__law_presses (bt : Bt mg) (a : At K mg "_law_presses" s__law_presses ["_law_spring_here", "_law_many", "_law_events", "_law_times"]) (c__law_take : Cl P w K mg base 1 "_law_take" spDraw) (c__law_space : Cl P w K mg base 2 "_law_space" spSpace) : Cl P w K mg base 3 "_law_presses" spPresses := by
  refine clG a sc__law_presses (fun vs H Q E h => ?_) (fun f cdv A outer s H vs Q hg hr h => ?_)
  · obtain ⟨r, T, k, m, size, ts, rfl, _⟩ := h
    rfl
  · obtain ⟨r, T, k, m, size, ts, rfl, R, hk, hm1, hm2, hsz, hT, Tr, l0, l1, hts, q⟩ := h
    have hk' : k + 10000 < 1000000000 := hk
    have big : (10 : Int) ^ 40 > 10 ^ 10 := by decide
    refine ⟨_, (pss_cons (ps_asg (pe_tup (pa_cons (pe_ix ix_list (pe_lst (pa_cons pe_int (pa_cons (pe_un un_neg pe_int) (pa_cons (pe_op op_sub pe_int (pe_op op_powW pe_int pe_int)) (pa_cons (pe_op op_sub (pe_op op_powW pe_int pe_int) (pe_op op_powW pe_int pe_int)) pa_nil))))) (pe_cl c__law_take hg hr (by decide) (by rfl) (pa_cons (pv 0) (pa_cons pe_int pa_nil))) (fun _ _ => rfl)) (pa_cons (pe_lst pa_nil) (pa_cons (pe_lst pa_nil) pa_nil)))) (pg_tup rfl (pgs_cons (pg_name (i := 4) sc__law_presses.nd rfl (Or.inl rfl)) (pgs_cons (pg_name (i := 5) sc__law_presses.nd rfl (Or.inr rfl)) (pgs_cons (pg_name (i := 6) sc__law_presses.nd rfl (Or.inl rfl)) pgs_nil)))))
      (pss_cons (ps_set (i := 7) sc__law_presses.nd rfl (Or.inl rfl) (pe_ix ix_list (pe_lst (pa_cons (pe_callB (call_min2 rfl) (by rfl) bt.m_min (by decide +kernel) (pa_cons (pv 1) (pa_cons pe_int pa_nil))) (pa_cons (pv 1) pa_nil))) (pe_cl c__law_take hg hr (by decide) (by rfl) (pa_cons (pv 0) (pa_cons pe_int pa_nil))) (fun _ _ => rfl)))
      (pss_cons (ps_for PassesOwn.never rfl (pi_range1 (by rfl) bt.m_range (pa_cons (pv 2) pa_nil)) (pg_name (i := 8) sc__law_presses.nd rfl (Or.inl rfl)) (pss_cons (ps_setLc (i := 10) (own := [("_law_key", 9)]) (g := (gName 9)) (by rfl) sc__law_presses.nd rfl rfl (sw_true rfl rfl rfl (by decide +kernel)) (pi_range1 (by rfl) bt.m_range (pa_cons (pv 7) pa_nil)) (blkOk_by (N := n__law_presses) (sc := defScope s__law_presses) (by decide +kernel)) (fun _ _ _ _ _ => (pg_name (i := 9) sc__law_presses.nd rfl (Or.inl rfl))) (fun _ _ _ _ _ => (pts_one (pt_cmpR (r := rIn K true) op_notIn_seq (pv 9) (pv 5) (by rfl)))) (fun _ _ _ _ _ => (pv 9)))
      (C8.pss_cut (ps_set (i := 11) sc__law_presses.nd rfl (Or.inl rfl) (pe_ifExp (PW.pt (pw_or (pt_cmpR (op_eqD hr.units) (pv 10) (pe_lst pa_nil) (nomark _)) (pw_or1 (PW.pt (pw_and (pt_cmpR (op_neD hr.units) (pv 5) (pe_lst pa_nil) (nomark _)) (pw_and1 (pt_cmpR op_eq (pe_cl c__law_take hg hr (by decide) (by rfl) (pa_cons (pv 0) (pa_cons pe_int pa_nil))) pe_int (nomark _)))))))) pe_str pe_str))
      (pss_cons (ps_set (i := 12) sc__law_presses.nd rfl (Or.inl rfl) (pe_ix ix_list (pe_lst (pa_cons (pv 5) (pa_cons (pv 10) pa_nil))) (pe_callTy call_int1 (by rfl) bt.m_int (by decide +kernel) (pa_cons (pe_cmpR op_eq (pv 11) pe_str (nomark _)) pa_nil)) (fun _ _ => rfl)))
      (pss_cons (ps_set (i := 9) sc__law_presses.nd rfl (Or.inr rfl) (pe_ix ix_list (pv 12) (pe_cl c__law_take hg hr (by decide) (by rfl) (pa_cons (pv 0) (pa_cons (pe_callB call_len_seq (by rfl) bt.m_len (by decide +kernel) (pa_cons (pv 12) pa_nil)) pa_nil))) (fun _ _ => rfl)))
      (pss_cons (ps_set (i := 4) sc__law_presses.nd rfl (Or.inl rfl) (pe_op op_add (pv 4) (pe_cl c__law_space hg hr (by decide) (by rfl) (pa_cons (pv 0) (pa_cons (pv 3) pa_nil)))))
      (pss_cons (ps_expr (pe_bm PySem.F.plainAttrs_list PySem.F.slot_list_append PySem.F.type_list_append mt_append (pv 6) (pa_cons (pe_tup (pa_cons (pv 4) (pa_cons (pv 9) (pa_cons (pv 11) pa_nil)))) pa_nil)))
      (pss_one (ps_set (i := 5) sc__law_presses.nd rfl (Or.inr rfl) (pe_op op_cat (pe_lc (own := [("_law_one", 13)]) (g := (gName 13)) (by rfl) sc__law_presses.nd (pi_list (pv 5)) (blkOk_by (N := n__law_presses) (sc := defScope s__law_presses) (by decide +kernel)) (fun _ _ _ _ _ => (pg_name (i := 13) sc__law_presses.nd rfl (Or.inl rfl))) (fun _ _ _ _ _ => (pts_one (pt_cmpR op_ne (pv 13) (pv 9) (nomark _)))) (fun _ _ _ _ _ => (pv 13))) (pe_op op_rep (pe_lst (pa_cons (pv 9) pa_nil)) (pe_callTy call_int1 (by rfl) bt.m_int (by decide +kernel) (pa_cons (pe_cmpR op_eq (pv 11) pe_str (nomark _)) pa_nil)))))))))))))
      (pss_one (ps_ret (pv 6)))))), ?_⟩
    refine ⟨_, rfl, _, _, rfl, rfl, powW (n := 40) (k := 15) (by decide) (by decide), _, _, rfl, rfl, _, _, rfl, rfl, powW (n := 40) (k := 15) (by decide) (by decide), _, _, rfl, rfl, powW (n := 40) (k := 12) (by decide) (by decide), _, _, rfl, rfl, (by show 4 ≤ sizeLine; decide), fun W1 nW1 => ?_⟩
    have k1 := same_upd (o := .lst (([0, -5, 0 - 10 ^ (15 : Int).toNat, 10 ^ (15 : Int).toNat - 10 ^ (12 : Int).toNat] : List Int).map V.int)) nW1
    refine ⟨_, rfl, r, 4, k, rfl, by decide, by decide, by show k < 1000000000; omega, R.same k1, fun d1 H2 d10 d11 R2 o2 => ?_⟩
    have W1r : W1 ≠ r := R.new nW1
    have hW1 := o2 _ _ (upd_same (a := W1) (o := .lst (([0, -5, 0 - 10 ^ (15 : Int).toNat, 10 ^ (15 : Int).toNat - 10 ^ (12 : Int).toNat] : List Int).map V.int))) W1r
    obtain ⟨tick0, at0, mt0⟩ := getI (ns := ([0, -5, 0 - 10 ^ (15 : Int).toNat, 10 ^ (15 : Int).toNat - 10 ^ (12 : Int).toNat] : List Int)) d10 (by show d1 < 4; exact d11)
    have ht0 : -(10 ^ 16) ≤ tick0 ∧ tick0 ≤ 10 ^ 16 := by
      have hm := List.mem_of_getElem? mt0
      have e15 : (10 : Int) ^ (15 : Int).toNat = 10 ^ 15 := rfl
      have e12 : (10 : Int) ^ (12 : Int).toNat = 10 ^ 12 := rfl
      simp only [List.mem_cons, List.mem_nil_iff, or_false, e15, e12] at hm
      omega
    refine ⟨W1, _, d1, _, rfl, rfl, SqL.of hW1, at0, Nat.zero_le _, fun D0 nD0 => ⟨Nat.zero_le _, fun F nF => ⟨(by show 3 ≤ sizeLine; decide), fun T0 nT0 => ⟨T0, _, rfl, SqT.of upd_same, rfl, _, _, rfl, _, _, rfl, _, _, rfl, rfl, ?_⟩⟩⟩⟩
    have kD := same_upd (o := .lst []) nD0
    have kF := same_upd (o := .lst []) nF
    have kT := same_upd (o := .tup [.int tick0, .ref D0, .ref F]) nT0
    have o12 := (Off.of k1).trans o2
    have D0r : D0 ≠ r := R2.new nD0
    have Fr : F ≠ r := (R2.same kD).new nF
    have nDH : H D0 = none := R2.free o12 nD0
    have nFH : H F = none := (R2.same kD).free (o12.sameTrans kD) nF
    have DF : D0 ≠ F := ne_of_none upd_same nF
    have o3 := ((o12.sameTrans kD).sameTrans kF).sameTrans kT
    have R3 := ((R2.same kD).same kF).same kT
    have hD3 := (kF.trans kT) _ _ (upd_same (a := D0) (o := .lst []))
    have hF3 := kT _ _ (upd_same (a := F) (o := .lst []))
    refine (fun (G : ∀ H3 : Hp, Reel H3 r (k + 1) → Rm.Off r H H3 → H3 D0 = some (.lst []) → H3 F = some (.lst []) → _) => G _ R3 o3 hD3 hF3) (fun H3 R3 o3 hD3 hF3 => ?_)
    -- keys
    have mn : ∃ v : Nat, (if (4 : Int) < (m : Int) then (4 : Int) else (m : Int)) = (v : Int) ∧ 1 ≤ v ∧ v ≤ m := by
      by_cases z : (4 : Int) < (m : Int)
      · exact ⟨4, by rw [if_pos z]; rfl, by decide, by omega⟩
      · exact ⟨m, by rw [if_neg z], hm1, Nat.le_refl _⟩
    obtain ⟨mv, emv, mv1, mv2⟩ := mn
    refine ⟨_, rfl, _, _, rfl, ?_⟩
    rw [emv]
    refine ⟨_, rfl, (by show 2 ≤ sizeLine; decide), fun W2 nW2 => ?_⟩
    have k4 := same_upd (o := .lst (([(mv : Int), (m : Int)] : List Int).map V.int)) nW2
    refine ⟨_, rfl, r, 2, k + 1, rfl, by decide, by decide, by show _ < 1000000000; omega, R3.same k4, fun d2 H5 d20 d21 R5 o5 => ?_⟩
    have W2r : W2 ≠ r := R3.new nW2
    have hW2 := o5 _ _ (upd_same (a := W2) (o := .lst (([(mv : Int), (m : Int)] : List Int).map V.int))) W2r
    obtain ⟨kv, akv, mkv⟩ := getI (ns := ([(mv : Int), (m : Int)] : List Int)) d20 (by show d2 < 2; exact d21)
    obtain ⟨ks, rfl, hks1, hks2⟩ : ∃ ks : Nat, kv = (ks : Int) ∧ 1 ≤ ks ∧ ks ≤ m := by
      have hmm := List.mem_of_getElem? mkv
      simp only [List.mem_cons, List.mem_nil_iff, or_false] at hmm
      rcases hmm with rfl | rfl
      · exact ⟨mv, rfl, mv1, mv2⟩
      · exact ⟨m, rfl, hm1, Nat.le_refl _⟩
    have o35 := (Off.of k4).trans o5
    refine ⟨W2, _, d2, _, rfl, rfl, SqL.of hW2, akv, ?_⟩
    refine ⟨_, rfl, (size : Int), rfl, by omega, by omega, ?_⟩
    rw [Int.toNat_natCast]
    refine for_it walk_range (fun i σ H' => ∃ (tick : Int) (Dn : Addr) (ns : List Int) (es : List Ev) (y8 y9 y10 y11 y12 y13 : Option V), σ = [some (.ref r), some (.int (m : Int)), some (.int (size : Int)), some (.ref T), some (.int tick), some (.ref Dn), some (.ref F), some (.int (ks : Int)), y8, y9, y10, y11, y12, y13] ∧ Off r H H' ∧ Reel H' r (k + 2 + 15 * i) ∧ Dn ≠ r ∧ Dn ≠ F ∧
        H' Dn = some (.lst (ns.map V.int)) ∧ Lst evV H' F es ∧ RcOk m i es ∧ DownOk ns es ∧ (∀ x ∈ ns, 0 ≤ x ∧ x < (ks : Int)) ∧ ns.length ≤ i ∧ (∀ e ∈ es, e.t ≤ tick) ∧ -(10 ^ 16) ≤ tick ∧ tick ≤ 10 ^ 16 + i * 10 ^ 10)
      ⟨tick0, D0, [], [], _, _, _, _, _, _, rfl, o3.trans o35, R5, D0r, DF, o35 _ _ hD3 D0r, ⟨[], o35 _ _ hF3 Fr, Tups.nil⟩, ⟨Valid.nil, rfl, fun e h => by simp at h, fun e h => by simp at h⟩, DownOk.nil, fun x h => by simp at h, Nat.le_refl _, fun e h => by simp at h, ht0.1, by have := ht0.2; omega⟩ (fun _ _ _ _ _ => True.intro) (fun i x σ H6 H7 hi p y => ?_) (fun σ H6 p => ?_)
    · obtain ⟨tick, Dn, ns, es, y8, y9, y10, y11, y12, y13, rfl, o6, R6, Dr, DF6, hD6, hL6, rc, dn, hnk, hnl, hlast, tk1, tk2⟩ := p
      obtain ⟨rfl, rfl⟩ := y
      have hi' : i < size := hi
      -- free
      refine ⟨_, rfl, (ks : Int), rfl, by omega, by omega, ?_⟩
      rw [Int.toNat_natCast]
      refine fun Fe nFe => lc_it walk_range (fun j H' => Same H7 H' ∧ H' Fe = some (.lst (((nI j).filter fun x => !decide (x ∈ ns)).map V.int))) ⟨same_upd nFe, upd_same⟩ (fun _ _ _ _ => True.intro) (fun j x H8 H9 hj p y => ?_) (fun H8 p => ?_)
      · obtain ⟨rfl, rfl⟩ := y
        have hj' : j < ks := hj
        refine ⟨rfl, _, rfl, _, rfl, Dn, _, rfl, .inl (SqL.of (p.1 _ _ hD6)), rfl, flat_ints _, _, rfl, ?_⟩
        rw [inv_int]
        have en : nI (j + 1) = nI j ++ [(j : Int)] := by unfold nI; rw [List.range_succ, List.map_append]; rfl
        rw [en, List.filter_append]
        have e0 : (0 : Int) + (j : Int) = (j : Int) := Int.zero_add _
        rw [e0]
        refine ite2 (fun z => ?_) (fun z => ?_)
        · have z' : (!decide ((j : Int) ∈ ns)) = true := z
          refine ⟨_, rfl, _, p.2, ?_, Same.off p.1 nFe off_upd, ?_⟩
          · rw [List.length_map]
            have := List.length_filter_le (fun x => !decide (x ∈ ns)) (nI j)
            rw [nI_len] at this
            exact small1000 (by omega)
          · rw [upd_same, show List.filter (fun x => !decide (x ∈ ns)) [(j : Int)] = [(j : Int)] by rw [List.filter_cons, if_pos z']; rfl, List.map_append]
            show some (HO.lst (_ ++ [V.int (0 + (j : Int))])) = _
            rw [Int.zero_add]; rfl
        · have z' : ¬ (!decide ((j : Int) ∈ ns)) = true := z
          rw [show List.filter (fun x => !decide (x ∈ ns)) [(j : Int)] = [] by rw [List.filter_cons, if_neg z']; rfl, List.append_nil]
          exact p
      · obtain ⟨p1, hFe⟩ := p
        generalize hfr : (nI ks).filter (fun x => !decide (x ∈ ns)) = fr at *
        have frmem : ∀ x ∈ fr, (0 ≤ x ∧ x < (ks : Int)) ∧ ¬ x ∈ ns := fun x hx => by
          rw [← hfr] at hx
          obtain ⟨h1, h2⟩ := List.mem_filter.mp hx
          exact ⟨nI_mem.mp h1, fun h => by rw [decide_eq_true h] at h2; cases h2⟩
        have frnil : fr = [] → ns ≠ [] := fun h e => by
          have : (0 : Int) ∈ fr := by
            rw [← hfr]
            refine List.mem_filter.mpr ⟨nI_mem.mpr ⟨by decide, by omega⟩, ?_⟩
            rw [e]; rfl
          rw [h] at this
          simp at this
        have frlen : fr.length ≤ 10 := by
          have := List.length_filter_le (fun x => !decide (x ∈ ns)) (nI ks)
          rw [nI_len, hfr] at this
          omega
        have R8 := R6.same p1
        have o8 := o6.sameTrans p1
        have hD8 := p1 _ _ hD6
        have hL8 := hL6.same p1
        have Fer : Fe ≠ r := R6.new nFe
        have FeF : Fe ≠ F := by
          obtain ⟨asF, hF6, _⟩ := id hL6
          exact (ne_of_none hF6 nFe).symm
        have DFe : Dn ≠ Fe := ne_of_none hD6 nFe
        -- way
        refine ⟨fun σ' H' => ∃ (b : Bool) (y12 y13 : Option V), σ' = [some (.ref r), some (.int (m : Int)), some (.int (size : Int)), some (.ref T), some (.int tick), some (.ref Dn), some (.ref F), some (.int (ks : Int)), some (.int (0 + (i : Int))), y9, some (.ref Fe), some (.str (wayS b)), y12, y13] ∧ Off r H8 H' ∧ Reel H' r (k + 2 + 15 * i + 1) ∧ (b = true → fr ≠ []) ∧ (b = false → ns ≠ []), ?_, ?_⟩
        · refine ⟨_, rfl, Nat.zero_le _, fun E1 nE1 => ?_⟩
          have kE := same_upd (o := .lst []) nE1
          refine ⟨_, _, .lst (SqL.of (kE _ _ hFe)) (dpInts fr), .lst (SqL.of upd_same) .nil, shaped_ints _, shaped_nil, _, rfl, ?_⟩
          rw [eqv_nil, List.isEmpty_map]
          cases hf : fr with
          | nil =>
            refine iteT ⟨false, _, _, rfl, Off.of kE, (R8.same kE).mono (by omega), fun h => (by cases h), fun _ => frnil hf⟩
          | cons f0 frr =>
            refine iteF ⟨_, rfl, Nat.zero_le _, fun E2 nE2 => ?_⟩
            have kE2 := same_upd (o := .lst []) nE2
            have kk := kE.trans kE2
            refine ⟨_, _, .lst (SqL.of (kk _ _ hD8)) (dpInts ns), .lst (SqL.of upd_same) .nil, shaped_ints _, shaped_nil, !ns.isEmpty, congrArg V.bl (by rw [eqv_nil, List.isEmpty_map]), ?_⟩
            cases hn : ns with
            | nil => exact iteF (iteF ⟨true, _, _, rfl, Off.of kk, (R8.same kk).mono (by omega), fun _ => (by intro z; cases z), fun h => (by cases h)⟩)
            | cons n0 nr =>
              refine iteT ⟨_, rfl, r, 4, k + 2 + 15 * i, rfl, by decide, by decide, by show _ < 1000000000; omega, R8.same kk, fun d3 H9 d30 d31 R9 o9 => ⟨rfl, _, rfl, ite2 (fun z => ?_) (fun z => ?_)⟩⟩
              · exact ⟨false, _, _, rfl, (Off.of kk).trans o9, R9, fun h => (by cases h), fun _ => (by intro z; cases z)⟩
              · exact ⟨true, _, _, rfl, (Off.of kk).trans o9, R9, fun _ => (by intro z; cases z), fun h => (by cases h)⟩
        · rintro σ' H9 ⟨b, y12, y13, rfl, o9, R9, hbt, hbf⟩
          have hD9 := o9 _ _ hD8 Dr
          have hFe9 := o9 _ _ hFe Fer
          have hL9 := R8.lst hL8 Fr o9
          -- some
          refine ⟨_, rfl, _, rfl, (by show 2 ≤ sizeLine; decide), fun W3 nW3 => ?_⟩
          have k10 := same_upd (o := .lst [.ref Dn, .ref Fe]) nW3
          refine ⟨_, rfl, rfl, .inr ⟨_, rfl, ?_⟩⟩
          rw [wayS_down]
          obtain ⟨Ch, ch, hat, hCh, hne, hchk, hchl, Chr⟩ : ∃ (Ch : Addr) (ch : List Int), atI [V.ref Dn, V.ref Fe] (if b = true then 1 else 0) = some (.ref Ch) ∧ H9 Ch = some (.lst (ch.map V.int)) ∧ ch ≠ [] ∧ (∀ x ∈ ch, (0 ≤ x ∧ x < (ks : Int)) ∧ (b = true → ¬ x ∈ ns) ∧ (b = false → x ∈ ns)) ∧ ch.length ≤ 1000 ∧ Ch ≠ r := by
            cases b with
            | true => exact ⟨Fe, fr, rfl, hFe9, hbt rfl, fun x hx => ⟨(frmem x hx).1, fun _ => (frmem x hx).2, fun h => by cases h⟩, by omega, Fer⟩
            | false => exact ⟨Dn, ns, rfl, hD9, hbf rfl, fun x hx => ⟨hnk x hx, fun h => (by cases h), fun _ => hx⟩, by omega, Dr⟩
          have hpos : 0 < ch.length := by
            cases ch with
            | nil => exact absurd rfl hne
            | cons _ _ => exact Nat.succ_pos _
          refine ⟨W3, _, _, _, rfl, rfl, SqL.of upd_same, hat, ?_⟩
          have hCh10 := k10 _ _ hCh
          refine ⟨_, rfl, _, rfl, _, rfl, Ch, _, rfl, .inl (SqL.of hCh10), r, _, k + 2 + 15 * i + 1, rfl, by rw [List.length_map]; omega, by rw [List.length_map]; omega, by show _ < 1000000000; omega, R9.same k10, fun d4 H11 d40 d41 R11 o11 => ?_⟩
          rw [List.length_map] at d41
          obtain ⟨key, akey, mkey⟩ := getI (ns := ch) d40 d41
          obtain ⟨hk1, hk2, hk3⟩ := hchk key (List.mem_of_getElem? mkey)
          refine ⟨Ch, _, d4, _, rfl, rfl, SqL.of (o11 _ _ hCh10 Chr), akey, ?_⟩
          have o911 := (Off.of k10).trans o11
          have hT11 : H11 T = some (.lst (ts.map V.int)) := o911 _ _ (o9 _ _ (o8 _ _ hT Tr) Tr) Tr
          refine ⟨_, rfl, _, rfl, _, rfl, r, T, k + 2 + 15 * i + 2, ts, rfl, R11, by show _ < 1000000000; omega, hT11, Tr, l0, l1, hts, fun H12 dt o12 R12 dt0 dt1 => ⟨_, _, rfl, rfl, ?_⟩⟩
          have o912 := o911.trans o12
          have hL12 := R9.lst hL9 Fr o912
          have hD12 := o912 _ _ hD9 Dr
          have oH12 := (o8.trans o9).trans o912
          obtain ⟨asF, hF12, hTF⟩ := id hL12
          have hal := hTF.1
          have hrl := rc.len
          -- found.append
          refine ⟨_, rfl, .inl ⟨rfl, _, SqL.of hF12⟩, _, rfl, _, rfl, _, rfl, (by show 3 ≤ sizeLine; decide), fun p np => ?_⟩
          have kp := same_upd (o := .tup [.int (tick + dt), .int key, .str (wayS b)]) np
          have hF13 := kp _ _ hF12
          have pF : p ≠ F := (ne_of_none hF12 np).symm
          refine ⟨F, _, .ref p, rfl, rfl, hF13, by rw [List.length_map, hal]; exact small1000 (by omega), ?_⟩
          have hD14 : upd (upd H12 p (.tup [.int (tick + dt), .int key, .str (wayS b)])) F (.lst (asF.map V.ref ++ [.ref p])) Dn = some (.lst (ns.map V.int)) := by rw [upd_ne DF6]; exact kp _ _ hD12
          have R14 := (R12.same kp).upd (o := .lst (asF.map V.ref ++ [.ref p])) Fr
          have o14 := (oH12.sameTrans kp).new (o := .lst (asF.map V.ref ++ [.ref p])) nFH
          have hL14 : Lst evV (upd (upd H12 p (.tup [.int (tick + dt), .int key, .str (wayS b)])) F (.lst (asF.map V.ref ++ [.ref p]))) F (es ++ [⟨tick + dt, key, b⟩]) :=
            ⟨asF ++ [p], by rw [upd_same, List.map_append]; rfl, Tups.snoc ((hTF.same kp).off hF13 off_upd) (by rw [upd_ne pF]; exact upd_same)⟩
          refine (fun (G : ∀ H14 : Hp, H14 Dn = some (.lst (ns.map V.int)) → Reel H14 r (k + 2 + 15 * i + 12) → Rm.Off r H H14 → Lst evV H14 F (es ++ [⟨tick + dt, key, b⟩]) → _) => G _ hD14 (R14.mono (by omega)) o14 hL14) (fun H14 hD14 R14 o14 hL14 => ?_)
          have hheld : heldB es key = !b := by
            cases b with
            | true =>
              cases h : heldB es key with
              | false => rfl
              | true => exact absurd ((dn.mem key).mpr h) (hk2 rfl)
            | false => exact (dn.mem key).mp (hk3 rfl)
          have hv : Valid (es ++ [⟨tick + dt, key, b⟩]) := rc.valid.snoc hk1.1 hheld fun e he => by have := hlast e he; show e.t ≤ tick + dt; omega
          -- down
          refine ⟨_, rfl, Dn, rfl, ⟨_, SqL.of hD14⟩, fun M nM => lc_it (walk_list (xs := ns.map V.int)) (fun j H' => Same H14 H' ∧ H' M = some (.lst (((ns.take j).filter fun x => !decide (x = key)).map V.int))) ⟨same_upd nM, upd_same⟩ (fun j H' _ p => SqL.of (p.1 _ _ hD14)) (fun j x H15 H16 hj p y => ?_) (fun H15 p => ?_)⟩
          · obtain ⟨rfl, e2⟩ := y
            have hj' : j < ns.length := by rw [List.length_map] at hj; exact hj
            have ex : V.int ns[j] = x := Option.some.inj ((get_map_int (List.getElem?_eq_getElem hj')).symm.trans e2)
            subst ex
            refine ⟨rfl, _, rfl, _, rfl, rfl, _, rfl, ?_⟩
            rw [List.take_add_one, List.getElem?_eq_getElem hj', List.filter_append]
            have ed : (!decide (V.int ns[j] = V.int key)) = !decide (ns[j] = key) := by
              by_cases z : ns[j] = key
              · rw [z]; simp
              · rw [decide_eq_false z, decide_eq_false (fun e => z (V.int.inj e))]
            rw [ed]
            refine ite2 (fun z => ?_) (fun z => ?_)
            · refine ⟨_, rfl, _, p.2, ?_, Same.off p.1 nM off_upd, ?_⟩
              · rw [List.length_map]
                have := List.length_filter_le (fun x => !decide (x = key)) (ns.take j)
                rw [List.length_take] at this
                exact small1000 (by omega)
              · rw [upd_same, show List.filter (fun x => !decide (x = key)) (some ns[j]).toList = [ns[j]] by show List.filter _ [ns[j]] = _; rw [List.filter_cons, if_pos z]; rfl, List.map_append]; rfl
            · rw [show List.filter (fun x => !decide (x = key)) (some ns[j]).toList = [] by show List.filter _ [ns[j]] = _; rw [List.filter_cons, if_neg z]; rfl, List.append_nil]
              exact p
          · obtain ⟨p1', hM⟩ := p
            rw [List.length_map, List.take_length] at hM
            generalize hfl : ns.filter (fun x => !decide (x = key)) = kept at *
            have hkl : kept.length ≤ ns.length := by rw [← hfl]; exact List.length_filter_le _ _
            refine ⟨_, rfl, (by show 1 ≤ sizeLine; decide), fun W4 nW4 => ?_⟩
            have k16 := same_upd (o := .lst [.int key]) nW4
            refine ⟨_, rfl, rfl, .inr ⟨_, rfl, ?_⟩⟩
            rw [wayS_down]
            have hb01 : (0 : Int) ≤ (if b = true then 1 else 0) ∧ (if b = true then (1 : Int) else 0) ≤ 1 := by cases b <;> decide
            refine ⟨W4, _, _, rfl, rfl, upd_same, by omega, by omega, by show 1 * (if b = true then (1 : Int) else 0).toNat ≤ sizeLine; rw [sizeLine_eq]; omega, fun W5 nW5 => ?_⟩
            have k17 := same_upd (o := .lst (List.replicate (if b = true then (1 : Int) else 0).toNat [V.int key]).flatten) nW5
            refine ⟨M, W5, _, _, rfl, rfl, (k16.trans k17) _ _ hM, upd_same, ?_, fun D2 nD2 => ?_⟩
            · rw [List.length_map]
              cases b
              · show _ + 0 ≤ sizeLine; rw [sizeLine_eq]; omega
              · show _ + 1 ≤ sizeLine; rw [sizeLine_eq]; omega
            have ends : ∃ ns2 : List Int, kept.map V.int ++ (List.replicate (if b = true then (1 : Int) else 0).toNat [V.int key]).flatten = ns2.map V.int ∧ DownOk ns2 (es ++ [⟨tick + dt, key, b⟩]) ∧ (∀ x ∈ ns2, 0 ≤ x ∧ x < (ks : Int)) ∧ ns2.length ≤ i + 1 := by
              have km : ∀ x, x ∈ kept ↔ x ≠ key ∧ x ∈ ns := fun x => by
                rw [← hfl, List.mem_filter]
                constructor
                · rintro ⟨h1, h2⟩
                  exact ⟨fun e => (by rw [decide_eq_true e] at h2; cases h2), h1⟩
                · rintro ⟨h1, h2⟩
                  exact ⟨h2, by rw [decide_eq_false h1]; rfl⟩
              have knd : kept.Nodup := by rw [← hfl]; exact dn.nd.filter _
              cases b with
              | true =>
                refine ⟨kept ++ [key], by rw [List.map_append]; rfl, ⟨nd_snoc knd (fun h => ((km key).mp h).1 rfl), fun x => ?_⟩, fun x hx => ?_, by rw [List.length_append, List.length_singleton]; omega⟩
                · rw [heldB_snoc]
                  unfold after
                  rw [List.mem_append, List.mem_singleton, km]
                  by_cases z : x = key
                  · subst z; simp
                  · rw [if_neg (show ¬ x = (⟨tick + dt, key, true⟩ : Ev).k from z), ← dn.mem x]; simp [z]
                · rcases List.mem_append.mp hx with h | h
                  · exact hnk x ((km x).mp h).2
                  · rw [List.mem_singleton.mp h]; exact hk1
              | false =>
                refine ⟨kept, List.append_nil _, ⟨knd, fun x => ?_⟩, fun x hx => hnk x ((km x).mp hx).2, by omega⟩
                rw [heldB_snoc]
                unfold after
                rw [km]
                by_cases z : x = key
                · subst z; simp
                · rw [if_neg (show ¬ x = (⟨tick + dt, key, false⟩ : Ev).k from z), ← dn.mem x]; simp [z]
            obtain ⟨ns2, e2, dn2, hnk2, hnl2⟩ := ends
            rw [e2]
            have k18 := same_upd (o := .lst (ns2.map V.int)) nD2
            have sF := ((p1'.trans k16).trans k17).trans k18
            have hL18 := hL14.same sF
            have R18 := R14.same sF
            have D2r : D2 ≠ r := (R14.same ((p1'.trans k16).trans k17)).new nD2
            have D2F : D2 ≠ F := by
              obtain ⟨asG, hG, _⟩ := id (hL14.same ((p1'.trans k16).trans k17))
              exact (ne_of_none hG nD2).symm
            have e10 : ((i + 1 : Nat) : Int) * 10 ^ 10 = (i : Int) * 10 ^ 10 + 10 ^ 10 := by rw [Int.natCast_add, Int.add_mul]; rfl
            refine ⟨tick + dt, D2, ns2, es ++ [⟨tick + dt, key, b⟩], _, _, _, _, _, _, rfl, o14.sameTrans sF, R18.mono (by omega), D2r, D2F, upd_same, hL18, ⟨hv, by rw [List.length_append, hrl]; rfl, fun e he => ?_, fun e he => ?_⟩, dn2, hnk2, hnl2, fun e he => ?_, by omega, by omega⟩
            · rcases List.mem_append.mp he with h | h
              · exact rc.key e h
              · rw [List.mem_singleton.mp h]
                show 0 ≤ key ∧ key < (m : Int)
                omega
            · rcases List.mem_append.mp he with h | h
              · exact rc.tick e h
              · rw [List.mem_singleton.mp h]
                show -(10 ^ 20) < tick + dt ∧ tick + dt < 10 ^ 20
                omega
            · rcases List.mem_append.mp he with h | h
              · have := hlast e h; omega
              · rw [List.mem_singleton.mp h]; exact Int.le_refl _
    · obtain ⟨tick, Dn, ns, es, y8, y9, y10, y11, y12, y13, rfl, o6, R6, Dr, DF6, hD6, hL6, rc, _⟩ := p
      exact ⟨_, rfl, q H6 F es o6 nFH (R6.mono (by omega)) hL6 rc⟩
end
end K28

set_option Elab.async false
set_option linter.all false
set_option maxRecDepth 100000
set_option maxHeartbeats 8000000
namespace K28
open PySem PySem.Spec PyProof.Rows L2 Gd Rm La Cb Pl
/-! ### the keys that were sent -/
def optI : Option Int → V
  | none => .non
  | some t => .int t
abbrev Sn := List (Int × Option Int)
def snK (s : Sn) : List (Key × V) := s.map fun p => ((Sum.inl p.1 : Key), optI p.2)
def putS (s : Sn) (k : Int) (v : Option Int) : Sn := if (s.any fun p => decide (p.1 = k)) = true then s.map (fun p => if p.1 = k then (p.1, v) else p) else s ++ [(k, v)]
def dropS (s : Sn) (k : Int) : Sn := s.filter fun p => decide (p.1 ≠ k)
def getS (s : Sn) (k : Int) : Option (Option Int) := (s.find? fun p => decide (p.1 = k)).map (·.2)
theorem snK_any (k : Int) : ∀ s : Sn, ((snK s).any fun p => decide (p.1 = (Sum.inl k : Key))) = s.any fun p => decide (p.1 = k)
  | [] => rfl
  | p :: s => by
    show (decide ((Sum.inl p.1 : Key) = Sum.inl k) || (snK s).any _) = (decide (p.1 = k) || s.any _)
    rw [snK_any k s, decide_eq_decide.mpr (inl_iff (a := p.1) (b := k))]
theorem snK_put (s : Sn) (k : Int) (v : Option Int) : putK (snK s) (Sum.inl k) (optI v) = snK (putS s k v) := by
  unfold putK putS
  rw [snK_any]
  split
  · unfold snK
    rw [List.map_map, List.map_map]
    refine List.map_congr_left fun p _ => ?_
    show (if (Sum.inl p.1 : Key) = Sum.inl k then (Sum.inl p.1, optI v) else (Sum.inl p.1, optI p.2)) = (Sum.inl (if p.1 = k then (p.1, v) else p).1, optI (if p.1 = k then (p.1, v) else p).2)
    by_cases z : p.1 = k
    · rw [if_pos (by rw [z]), if_pos z]
    · rw [if_neg (fun e => z (Sum.inl.inj e)), if_neg z]
  · unfold snK
    rw [List.map_append]
    rfl
theorem snK_drop (k : Int) : ∀ s : Sn, dropK (snK s) (Sum.inl k) = snK (dropS s k)
  | [] => rfl
  | p :: s => by
    have ih := snK_drop k s
    unfold dropK dropS snK at *
    rw [List.map_cons]
    by_cases z : p.1 = k
    · rw [List.filter_cons_of_neg (by simp [z]), List.filter_cons_of_neg (by simp [z])]
      exact ih
    · have z2 : ¬ (Sum.inl p.1 : Key) = Sum.inl k := fun e => z (Sum.inl.inj e)
      rw [List.filter_cons_of_pos (by simp [z2]), List.filter_cons_of_pos (by simp [z]), List.map_cons, ih]
theorem snK_get (k : Int) : ∀ s : Sn, valV (snK s) (Sum.inl k) = (getS s k).map optI
  | [] => rfl
  | p :: s => by
    have ih := snK_get k s
    by_cases z : p.1 = k
    · rw [show snK (p :: s) = ((Sum.inl p.1 : Key), optI p.2) :: snK s from rfl, valV_pos (by rw [z])]
      unfold getS
      rw [List.find?_cons_of_pos (by simp [z])]
      rfl
    · rw [show snK (p :: s) = ((Sum.inl p.1 : Key), optI p.2) :: snK s from rfl, valV_neg (fun e => z (Sum.inl.inj e)), ih]
      unfold getS
      rw [List.find?_cons_of_neg (by simp [z])]
theorem putS_len (s : Sn) (k : Int) (v : Option Int) : (putS s k v).length ≤ s.length + 1 := by
  unfold putS
  split
  · rw [List.length_map]; omega
  · rw [List.length_append]; exact Nat.le_refl _
theorem dropS_len (s : Sn) (k : Int) : (dropS s k).length ≤ s.length := List.length_filter_le ..
theorem putS_keys (k : Int) (v : Option Int) (s : Sn) : (putS s k v).map (·.1) = if (s.any fun p => decide (p.1 = k)) = true then s.map (·.1) else s.map (·.1) ++ [k] := by
  unfold putS
  split
  · rw [List.map_map]
    refine List.map_congr_left fun p _ => ?_
    show (if p.1 = k then (p.1, v) else p).1 = p.1
    split <;> rfl
  · rw [List.map_append]
    rfl
theorem putS_nd {s : Sn} (h : (s.map (·.1)).Nodup) (k : Int) (v : Option Int) : ((putS s k v).map (·.1)).Nodup := by
  rw [putS_keys]
  split
  · exact h
  · rename_i z
    refine List.nodup_append.mpr ⟨h, by simp, fun a ha b hb => ?_⟩
    have hb : b = k := by simpa using hb
    rintro rfl
    subst hb
    obtain ⟨p, hp, e⟩ := List.mem_map.mp ha
    exact z (List.any_eq_true.mpr ⟨p, hp, decide_eq_true e⟩)
theorem dropS_nd {s : Sn} (h : (s.map (·.1)).Nodup) (k : Int) : ((dropS s k).map (·.1)).Nodup := h.sublist ((List.filter_sublist).map _)
theorem getS_put (s : Sn) (k j : Int) (v : Option Int) : getS (putS s k v) j = if j = k then some v else getS s j := by
  have h := valV_put (snK s) (Sum.inl k : Key) (Sum.inl j) (optI v)
  rw [snK_put, snK_get, snK_get] at h
  have inj : ∀ a b : Option Int, optI a = optI b → a = b := fun a b e => match a, b, e with
    | none, none, _ => rfl
    | none, some _, e => by cases e
    | some _, none, e => by cases e
    | some _, some _, e => congrArg some (V.int.inj e)
  by_cases z : j = k
  · rw [if_pos (by rw [z])] at h
    rw [if_pos z]
    cases q : getS (putS s k v) j with
    | none => rw [q] at h; cases h
    | some u => rw [q] at h; exact congrArg some (inj _ _ (Option.some.inj h))
  · rw [if_neg (fun e => z (Sum.inl.inj e))] at h
    rw [if_neg z]
    cases q : getS (putS s k v) j with
    | none =>
      rw [q] at h
      cases q2 : getS s j with
      | none => rfl
      | some u => rw [q2] at h; cases h
    | some u =>
      rw [q] at h
      cases q2 : getS s j with
      | none => rw [q2] at h; cases h
      | some u2 => rw [q2] at h; exact congrArg some (inj _ _ (Option.some.inj h))
/-! ### the gate, as numbers -/
def wideC (cbs : List Cmb) (ds : List Ev) : List Cmb := cbs.filter fun c => decide (ds.length < c.ks.length) && (ds.map Ev.k).all fun k => decide (k ∈ c.ks)
def dueG (cbs : List Cmb) : List Ev → Option Int
  | [] => none
  | e :: r => some (e.t + maxOr 0 ((wideC cbs (e :: r)).map Cmb.t))
open Classical in
noncomputable def spotF (cbs : List Cmb) (ds : List Ev) : Option Nat := if h : ∃ o, FpAt cbs ds o then h.choose else none
theorem spot_eq {m : Int} {cbs : List Cmb} {ds : List Ev} {o : Option Nat} (ok : CbsOk m cbs) (h : FpAt cbs ds o) : spotF cbs ds = o := by
  unfold spotF
  rw [dif_pos ⟨o, h⟩]
  exact FpAt.uniq ok (Exists.choose_spec (⟨o, h⟩ : ∃ o, FpAt cbs ds o)) h
noncomputable def ownG (m : Int) (cbs : List Cmb) (ds : List Ev) : Int := match spotF cbs ds with
  | none => (ds.getD 0 ⟨0, 0, true⟩).k
  | some i => m + i
def sentS (own : Int) (s : Sn) (ks : List Int) : Sn := ks.foldl (fun s k => putS s k (some own)) s
theorem sentS_len (own : Int) : ∀ (ks : List Int) (s : Sn), (sentS own s ks).length ≤ s.length + ks.length
  | [], s => Nat.le_refl _
  | k :: ks, s => by
    have := sentS_len own ks (putS s k (some own))
    have := putS_len s k (some own)
    show (sentS own (putS s k (some own)) ks).length ≤ s.length + (ks.length + 1)
    omega
theorem sentS_snoc (own : Int) (s : Sn) (ks : List Int) (k : Int) : sentS own s (ks ++ [k]) = putS (sentS own s ks) k (some own) := by
  unfold sentS
  rw [List.foldl_append]
  rfl
theorem sentS_nd (own : Int) : ∀ (ks : List Int) (s : Sn), (s.map (·.1)).Nodup → ((sentS own s ks).map (·.1)).Nodup
  | [], _, h => h
  | k :: ks, s, h => sentS_nd own ks _ (putS_nd h k _)
/-! ### the object -/
theorem lk_eq {f : Str} {v : V} {r : List (Str × V)} : ((f, v) :: r).lookup f = some v := by
  rw [List.lookup_cons, beq_self_eq_true]
theorem lk_ne {f g : Str} {v : V} {r : List (Str × V)} (h : f ≠ g) : ((g, v) :: r).lookup f = r.lookup f := by
  rw [List.lookup_cons, beq_false_of_ne h]
theorem pf_eq {f : Str} {x v : V} {r : List (Str × V)} : putF f v ((f, x) :: r) = (f, v) :: r := if_pos rfl
theorem pf_ne {f g : Str} {x v : V} {r : List (Str × V)} (h : g ≠ f) : putF f v ((g, x) :: r) = (g, x) :: putF f v r := if_neg h
def gflds (m : Int) (cc D S : Addr) : List (Str × V) := [("many", .int m), ("combos", .ref cc), ("downs", .ref D), ("sent", .ref S)]
section
variable {m : Int} {cc D S : Addr}
theorem gf_many : (gflds m cc D S).lookup ("many" : Str) = some (.int m) := lk_eq
theorem gf_combos : (gflds m cc D S).lookup ("combos" : Str) = some (.ref cc) := by
  unfold gflds
  rw [lk_ne (by decide +kernel), lk_eq]
theorem gf_downs : (gflds m cc D S).lookup ("downs" : Str) = some (.ref D) := by
  unfold gflds
  rw [lk_ne (by decide +kernel), lk_ne (by decide +kernel), lk_eq]
theorem gf_sent : (gflds m cc D S).lookup ("sent" : Str) = some (.ref S) := by
  unfold gflds
  rw [lk_ne (by decide +kernel), lk_ne (by decide +kernel), lk_ne (by decide +kernel), lk_eq]
theorem gf_no {n : Str} (h : n ∉ ([("many" : String), "combos", "downs", "sent"].map Str.ofString)) : (gflds m cc D S).lookup n = none := by
  simp only [List.map_cons, List.map_nil, List.mem_cons, List.mem_nil_iff, or_false, not_or] at h
  unfold gflds
  rw [lk_ne h.1, lk_ne h.2.1, lk_ne h.2.2.1, lk_ne h.2.2.2]
  rfl
theorem gf_put {D' : Addr} : putF "downs" (.ref D') (gflds m cc D S) = gflds m cc D' S := by
  unfold gflds
  rw [pf_ne (by decide +kernel), pf_ne (by decide +kernel), pf_eq]
theorem gf_new : putF "sent" (.ref S) (putF "downs" (.ref D) (putF "combos" (.ref cc) (putF "many" (.int m) []))) = gflds m cc D S := by
  show putF "sent" (.ref S) (putF "downs" (.ref D) (putF "combos" (.ref cc) [("many", .int m)])) = _
  rw [pf_ne (by decide +kernel)]
  show putF "sent" (.ref S) (putF "downs" (.ref D) [("many", .int m), ("combos", .ref cc)]) = _
  rw [pf_ne (by decide +kernel), pf_ne (by decide +kernel)]
  show putF "sent" (.ref S) [("many", .int m), ("combos", .ref cc), ("downs", .ref D)] = _
  rw [pf_ne (by decide +kernel), pf_ne (by decide +kernel), pf_ne (by decide +kernel)]
  rfl
end
structure Gp (K : PySem.W.Frag) (C : Addr) : Prop where
  cl : Cls K C
  n1 : NoAttr K C "many"
  n2 : NoAttr K C "combos"
  n3 : NoAttr K C "downs"
  n4 : NoAttr K C "sent"
structure GSt (C : Addr) (Hb H : Hp) (o cc D S : Addr) (m : Int) (cbs : List Cmb) (n : Nat) (ds : List Ev) (sn : Sn) : Prop where
  ob : ∃ dx, H o = some (.ins C dx (gflds m cc D S))
  dn : Lst tkV H D ds
  st : H S = some (.dK (snK sn))
  cb : Cmbs Hb cc cbs
  ok : CbsOk m cbs
  sb : Same Hb H
  fr : Hb o = none ∧ Hb D = none ∧ Hb S = none
  few : sn.length + ds.length ≤ n
  n4 : n ≤ 400
  nd : (sn.map (·.1)).Nodup
def Off3 (o D S : Addr) (H H' : Hp) : Prop := ∀ b u, H b = some u → b ≠ o → b ≠ D → b ≠ S → H' b = some u
theorem Off3.of {o D S : Addr} {H H' : Hp} (s : Same H H') : Off3 o D S H H' := fun b u h _ _ _ => s b u h
/-- what a method changes -/
structure Goes (o D S D' : Addr) (H H' : Hp) : Prop where
  off : Off3 o D S H H'
  nw : D' = D ∨ H D' = none
  al : ∀ b, H' b = none → H b = none
theorem same_al {H H' : Hp} (s : Same H H') (b : Addr) (h : H' b = none) : H b = none := by
  cases z : H b with
  | none => rfl
  | some u => rw [s _ _ z] at h; cases h
section
variable {C : Addr} {Hb H H1 H2 : Hp} {o cc D D1 D2 S : Addr} {m : Int} {cbs : List Cmb} {n n1 : Nat} {ds ds1 : List Ev} {sn sn1 : Sn}
theorem Goes.of (s : Same H H1) : Goes o D S D H H1 := ⟨Off3.of s, .inl rfl, same_al s⟩
theorem GSt.same (h : GSt C Hb H o cc D S m cbs n ds sn) (s : Same H H1) : GSt C Hb H1 o cc D S m cbs n ds sn := by
  obtain ⟨dx, a⟩ := h.ob
  exact { h with ob := ⟨dx, s _ _ a⟩, dn := h.dn.same s, st := s _ _ h.st, sb := h.sb.trans s }
theorem Goes.trans (h : Goes o D S D1 H H1) (g : GSt C Hb H1 o cc D1 S m cbs n ds sn) (h2 : Goes o D1 S D2 H1 H2) : Goes o D S D2 H H2 := by
  refine ⟨fun b u hb n1 n2 n3 => ?_, ?_, fun b hb => h.al _ (h2.al _ hb)⟩
  · refine h2.off _ _ (h.off _ _ hb n1 n2 n3) n1 (fun z => ?_) n3
    rcases h.nw with e | e
    · exact n2 (z.trans e)
    · rw [← z, hb] at e; cases e
  · rcases h2.nw with e | e
    · rw [e]; exact h.nw
    · by_cases z : D2 = D
      · exact .inl z
      · refine .inr ?_
        cases q : H D2 with
        | none => rfl
        | some u =>
          have : H1 D2 = some u := h.off _ _ q (fun y => by
            obtain ⟨dx, a⟩ := g.ob
            rw [y, a] at e; cases e) z (fun y => by rw [y, g.st] at e; cases e)
          rw [e] at this; cases this
theorem GSt.sep (h : GSt C Hb H o cc D S m cbs n ds sn) : o ≠ D ∧ o ≠ S ∧ D ≠ S := by
  obtain ⟨dx, a⟩ := h.ob
  obtain ⟨as, b, _⟩ := h.dn
  exact ⟨ne_of a b (by intro z; cases z), ne_of a h.st (by intro z; cases z), ne_of b h.st (by intro z; cases z)⟩
theorem GSt.back (h : GSt C Hb H o cc D S m cbs n ds sn) (g : Off3 o D S H H1) : Same Hb H1 := fun b u hb => by
  obtain ⟨f1, f2, f3⟩ := h.fr
  exact g _ _ (h.sb _ _ hb) (ne_of_none hb f1) (ne_of_none hb f2) (ne_of_none hb f3)
theorem GSt.tk (h : GSt C Hb H o cc D S m cbs n ds sn) (g : Off3 o D S H H1) : Tk H H1 := fun b xs hb => by
  obtain ⟨dx, a⟩ := h.ob
  obtain ⟨as, e1, _⟩ := h.dn
  exact g _ _ hb (ne_of hb a (by intro z; cases z)) (ne_of hb e1 (by intro z; cases z)) (ne_of hb h.st (by intro z; cases z))
end
section
variable {P : Program} {w : World} {K : PySem.W.Frag} {mg : Str → Option Value} {base : Heap}
def spGInit (C : Addr) : Sp := fun vs H Q _ => ∃ (o dx cc : Addr) (m : Int) (cbs : List Cmb), vs = [.ref o, .int m, .ref cc] ∧ H o = some (.ins C dx []) ∧ Cmbs H cc cbs ∧
  ∀ (H' : Hp) (D S : Addr), H D = none → H S = none → H' o = some (.ins C dx (gflds m cc D S)) → H' D = some (.lst []) → H' S = some (.dK []) → (∀ b u, H b = some u → b ≠ o → H' b = some u) → Q .non H'
theorem ok_Gate_init (bt : Bt mg) {C : Addr} (gp : Gp K C) (a : AtI K mg C "Gate" "Gate.__init__" s_Gate_init ["self", "many", "combos"]) : ClI P w K mg base 1 C "Gate" (spGInit C) := by
  refine clIG a sc_Gate_init (fun vs H Q E h => ?_) (fun f cdv A outer s H vs Q hg hr h => ?_)
  · obtain ⟨o, dx, cc, m, cbs, rfl, _⟩ := h
    rfl
  · obtain ⟨o, dx, cc, m, cbs, rfl, ho, hc, q⟩ := h
    refine ⟨_, (pss_cons (ps_fld (pv 0) (pv 1) rfl)
      (pss_cons (ps_fld (pv 0) (pv 2) rfl)
      (pss_cons (ps_fld (pv 0) (pe_lst pa_nil) rfl)
      (pss_one (ps_fld (pv 0) pe_dnewK rfl))))), ?_⟩
    refine ⟨_, rfl, _, rfl, o, C, dx, _, rfl, ho, gp.cl, gp.n1, (by show 0 < 1000; decide), ?_⟩
    refine (fun (X : ∀ H1 : Hp, Off o H H1 → H1 o = some (.ins C dx (putF "many" (.int m) [])) → _) => X _ off_upd upd_same) (fun H1 o1 hp1 => ?_)
    refine ⟨_, rfl, _, rfl, o, C, dx, _, rfl, hp1, gp.cl, gp.n2, (by show 1 < 1000; decide), ?_⟩
    refine (fun (X : ∀ H2 : Hp, Off o H H2 → H2 o = some (.ins C dx (putF "combos" (.ref cc) (putF "many" (.int m) []))) → _) => X _ (o1.trans off_upd) upd_same) (fun H2 o2 hp2 => ?_)
    refine ⟨Nat.zero_le _, fun D nD => ?_⟩
    have kD := same_upd (o := .lst []) nD
    have D0 : H D = none := o2.free hp2 nD
    have Do : D ≠ o := fun z => by rw [z, ho] at D0; cases D0
    refine ⟨_, rfl, o, C, dx, _, rfl, kD _ _ hp2, gp.cl, gp.n3, ?_, ?_⟩
    · show (putF "combos" _ [(("many" : Str), _)]).length < 1000
      rw [pf_ne (by decide +kernel)]
      show 2 < 1000
      decide
    refine (fun (X : ∀ H3 : Hp, Off o H H3 → H3 o = some (.ins C dx (putF "downs" (.ref D) (putF "combos" (.ref cc) (putF "many" (.int m) [])))) → H3 D = some (.lst []) → _) => X _ ((o2.sameTrans kD).trans off_upd) upd_same (by rw [upd_ne Do]; exact upd_same)) (fun H3 o3 hp3 hD3 => ?_)
    refine fun S nS => ?_
    have kS := same_upd (o := .dK []) nS
    have S0 : H S = none := o3.free hp3 nS
    have So : S ≠ o := fun z => by rw [z, ho] at S0; cases S0
    refine ⟨_, rfl, o, C, dx, _, rfl, kS _ _ hp3, gp.cl, gp.n4, ?_, ?_⟩
    · show (putF "downs" _ (putF "combos" _ [(("many" : Str), _)])).length < 1000
      rw [pf_ne (by decide +kernel)]
      show (putF "downs" _ [(("many" : Str), _), (("combos" : Str), _)]).length < 1000
      rw [pf_ne (by decide +kernel), pf_ne (by decide +kernel)]
      show 3 < 1000
      decide
    refine q _ D S D0 S0 (by rw [upd_same, gf_new]) (by rw [upd_ne Do]; exact kS _ _ hD3) (by rw [upd_ne So]; exact upd_same) (fun b u hb nb => ?_)
    rw [upd_ne nb]
    exact kS _ _ (o3 _ _ hb nb)
end
end K28

set_option Elab.async false
set_option linter.all false
set_option maxRecDepth 100000
set_option maxHeartbeats 8000000
namespace K28
open PySem PySem.Spec PyProof.Rows L2 Gd Rm La Cb Pl
theorem take_map {α β : Type} {g : α → β} {xs : List α} {j : Nat} (h : j < xs.length) : (xs.take (j + 1)).map g = (xs.take j).map g ++ [g xs[j]] := by
  rw [List.take_add_one, List.getElem?_eq_getElem h, List.map_append]
  rfl
theorem filt_take {α : Type} {p : α → Bool} {xs : List α} {j : Nat} (hj : j < xs.length) : (xs.take (j + 1)).filter p = (xs.take j).filter p ++ if p xs[j] = true then [xs[j]] else [] := by
  rw [List.take_add_one, List.getElem?_eq_getElem hj, List.filter_append]
  show _ ++ [xs[j]].filter p = _
  split
  · rename_i h; rw [List.filter_cons_of_pos h]; rfl
  · rename_i h; rw [List.filter_cons_of_neg h]; rfl
section
variable {P : Program} {w : World} {K : PySem.W.Frag} {mg : Str → Option Value} {base : Heap}
def hasB (ks js : List Int) : Bool := js.all fun j => decide (j ∈ ks)
def spHas : Sp := fun vs H Q _ => ∃ (a k kk : Addr) (t : Int) (c : Str) (ks js : List Int), vs = [.ref a, .ref k] ∧ H a = some (.tup [.ref kk, .int t, .str c]) ∧ H kk = some (.tup (ks.map V.int)) ∧ H k = some (.lst (js.map V.int)) ∧ js.length ≤ 400 ∧
  ∀ H', Same H H' → Q (.bl (hasB ks js)) H'
theorem ok_has_all (bt : Bt mg) (a : At K mg "has_all" s_has_all ["combo", "keys"]) : Cl P w K mg base 1 "has_all" spHas := by
  refine clG a sc_has_all (fun vs H Q E h => ?_) (fun f cdv A outer s H vs Q hg hr h => ?_)
  · obtain ⟨a, k, kk, t, c, ks, js, rfl, _⟩ := h
    rfl
  · obtain ⟨a, k, kk, t, c, ks, js, rfl, ha, hkk, hk, hl, q⟩ := h
    refine ⟨_, (pss_one (ps_ret (pe_callB (cr_all rfl) (by rfl) bt.m_all (by decide +kernel) (pa_cons (pe_lc (own := [("key", 2)]) (g := (gName 2)) (by rfl) sc_has_all.nd (pi_list (pv 1)) (blkOk_by (N := n_has_all) (sc := defScope s_has_all) (by decide +kernel)) (fun _ _ _ _ _ => (pg_name (i := 2) sc_has_all.nd rfl (Or.inl rfl))) (fun _ _ _ _ _ => pts_nil) (fun _ _ _ _ _ => (pe_cmpR (r := rIn K false) op_in_seq (pv 2) (pe_ix (r := rIxT K) ix_tup (pv 0) pe_int (fun _ _ => rfl)) (by rfl)))) pa_nil)))), ?_⟩
    refine ⟨_, rfl, k, rfl, ⟨_, SqL.of hk⟩, fun M nM => lc_it (walk_list (xs := js.map V.int)) (fun i H' => Same H H' ∧ H' M = some (.lst (((js.take i).map fun j => decide (j ∈ ks)).map V.bl))) ⟨same_upd nM, upd_same⟩ (fun i H' _ p => SqL.of (p.1 _ _ hk)) (fun i x Hx Hy hi p y => ?_) (fun H1 p => ?_)⟩
    · obtain ⟨sx, hM⟩ := p
      obtain ⟨rfl, hx⟩ := y
      have hi' : i < js.length := by rw [List.length_map] at hi; exact hi
      have ex : V.int js[i] = x := Option.some.inj ((get_map_int (List.getElem?_eq_getElem hi')).symm.trans hx)
      subst ex
      refine ⟨rfl, _, rfl, _, rfl, a, _, 0, _, rfl, rfl, SqT.of (sx _ _ ha), atI_nat (j := 0) rfl, kk, _, rfl, .inr (SqT.of (sx _ _ hkk)), rfl, flat_ints ks, _, hM, small1000 (by rw [List.length_map, List.length_map, List.length_take]; omega), Same.off sx nM off_upd, ?_⟩
      rw [upd_same, take_map hi', List.map_append, inv_int]
      rfl
    · obtain ⟨sx, hM⟩ := p
      rw [List.take_of_length_le (by rw [List.length_map]; omega)] at hM
      refine ⟨M, _, rfl, SqL.of hM, ?_⟩
      have e : (js.map fun j => decide (j ∈ ks)).all id = hasB ks js := by unfold hasB; rw [List.all_map]; rfl
      rw [e]
      exact q _ sx
def spGDue (C : Addr) : Sp := fun vs H Q _ => ∃ (Hb : Hp) (o cc D S : Addr) (m : Int) (cbs : List Cmb) (n : Nat) (ds : List Ev) (sn : Sn), vs = [.ref o] ∧ GSt C Hb H o cc D S m cbs n ds sn ∧ ∀ H', Same H H' → Q (optI (dueG cbs ds)) H'
theorem ok_due (bt : Bt mg) {C : Addr} (gp : Gp K C) (a : AtM K C "due" "Gate.due" s_due ["self"]) (c_has_all : Cl P w K mg base 1 "has_all" spHas) : ClM P w K mg base 2 C "due" (spGDue C) := by
  have cl_Gate := gp.cl
  refine clMG a sc_due (fun vs H Q E h => ?_) (fun ff cdv A outer s H vs Q hg hr h => ?_)
  · obtain ⟨Hb, o, cc, D, S, m, cbs, n, ds, sn, rfl, _⟩ := h
    rfl
  · obtain ⟨Hb, o, cc, D, S, m, cbs, n, ds, sn, rfl, G, q⟩ := h
    refine ⟨_, (pss_cons (ps_if (pt_not (pt_truth (pe_fld (pv 0) rfl) (by intro _; rfl))) (pss_one (ps_ret pe_non)) pss_nil)
      (pss_cons (ps_set (i := 1) sc_due.nd rfl (Or.inr rfl) (pe_lc (own := [("tick", 3), ("key", 4)]) (g := (gTup K 2 (gCons (gName 3) (gCons (gName 4) gNil)))) (by rfl) sc_due.nd (pi_list (pe_fld (pv 0) rfl)) (blkOk_by (N := n_due) (sc := defScope s_due) (by decide +kernel)) (fun _ _ _ _ _ => (pg_tup rfl (pgs_cons (pg_name (i := 3) sc_due.nd rfl (Or.inl rfl)) (pgs_cons (pg_name (i := 4) sc_due.nd rfl (Or.inl rfl)) pgs_nil)))) (fun _ _ _ _ _ => pts_nil) (fun _ _ _ _ _ => (pv 4))))
      (pss_cons (ps_setLc (i := 2) (own := [("combo", 5)]) (g := (gName 5)) (by rfl) sc_due.nd rfl rfl (sw_true rfl rfl rfl (by decide +kernel)) (pi_list (pe_fld (pv 0) rfl)) (blkOk_by (N := n_due) (sc := defScope s_due) (by decide +kernel)) (fun _ _ _ _ _ => (pg_name (i := 5) sc_due.nd rfl (Or.inl rfl))) (fun _ _ _ _ _ => (pts_one (PW.pt (pw_and (pt_cmpR op_gt (pe_callB (r := rLenB K) call_len_seq (by rfl) bt.m_len (by decide +kernel) (pa_cons (pe_ix (r := rIxT K) ix_tup (pv 5) pe_int (fun _ _ => rfl)) pa_nil)) (pe_callB (r := rLenB K) call_len_seq (by rfl) bt.m_len (by decide +kernel) (pa_cons (pv 1) pa_nil)) (nomark _)) (pw_and1 (pt_val (pe_cl c_has_all hg hr (by decide) (by rfl) (pa_cons (pv 5) (pa_cons (pv 1) pa_nil))))))))) (fun _ _ _ _ _ => (pe_ix (r := rIxT K) ix_tup (pv 5) pe_int (fun _ _ => rfl))))
      (pss_one (ps_ret (pe_op op_add (pe_ix ix_tup (pe_ix ix_list (pe_fld (pv 0) rfl) pe_int (fun _ _ => rfl)) pe_int (fun _ _ => rfl)) (pe_callBK (cr_maxDf rfl hr) (by rfl) bt.m_max (by decide +kernel) (pa_cons (pv 2) pa_nil) (pk_cons pe_int pk_nil)))))))), ?_⟩
    obtain ⟨dx, ho⟩ := G.ob
    obtain ⟨as, hD, hT⟩ := id G.dn
    have few := G.few
    have n4 := G.n4
    have hal : (as.map V.ref).length = ds.length := by rw [List.length_map]; exact hT.1
    refine ⟨_, rfl, o, C, dx, _, _, rfl, ho, gp.cl, gp.n3, gf_downs, !(as.map V.ref).isEmpty, .inl ⟨_, SqL.of hD, rfl⟩, ?_⟩
    cases hds : ds with
    | nil =>
      have e : (as.map V.ref).isEmpty = true := by
        rw [List.isEmpty_iff_length_eq_zero, hal, hds]
        rfl
      rw [e]
      refine iteT ?_
      subst hds
      exact q _ (Same.refl _)
    | cons e0 r0 =>
      have e : (as.map V.ref).isEmpty = false := by
        rw [← Bool.not_eq_true, List.isEmpty_iff_length_eq_zero, hal, hds]
        simp
      rw [e]
      refine iteF ?_
      have hpos : 0 < ds.length := by rw [hds]; exact Nat.succ_pos _
      refine ⟨_, rfl, o, C, dx, _, _, rfl, ho, gp.cl, gp.n3, gf_downs, D, rfl, ⟨_, SqL.of hD⟩, fun M nM => lc_it (walk_list (xs := as.map V.ref)) (fun i H' => Same H H' ∧ H' M = some (.lst (((ds.take i).map Ev.k).map V.int))) ⟨same_upd nM, upd_same⟩ (fun i H' _ p => SqL.of (p.1 _ _ hD)) (fun i x Hx Hy hi p y => ?_) (fun H1 p => ?_)⟩
      · obtain ⟨sx, hM⟩ := p
        obtain ⟨rfl, hx⟩ := y
        have hi' : i < ds.length := by omega
        obtain ⟨b, hb, hbt⟩ := hT.at_ hi'
        have ex : V.ref b = x := Option.some.inj ((get_map_ref hb).symm.trans hx)
        subst ex
        refine ⟨b, _, rfl, SqT.of (sx _ _ hbt), rfl, _, _, rfl, _, _, rfl, rfl, rfl, _, rfl, _, hM, small1000 (by rw [List.length_map, List.length_map, List.length_take]; omega), Same.off sx nM off_upd, ?_⟩
        rw [upd_same, take_map hi', List.map_append]
        rfl
      obtain ⟨s1, hM⟩ := p
      rw [hal, List.take_length] at hM
      obtain ⟨cs, hcs, hcl, hcv⟩ := (G.cb.same G.sb).same s1
      have cfew := G.ok.few
      refine ⟨_, rfl, o, C, dx, _, _, rfl, s1 _ _ ho, gp.cl, gp.n2, gf_combos, cc, rfl, ⟨_, SqL.of hcs⟩, fun N nN => lc_it (walk_list (xs := cs)) (fun i H' => Same H1 H' ∧ H' N = some (.lst ((((cbs.take i).filter fun c => decide (ds.length < c.ks.length) && hasB c.ks (ds.map Ev.k)).map Cmb.t).map V.int))) ⟨same_upd nN, upd_same⟩ (fun i H' _ p => SqL.of (p.1 _ _ hcs)) (fun i x Hx Hy hi p y => ?_) (fun H2 p => ?_)⟩
      · obtain ⟨sx, hN⟩ := p
        obtain ⟨rfl, hx⟩ := y
        have hi' : i < cbs.length := by omega
        obtain ⟨ad, k, hv, ha, hk⟩ := Cmbs.at_ ⟨hcl, hcv⟩ hi'
        have ex : x = .ref ad := Option.some.inj (hx.symm.trans hv)
        subst ex
        have fl : ((cbs.take i).filter fun c => decide (ds.length < c.ks.length) && hasB c.ks (ds.map Ev.k)).length ≤ 6 := Nat.le_trans (List.length_filter_le ..) (by rw [List.length_take]; omega)
        have fin : ∀ (b : Bool) (H3 : Hp), Same Hy H3 → (decide (ds.length < cbs[i].ks.length) && hasB cbs[i].ks (ds.map Ev.k)) = b → (b = false → Same H1 H3 ∧ H3 N = some (.lst ((((cbs.take (i + 1)).filter fun c => decide (ds.length < c.ks.length) && hasB c.ks (ds.map Ev.k)).map Cmb.t).map V.int))) ∧ (b = true → ∃ acc, H3 N = some (.lst acc) ∧ acc.length < sizeLine ∧ Same H1 (upd H3 N (.lst (acc ++ [.int cbs[i].t]))) ∧ upd H3 N (.lst (acc ++ [.int cbs[i].t])) N = some (.lst ((((cbs.take (i + 1)).filter fun c => decide (ds.length < c.ks.length) && hasB c.ks (ds.map Ev.k)).map Cmb.t).map V.int))) := fun b H3 s3 hb => by
          rw [filt_take hi', hb]
          refine ⟨fun z => ?_, fun z => ?_⟩
          · subst z
            rw [if_neg (by decide), List.append_nil]
            exact ⟨sx.trans s3, s3 _ _ hN⟩
          · subst z
            rw [if_pos rfl]
            refine ⟨_, s3 _ _ hN, small1000 (by rw [List.length_map, List.length_map]; omega), Same.off (sx.trans s3) nN off_upd, ?_⟩
            rw [upd_same, List.map_append, List.map_append]
            rfl
        refine ⟨rfl, _, rfl, ad, _, 0, _, rfl, rfl, SqT.of (sx _ _ ha), atI_nat (j := 0) rfl, k, _, rfl, .inr (SqT.of (sx _ _ hk)), _, rfl, M, _, rfl, .inl (SqL.of (sx _ _ hM)), _, _, rfl, rfl, _, rfl, ite2 (fun z => ?_) (fun z => ?_)⟩
        · have z : ds.length < cbs[i].ks.length := by
            have := of_decide_eq_true z
            rw [List.length_map, List.length_map, List.length_map] at this
            omega
          refine ⟨_, rfl, _, rfl, ad, M, k, _, _, _, ds.map Ev.k, rfl, sx _ _ ha, sx _ _ hk, sx _ _ hM, by rw [List.length_map]; omega, fun H3 s3 => ⟨_, rfl, ?_⟩⟩
          obtain ⟨f1, f2⟩ := fin _ H3 s3 (by rw [decide_eq_true z, Bool.true_and])
          cases hb : hasB cbs[i].ks (ds.map Ev.k) with
          | true => exact iteT ⟨_, rfl, ad, _, 1, _, rfl, rfl, SqT.of (s3 _ _ (sx _ _ ha)), atI_nat (j := 1) rfl, f2 hb⟩
          | false => exact iteF (f1 hb)
        · have z : ¬ ds.length < cbs[i].ks.length := fun y => z (by
            refine decide_eq_true ?_
            rw [List.length_map, List.length_map, List.length_map]
            omega)
          obtain ⟨f1, _⟩ := fin false Hy (Same.refl _) (by rw [decide_eq_false z, Bool.false_and])
          exact iteF (f1 rfl)
      obtain ⟨s2, hN⟩ := p
      rw [List.take_of_length_le (by omega)] at hN
      have s02 := s1.trans s2
      obtain ⟨b, hb, hbt⟩ := hT.at_ hpos
      refine ⟨_, rfl, o, C, dx, _, _, rfl, s02 _ _ ho, gp.cl, gp.n3, gf_downs, D, _, 0, .ref b, rfl, rfl, SqL.of (s02 _ _ hD), atI_nat (j := 0) (get_map_ref hb), b, _, 0, _, rfl, rfl, SqT.of (s02 _ _ hbt), atI_nat (j := 0) rfl, _, rfl, N, _, 0, rfl, rfl, SqL.of hN, _, _, rfl, rfl, ?_⟩
      have e : optI (dueG cbs ds) = .int (ds[0].t + maxOr 0 (((cbs.filter fun c => decide (ds.length < c.ks.length) && hasB c.ks (ds.map Ev.k)).map Cmb.t))) := by
        subst hds
        rfl
      have q := q _ s02
      rw [e] at q
      exact q
end
end K28

set_option Elab.async false
set_option linter.all false
set_option maxRecDepth 100000
set_option maxHeartbeats 8000000
namespace K28
open PySem PySem.Spec PyProof.Rows L2 Gd Rm La Cb Pl
theorem two_E {T : Prop} {C A : Int → Prop} (f : (∀ E, A E → C E) → T) (g : ∀ E, A E → C E) : T := f g
/-! ### pieces that leave, one behind the other -/
inductive Steps (m : Int) (cbs : List Cmb) (G : List Ev → Prop) (now : Int) (ds : List Ev) (sn : Sn) : List Ev → List Ev → Sn → Prop
  | refl : Steps m cbs G now ds sn [] ds sn
  | snoc {outs ds' : List Ev} {sn' : Sn} : Steps m cbs G now ds sn outs ds' sn' → G ds' → ds' ≠ [] →
      Steps m cbs G now ds sn (outs ++ [⟨now, ownG m cbs ds', true⟩]) (ds'.drop (fp cbs ds')) (sentS (ownG m cbs ds') sn' ((ds'.take (fp cbs ds')).map Ev.k))
def dueBy (cbs : List Cmb) (now : Int) (ds : List Ev) : Prop := ∃ d, dueG cbs ds = some d ∧ d ≤ now
theorem dueBy_ne {cbs : List Cmb} {now : Int} {ds : List Ev} (h : dueBy cbs now ds) : ds ≠ [] := by
  obtain ⟨d, e, _⟩ := h
  intro z
  rw [z] at e
  cases e
theorem Steps.len {m : Int} {cbs : List Cmb} {G : List Ev → Prop} {now : Int} {ds : List Ev} {sn : Sn} {outs ds' : List Ev} {sn' : Sn} (h : Steps m cbs G now ds sn outs ds' sn') : outs.length + ds'.length ≤ ds.length := by
  induction h with
  | refl => simp
  | @snoc outs ds' sn' _ _ ne ih =>
    have := fp_pos cbs ds'
    have := fp_le cbs ne
    rw [List.length_append, List.length_drop]
    show outs.length + 1 + (ds'.length - fp cbs ds') ≤ ds.length
    omega
section
variable {P : Program} {w : World} {K : PySem.W.Frag} {mg : Str → Option Value} {base : Heap}
def spSend (C : Addr) : Sp := fun vs H Q _ => ∃ (Hb : Hp) (o cc D S : Addr) (m : Int) (cbs : List Cmb) (n : Nat) (ds : List Ev) (sn : Sn) (now : Int), vs = [.ref o, .int now] ∧ GSt C Hb H o cc D S m cbs n ds sn ∧ ds ≠ [] ∧
  ∀ (H' : Hp) (T D' : Addr), GSt C Hb H' o cc D' S m cbs n (ds.drop (fp cbs ds)) (sentS (ownG m cbs ds) sn ((ds.take (fp cbs ds)).map Ev.k)) → Goes o D S D' H H' → H T = none → H' T = some (.tup (evV ⟨now, ownG m cbs ds, true⟩)) → Q (.ref T) H'
theorem ok_send_piece (bt : Bt mg) {C : Addr} (gp : Gp K C) (a : AtM K C "send_piece" "Gate.send_piece" s_send_piece ["self", "now"]) (c_first_piece : Cl P w K mg base 1 "first_piece" spFirst) : ClM P w K mg base 2 C "send_piece" (spSend C) := by
  have cl_Gate := gp.cl
  refine clMG a sc_send_piece (fun vs H Q E h => ?_) (fun ff cdv A outer s H vs Q hg hr h => ?_)
  · obtain ⟨Hb, o, cc, D, S, m, cbs, n, ds, sn, now, rfl, _⟩ := h
    rfl
  · obtain ⟨Hb, o, cc, D, S, m, cbs, n, ds, sn, now, rfl, G0, ne, q⟩ := h
    refine ⟨_, (pss_cons (ps_asg (pe_cl c_first_piece hg hr (by decide) (by rfl) (pa_cons (pe_fld (pv 0) rfl) (pa_cons (pe_fld (pv 0) rfl) pa_nil))) (pg_tup rfl (pgs_cons (pg_name (i := 2) sc_send_piece.nd rfl (Or.inl rfl)) (pgs_cons (pg_name (i := 3) sc_send_piece.nd rfl (Or.inl rfl)) pgs_nil))))
      (pss_cons (ps_set (i := 4) sc_send_piece.nd rfl (Or.inl rfl) (pe_ifExp (pt_cmpR op_isN (pv 3) pe_non (nomark _)) (pe_ix ix_tup (pe_ix ix_list (pe_fld (pv 0) rfl) pe_int (fun _ _ => rfl)) pe_int (fun _ _ => rfl)) (pe_op op_add (pe_fld (pv 0) rfl) (pv 3))))
      (pss_cons (ps_for PassesOwn.never rfl (pi_list (pe_slice sl_list (pe_fld (pv 0) rfl) po_none (po_some (pv 2)))) (pg_tup rfl (pgs_cons (pg_name (i := 5) sc_send_piece.nd rfl (Or.inl rfl)) (pgs_cons (pg_name (i := 6) sc_send_piece.nd rfl (Or.inl rfl)) pgs_nil))) (pss_one (ps_dput (hu_of hr) (pe_fld (pv 0) rfl) (pv 6) (pv 4) rfl)))
      (pss_cons (ps_fld (pv 0) (pe_slice sl_list (pe_fld (pv 0) rfl) (po_some (pv 2)) po_none) rfl)
      (pss_one (ps_ret (pe_tup (pa_cons (pv 1) (pa_cons (pv 4) (pa_cons pe_str pa_nil)))))))))), ?_⟩
    obtain ⟨dx, ho⟩ := G0.ob
    have few := G0.few
    have n4 := G0.n4
    have ok := G0.ok
    obtain ⟨sepD, sepS, sepDS⟩ := G0.sep
    have hpos : 0 < ds.length := List.length_pos_iff.mpr ne
    refine ⟨_, rfl, o, C, dx, _, _, rfl, ho, gp.cl, gp.n3, gf_downs, _, rfl, o, C, dx, _, _, rfl, ho, gp.cl, gp.n2, gf_combos, D, cc, cbs, m, ds, rfl, G0.dn, ne, by omega, G0.cb.same G0.sb, ok, fun H1 p oo s1 np hfp hp => ?_⟩
    refine ⟨p, _, rfl, SqT.of hp, rfl, _, _, rfl, _, _, rfl, rfl, ?_⟩
    have G1 := G0.same s1
    have ho1 := s1 _ _ ho
    obtain ⟨as, hD, hT⟩ := id G1.dn
    have hal := hT.1
    obtain ⟨b0, hb0, hbt0⟩ := hT.at_ hpos
    have fpos := fp_pos cbs ds
    have fle := fp_le cbs ne
    have hsp := spot_eq ok hfp
    have e0 : ds.getD 0 ⟨0, 0, true⟩ = ds[0] := by rw [List.getD_eq_getElem?_getD, List.getElem?_eq_getElem hpos]; rfl
    have hown : (oo = none → ds[0].k = ownG m cbs ds) ∧ ∀ i : Nat, oo = some i → m + (i : Int) = ownG m cbs ds := by
      unfold ownG
      rw [hsp]
      refine ⟨fun z => by rw [z, e0], fun i z => by rw [z]⟩
    have hoo : ∀ _ : ¬ oo = none, ∃ i, oo = some i := fun z => by
      cases oo with
      | none => exact absurd rfl z
      | some i => exact ⟨i, rfl⟩
    apply two_E (A := fun E : Int => E = ownG m cbs ds)
    · intro X
      by_cases z : oo = none
      · refine ⟨_, rfl, rfl, true, by rw [z]; rfl, iteT ⟨_, rfl, o, C, dx, _, _, rfl, ho1, gp.cl, gp.n3, gf_downs, D, _, 0, .ref b0, rfl, rfl, SqL.of hD, atI_nat (j := 0) (get_map_ref hb0), b0, _, 1, _, rfl, rfl, SqT.of hbt0, atI_nat (j := 1) rfl, ?_⟩⟩
        have fact := hown.1 z
        generalize ds[0].k = E0 at fact ⊢
        exact X E0 fact
      · obtain ⟨i, z⟩ := hoo z
        refine ⟨_, rfl, rfl, false, by rw [z]; rfl, iteF ⟨_, rfl, o, C, dx, _, _, rfl, ho1, gp.cl, gp.n1, gf_many, _, rfl, m, (i : Int), rfl, by rw [z]; rfl, ?_⟩⟩
        have fact := hown.2 i z
        exact X _ fact
    rintro _ rfl
    -- the keys
    refine ⟨_, rfl, o, C, dx, _, _, rfl, ho1, gp.cl, gp.n3, gf_downs, _, rfl, _, rfl, D, _, rfl, SqL.of hD, fun U nU => ?_⟩
    rw [cutTake, ← List.map_take]
    have kU := same_upd (o := .lst ((as.take (fp cbs ds)).map V.ref)) nU
    have hU := upd_same (H := H1) (a := U) (o := .lst ((as.take (fp cbs ds)).map V.ref))
    have hTU := (hT.same kU).take (fp cbs ds)
    have s2 := s1.trans kU
    have G2 := G1.same kU
    have ho2 := kU _ _ ho1
    generalize upd H1 U (.lst ((as.take (fp cbs ds)).map V.ref)) = H2 at hU hTU s2 G2 ho2 ⊢
    have hul : ((as.take (fp cbs ds)).map V.ref).length = fp cbs ds := by rw [List.length_map, List.length_take, hal]; omega
    have hS2 := G2.st
    have US : U ≠ S := ne_of hU hS2 (by intro z; cases z)
    refine ⟨U, rfl, ⟨_, SqL.of hU⟩, for_it (walk_list (xs := (as.take (fp cbs ds)).map V.ref)) (fun j σ H' => (∃ y5 y6, σ = [some (.ref o), some (.int now), some (.int ((fp cbs ds : Nat) : Int)), some (optN oo), some (.int (ownG m cbs ds)), y5, y6]) ∧ Off S H2 H' ∧ H' S = some (.dK (snK (sentS (ownG m cbs ds) sn ((ds.take j).map Ev.k)))))
      ⟨⟨_, _, rfl⟩, Off.refl _, hS2⟩ (fun j σ H' _ p => SqL.of (p.2.1 _ _ hU US)) (fun j x σ Hx Hy hj p y => ?_) (fun σ H3 p => ?_)⟩
    · obtain ⟨⟨y5, y6, rfl⟩, ox, hSx⟩ := p
      obtain ⟨rfl, hx⟩ := y
      have hj : j < fp cbs ds := by rw [hul] at hj; exact hj
      have hjd : j < ds.length := by omega
      have hjt : j < (ds.take (fp cbs ds)).length := by rw [List.length_take]; omega
      obtain ⟨b, hb, hbt⟩ := hTU.at_ hjt
      have ex : V.ref b = x := Option.some.inj ((get_map_ref hb).symm.trans hx)
      subst ex
      rw [List.getElem_take] at hbt
      have hby := ox _ _ hbt (ne_of hbt hS2 (by intro z; cases z))
      have hoy := ox _ _ ho2 sepS
      have sl := sentS_len (ownG m cbs ds) ((ds.take j).map Ev.k) sn
      rw [List.length_map, List.length_take] at sl
      refine ⟨b, _, rfl, SqT.of hby, rfl, _, _, rfl, _, _, rfl, rfl, ?_⟩
      refine ⟨_, rfl, _, rfl, o, C, dx, _, _, rfl, hoy, gp.cl, gp.n4, gf_sent, _, rfl, S, _, rfl, DPut.k (k := Sum.inl ds[j].k) hSx (small1000 (by unfold snK; rw [List.length_map]; omega)), ⟨_, _, rfl⟩, ox.trans off_upd, ?_⟩
      rw [upd_same, take_map hjd, sentS_snoc, ← snK_put]
      rfl
    obtain ⟨⟨y5, y6, rfl⟩, ox, hS3⟩ := p
    rw [hul] at hS3
    have ho3 := ox _ _ ho2 sepS
    obtain ⟨as2, hD2, hT2⟩ := id G2.dn
    have hD3 := ox _ _ hD2 sepDS
    -- the rest
    refine ⟨_, rfl, o, C, dx, _, _, rfl, ho3, gp.cl, gp.n3, gf_downs, _, rfl, _, rfl, D, _, rfl, SqL.of hD3, fun D' nD => ?_⟩
    have hal2 := hT2.1
    rw [cutDrop (by rw [List.length_map]; omega), ← List.map_drop]
    have kD := same_upd (o := .lst ((as2.drop (fp cbs ds)).map V.ref)) nD
    have oD : o ≠ D' := ne_of_none ho3 nD
    have SD : S ≠ D' := ne_of_none hS3 nD
    refine ⟨_, rfl, o, C, dx, _, rfl, kD _ _ ho3, gp.cl, gp.n3, ?_, ?_⟩
    · show 4 < 1000
      decide
    rw [gf_put]
    refine ⟨_, rfl, _, rfl, (by show 3 ≤ sizeLine; decide), fun T nT => ?_⟩
    have kT := same_upd (o := .tup [.int now, .int (ownG m cbs ds), .str "down"]) nT
    have nD3 : H3 D' = none := nD
    have tkx : Tk H2 H3 := fun b xs hb => ox _ _ hb (ne_of hb hS2 (by intro z; cases z))
    have hT3 : Tups H3 tkV (as2.drop (fp cbs ds)) (ds.drop (fp cbs ds)) := by
      refine ⟨by rw [List.length_drop, List.length_drop, hal2], fun i a e u v => ?_⟩
      rw [List.getElem?_drop] at u v
      exact tkx _ _ (hT2.2 _ a e u v)
    have oo2 : Off3 o D S H H3 := fun b u hb n1 n2 n3 => ox _ _ (s2 _ _ hb) n3
    have off : Off3 o D S H (upd (upd (upd H3 D' (.lst ((as2.drop (fp cbs ds)).map V.ref))) o (.ins C dx (gflds m cc D' S))) T (.tup [.int now, .int (ownG m cbs ds), .str "down"])) := fun b u hb n1 n2 n3 => by
      refine kT _ _ ?_
      rw [upd_ne n1]
      exact kD _ _ (oo2 _ _ hb n1 n2 n3)
    have nDH : H D' = none := by
      cases z : H D' with
      | none => rfl
      | some u =>
        have h2 := s2 _ _ z
        by_cases y : D' = S
        · exact absurd y.symm SD
        · rw [ox _ _ h2 y] at nD; cases nD
    have Tne : T ≠ D' := fun z => by rw [z, upd_ne oD.symm, upd_same] at nT; cases nT
    have To : T ≠ o := fun z => by rw [z, upd_same] at nT; cases nT
    have TS : T ≠ S := fun z => by
      rw [z, upd_ne sepS.symm, upd_ne SD] at nT
      rw [hS3] at nT; cases nT
    have nTH : H T = none := by
      cases z : H T with
      | none => rfl
      | some u =>
        rw [upd_ne To, upd_ne Tne] at nT
        rw [ox _ _ (s2 _ _ z) TS] at nT; cases nT
    have dsl : (ds.drop (fp cbs ds)).length = ds.length - fp cbs ds := List.length_drop
    have sl := sentS_len (ownG m cbs ds) ((ds.take (fp cbs ds)).map Ev.k) sn
    rw [List.length_map, List.length_take] at sl
    obtain ⟨f1, f2, f3⟩ := G0.fr
    have al : ∀ b, upd (upd (upd H3 D' (.lst ((as2.drop (fp cbs ds)).map V.ref))) o (.ins C dx (gflds m cc D' S))) T (.tup [.int now, .int (ownG m cbs ds), .str "down"]) b = none → H b = none := fun b hb => by
      have h1 := same_al kT b hb
      by_cases e1 : b = o
      · rw [e1, upd_same] at h1; cases h1
      rw [upd_ne e1] at h1
      exact same_al s2 b (ox.free hS3 (same_al kD b h1))
    have Hb0 : Hb D' = none := by
      cases z : Hb D' with
      | none => rfl
      | some u => rw [G0.sb _ _ z] at nDH; cases nDH
    refine q _ T D' ⟨⟨dx, by rw [upd_ne (Ne.symm To), upd_same]⟩, ⟨as2.drop (fp cbs ds), by rw [upd_ne (Ne.symm Tne), upd_ne oD.symm, upd_same], ?_⟩, by rw [upd_ne (Ne.symm TS), upd_ne sepS.symm, upd_ne SD]; exact hS3, G0.cb, ok, G0.back off, ⟨f1, Hb0, f3⟩, by omega, n4, sentS_nd _ _ _ G0.nd⟩ ⟨off, .inr nDH, al⟩ nTH (by rw [upd_same]; rfl)
    refine ⟨hT3.1, fun i a e u v => ?_⟩
    have h1 := kD _ _ (hT3.2 i a e u v)
    have ao : a ≠ o := ne_of h1 (kD _ _ ho3) (by intro z; cases z)
    exact kT _ _ (by rw [upd_ne ao]; exact h1)
end
end K28

set_option Elab.async false
set_option linter.all false
set_option maxRecDepth 100000
set_option maxHeartbeats 8000000
namespace K28
open PySem PySem.Spec PyProof.Rows L2 Gd Rm La Cb Pl
theorem due_some {cbs : List Cmb} {ds : List Ev} (h : ds ≠ []) : ∃ d, dueG cbs ds = some d := by
  cases ds with
  | nil => exact absurd rfl h
  | cons e r => exact ⟨_, rfl⟩
theorem Lst.off3 {C : Addr} {Hb H H' : Hp} {o cc D S O : Addr} {m : Int} {cbs : List Cmb} {n : Nat} {ds : List Ev} {sn : Sn} {es : List Ev} (h : Lst evV H O es) (G : GSt C Hb H o cc D S m cbs n ds sn) (g : Off3 o D S H H') (n1 : O ≠ D) : Lst evV H' O es := by
  obtain ⟨as, a, b⟩ := h
  obtain ⟨dx, ho⟩ := G.ob
  have tk := G.tk g
  exact ⟨as, g _ _ a (ne_of a ho (by intro z; cases z)) n1 (ne_of a G.st (by intro z; cases z)), b.1, fun i x e u v => tk _ _ (b.2 i x e u v)⟩
theorem Goes.ne {o D S D' O : Addr} {H H' : Hp} {u : HO} (g : Goes o D S D' H H') (h : H O = some u) (n : O ≠ D) : O ≠ D' := fun z => by
  rcases g.nw with e | e
  · exact n (z.trans e)
  · rw [← z, h] at e; cases e
theorem updO {C : Addr} {Hb H : Hp} {o cc D S O : Addr} {m : Int} {cbs : List Cmb} {n : Nat} {ds : List Ev} {sn : Sn} {ys zs : List V} (G : GSt C Hb H o cc D S m cbs n ds sn) (h : H O = some (.lst ys)) (n1 : O ≠ D) (nb : Hb O = none) : GSt C Hb (upd H O (.lst zs)) o cc D S m cbs n ds sn := by
  obtain ⟨dx, ho⟩ := G.ob
  obtain ⟨as, a, b⟩ := G.dn
  refine { G with ob := ⟨dx, by rw [upd_ne (ne_of ho h (by intro z; cases z))]; exact ho⟩, dn := ⟨as, by rw [upd_ne n1.symm]; exact a, b.1, fun i x e u v => tk_upd h _ _ (b.2 i x e u v)⟩, st := by rw [upd_ne (ne_of G.st h (by intro z; cases z))]; exact G.st, sb := fun b' u hb => by rw [upd_ne (ne_of_none hb nb)]; exact G.sb _ _ hb }
theorem goes_updO {C : Addr} {Hb H0 H : Hp} {o cc D D' S O : Addr} {m : Int} {cbs : List Cmb} {n : Nat} {ds : List Ev} {sn : Sn} {zs : List V} (g : Goes o D S D' H0 H) (nO : H0 O = none) : Goes o D S D' H0 (upd H O (.lst zs)) := ⟨fun b u hb n1 n2 n3 => by
  rw [upd_ne (ne_of_none hb nO)]; exact g.off _ _ hb n1 n2 n3, g.nw, fun b hb => by
  by_cases e : b = O
  · rw [e]; exact nO
  · rw [upd_ne e] at hb; exact g.al _ hb⟩
theorem lst_snoc {H : Hp} {O T : Addr} {outs : List Ev} {e : Ev} {as : List Addr} (h : H O = some (.lst (as.map V.ref))) (t : Tups H evV as outs) (hT : H T = some (.tup (evV e))) : Lst evV (upd H O (.lst (as.map V.ref ++ [.ref T]))) O (outs ++ [e]) := by
  refine ⟨as ++ [T], by rw [upd_same, List.map_append]; rfl, ?_⟩
  have t1 := t.snoc (a := T) (e := e) hT
  exact ⟨t1.1, fun i a e u v => tk_upd h _ _ (t1.2 i a e u v)⟩
section
variable {P : Program} {w : World} {K : PySem.W.Frag} {mg : Str → Option Value} {base : Heap}
def spLet (C : Addr) : Sp := fun vs H Q _ => ∃ (Hb : Hp) (o cc D S : Addr) (m : Int) (cbs : List Cmb) (n : Nat) (ds : List Ev) (sn : Sn) (now : Int), vs = [.ref o, .int now] ∧ GSt C Hb H o cc D S m cbs n ds sn ∧
  ∀ (H' : Hp) (O D' : Addr) (outs ds' : List Ev) (sn' : Sn), Steps m cbs (dueBy cbs now) now ds sn outs ds' sn' → ¬ dueBy cbs now ds' → GSt C Hb H' o cc D' S m cbs n ds' sn' → Goes o D S D' H H' → H O = none → O ≠ D' → Lst evV H' O outs → Q (.ref O) H'
theorem ok_let_leave (bt : Bt mg) {C : Addr} (gp : Gp K C) (a : AtM K C "let_leave" "Gate.let_leave" s_let_leave ["self", "now"]) (c_due : ClM P w K mg base 2 C "due" (spGDue C)) (c_send_piece : ClM P w K mg base 2 C "send_piece" (spSend C)) : ClM P w K mg base 3 C "let_leave" (spLet C) := by
  have cl_Gate := gp.cl
  refine clMG a sc_let_leave (fun vs H Q E h => ?_) (fun ff cdv A outer s H vs Q hg hr h => ?_)
  · obtain ⟨Hb, o, cc, D, S, m, cbs, n, ds, sn, now, rfl, _⟩ := h
    rfl
  · obtain ⟨Hb, o, cc, D, S, m, cbs, n, ds, sn, now, rfl, G, q⟩ := h
    refine ⟨_, (pss_cons (ps_set (i := 2) sc_let_leave.nd rfl (Or.inl rfl) (pe_lst pa_nil))
      (pss_cons (ps_while PassesOwn.never (PW.pt (pw_and (pt_truth (pe_fld (pv 0) rfl) (by intro _; rfl)) (pw_and1 (pt_cmpR op_le (pe_clM0 c_due cl_Gate hg hr (by decide) (pv 0)) (pv 1) (nomark _))))) (pss_one (ps_expr (pe_bm PySem.F.plainAttrs_list PySem.F.slot_list_append PySem.F.type_list_append mt_append (pv 2) (pa_cons (pe_clM c_send_piece cl_Gate hg hr (by decide) (pv 0) (pa_cons (pv 1) pa_nil)) pa_nil)))))
      (pss_one (ps_ret (pv 2))))), ?_⟩
    refine ⟨Nat.zero_le _, fun O nO => ?_⟩
    have kO := same_upd (o := .lst []) nO
    have G0 := G.same kO
    have hO0 := upd_same (H := H) (a := O) (o := .lst [])
    obtain ⟨asD, hD0, _⟩ := G.dn
    have OD : O ≠ D := fun z => by rw [z, hD0] at nO; cases nO
    have nOb : Hb O = none := by
      cases z : Hb O with
      | none => rfl
      | some u => rw [G.sb _ _ z] at nO; cases nO
    have few := G.few
    have n4 := G.n4
    generalize upd H O (.lst []) = H0 at kO G0 hO0 ⊢
    refine ⟨fun k σ H' => ∃ (outs ds' : List Ev) (sn' : Sn) (D' : Addr), k = ds'.length ∧ σ = [some (.ref o), some (.int now), some (.ref O)] ∧ Steps m cbs (dueBy cbs now) now ds sn outs ds' sn' ∧ GSt C Hb H' o cc D' S m cbs n ds' sn' ∧ Goes o D S D' H H' ∧ Lst evV H' O outs ∧ O ≠ D',
      ⟨_, [], ds, sn, D, rfl, rfl, .refl, G0, Goes.of kO, ⟨[], hO0, Tups.nil⟩, OD⟩, fun k σ H1 z => ?_⟩
    obtain ⟨outs, ds', sn', D', rfl, rfl, st, G1, g1, hL1, OD1⟩ := z
    have sl := st.len
    obtain ⟨dx, ho⟩ := G1.ob
    obtain ⟨as, hD, hT⟩ := id G1.dn
    refine ⟨_, rfl, o, C, dx, _, _, rfl, ho, gp.cl, gp.n3, gf_downs, !(as.map V.ref).isEmpty, .inl ⟨_, SqL.of hD, rfl⟩, ?_⟩
    have hal := hT.1
    by_cases hne : ds' = []
    · have e : (as.map V.ref).isEmpty = true := by
        rw [List.isEmpty_iff_length_eq_zero, List.length_map, hal, hne]
        rfl
      rw [e]
      exact iteF (iteF ⟨_, rfl, q H1 O D' outs ds' sn' st (fun z => dueBy_ne z hne) G1 g1 nO OD1 hL1⟩)
    · have e : (as.map V.ref).isEmpty = false := by
        rw [← Bool.not_eq_true, List.isEmpty_iff_length_eq_zero, List.length_map, hal]
        exact fun z => hne (List.length_eq_zero_iff.mp z)
      rw [e]
      obtain ⟨d, hd⟩ := due_some (cbs := cbs) hne
      refine iteT ⟨_, rfl, o, dx, _, rfl, ho, gf_no (by decide +kernel), Hb, o, cc, D', S, m, cbs, n, ds', sn', rfl, G1, fun H2 s2 => ⟨_, rfl, d, now, by rw [hd]; rfl, rfl, _, rfl, ite2 (fun z => ?_) (fun z => ?_)⟩⟩
      · have z : d ≤ now := of_decide_eq_true z
        have hdb : dueBy cbs now ds' := ⟨d, hd, z⟩
        have G2 := G1.same s2
        have g2 := g1.trans G1 (Goes.of s2)
        have hL2 := hL1.same s2
        obtain ⟨bs, hO2, hT2⟩ := id hL2
        obtain ⟨dx2, ho2⟩ := G2.ob
        refine ⟨_, fun _ _ h => h, ?_⟩
        refine ⟨_, rfl, .inl ⟨rfl, _, SqL.of hO2⟩, _, rfl, o, dx2, _, rfl, ho2, gf_no (by decide +kernel), _, rfl, Hb, o, cc, D', S, m, cbs, n, ds', sn', now, rfl, G2, hne, fun H3 T D3 G3 g3 nT hT3 => ?_⟩
        have OD3 := g3.ne hO2 OD1
        obtain ⟨bs3, hO3, hTs3⟩ := Lst.off3 hL2 G2 g3.off OD1
        have gg := g2.trans G2 g3
        have bl := hTs3.1
        have fpp := fp_pos cbs ds'
        have fpl := fp_le cbs hne
        refine ⟨O, _, .ref T, rfl, rfl, hO3, small1000 (by rw [List.length_map]; omega), (ds'.drop (fp cbs ds')).length, by rw [List.length_drop]; omega, _, _, _, D3, rfl, rfl, st.snoc hdb hne, updO G3 hO3 OD3 nOb, goes_updO (n := n) (ds := ds) (sn := sn) (cc := cc) (m := m) (cbs := cbs) (C := C) (Hb := Hb) gg nO, lst_snoc hO3 hTs3 hT3, OD3⟩
      · have z : ¬ d ≤ now := fun y => z (decide_eq_true y)
        refine ⟨_, rfl, q H2 O D' outs ds' sn' st (fun y => ?_) (G1.same s2) (g1.trans G1 (Goes.of s2)) nO OD1 (hL1.same s2)⟩
        obtain ⟨d', e', l'⟩ := y
        rw [hd] at e'
        have := Option.some.inj e'
        exact z (by omega)
end
end K28

set_option Elab.async false
set_option linter.all false
set_option maxRecDepth 100000
set_option maxHeartbeats 8000000
namespace K28
open PySem PySem.Spec PyProof.Rows L2 Gd Rm La Cb Pl
theorem Steps.prog {m : Int} {cbs : List Cmb} {G : List Ev → Prop} {now : Int} {ds : List Ev} {sn : Sn} {outs ds' : List Ev} {sn' : Sn} (h : Steps m cbs G now ds sn outs ds' sn') (a : G ds) (b : ¬ G ds') : ds'.length < ds.length := by
  have l := h.len
  cases h with
  | refl => exact absurd a b
  | snoc _ _ _ =>
    rw [List.length_append] at l
    have l : _ + 1 + _ ≤ ds.length := l
    omega
inductive Clks (m : Int) (cbs : List Cmb) (tick : Int) (ds : List Ev) (sn : Sn) : List Ev → List Ev → Sn → Prop
  | refl : Clks m cbs tick ds sn [] ds sn
  | snoc {outs ds1 outs2 ds2 : List Ev} {sn1 sn2 : Sn} {d : Int} : Clks m cbs tick ds sn outs ds1 sn1 → dueG cbs ds1 = some d → d ≤ tick → Steps m cbs (dueBy cbs d) d ds1 sn1 outs2 ds2 sn2 → ¬ dueBy cbs d ds2 → Clks m cbs tick ds sn (outs ++ outs2) ds2 sn2
theorem Clks.len {m : Int} {cbs : List Cmb} {tick : Int} {ds : List Ev} {sn : Sn} {outs ds' : List Ev} {sn' : Sn} (h : Clks m cbs tick ds sn outs ds' sn') : outs.length + ds'.length ≤ ds.length := by
  induction h with
  | refl => simp
  | snoc _ _ _ st _ ih =>
    have := st.len
    rw [List.length_append]
    omega
def clrS (own : Int) (s : Sn) : Sn := s.map fun p => if p.2 = some own then (p.1, none) else p
theorem clrS_keys (own : Int) (s : Sn) : (clrS own s).map (·.1) = s.map (·.1) := by
  unfold clrS
  rw [List.map_map]
  refine List.map_congr_left fun p _ => ?_
  show (if p.2 = some own then (p.1, none) else p).1 = p.1
  split <;> rfl
def upS (v : Option Int) (s : Sn) : Sn := match v with | none => s | some own => clrS own s
def upO (tick : Int) (v : Option Int) : List Ev := match v with | none => [] | some own => [⟨tick, own, false⟩]
inductive Come (m : Int) (cbs : List Cmb) (e : Ev) (ds : List Ev) (sn : Sn) : List Ev → List Ev → Sn → Prop
  | down {outs ds' : List Ev} {sn' : Sn} : e.d = true → Steps m cbs (dueBy cbs e.t) e.t (ds ++ [e]) sn outs ds' sn' → ¬ dueBy cbs e.t ds' → Come m cbs e ds sn outs ds' sn'
  | up {outs : List Ev} {sn1 : Sn} {v : Option Int} : e.d = false → Steps m cbs (fun _ => True) e.t ds sn outs [] sn1 → getS sn1 e.k = some v → Come m cbs e ds sn (outs ++ upO e.t v) [] (upS v (dropS sn1 e.k))
/-- one place of a dict without twins -/
theorem getS_at {s : Sn} (nd : (s.map (·.1)).Nodup) {j : Nat} {p : Int × Option Int} (h : s[j]? = some p) : getS s p.1 = some p.2 := by
  have hv : valV (snK s) (Sum.inl p.1) = some (optI p.2) := by
    refine val_at (i := j) ?_ ?_
    · unfold snK
      rw [List.map_map]
      have : s.map ((fun q : Key × V => q.1) ∘ fun p : Int × Option Int => ((Sum.inl p.1 : Key), optI p.2)) = (s.map (·.1)).map (fun k => (Sum.inl k : Key)) := by rw [List.map_map]; rfl
      rw [this]
      exact List.pairwise_map.mpr (nd.imp fun h e => h (Sum.inl.inj e))
    · unfold snK
      rw [List.getElem?_map, h]
      rfl
  rw [snK_get] at hv
  cases q : getS s p.1 with
  | none => rw [q] at hv; cases hv
  | some u =>
    rw [q] at hv
    have hv : optI u = optI p.2 := Option.some.inj hv
    cases u with
    | none =>
      cases z : p.2 with
      | none => rfl
      | some _ => rw [z] at hv; cases hv
    | some x =>
      cases z : p.2 with
      | none => rw [z] at hv; cases hv
      | some y => rw [z] at hv; exact congrArg some (congrArg some (V.int.inj hv))
theorem putS_at {s : Sn} (nd : (s.map (·.1)).Nodup) {j : Nat} {p : Int × Option Int} (h : s[j]? = some p) (v : Option Int) : putS s p.1 v = s.take j ++ (p.1, v) :: s.drop (j + 1) := by
  have hj := (List.getElem?_eq_some_iff.mp h).1
  have es : s = s.take j ++ p :: s.drop (j + 1) := by
    have e1 := (List.take_append_drop j s).symm
    rw [List.drop_eq_getElem_cons hj, (List.getElem?_eq_some_iff.mp h).2] at e1
    exact e1
  have ne : ∀ q ∈ s.take j ++ s.drop (j + 1), q.1 ≠ p.1 := fun q hq e => by
    rw [es, List.map_append, List.map_cons] at nd
    obtain ⟨n1, n2, n3⟩ := List.nodup_append.mp nd
    rcases List.mem_append.mp hq with z | z
    · exact n3 _ (List.mem_map.mpr ⟨q, z, rfl⟩) _ List.mem_cons_self e
    · exact (List.nodup_cons.mp n2).1 (by rw [← e]; exact List.mem_map.mpr ⟨q, z, rfl⟩)
  have any : (s.any fun q => decide (q.1 = p.1)) = true := List.any_eq_true.mpr ⟨p, List.mem_of_getElem? h, decide_eq_true rfl⟩
  unfold putS
  rw [if_pos any]
  have m1 : (s.take j).map (fun q => if q.1 = p.1 then (q.1, v) else q) = s.take j := by
    have : (s.take j).map (fun q => if q.1 = p.1 then (q.1, v) else q) = (s.take j).map id := List.map_congr_left fun q hq => if_neg (ne q (List.mem_append.mpr (.inl hq)))
    rw [this, List.map_id]
  have m2 : (s.drop (j + 1)).map (fun q => if q.1 = p.1 then (q.1, v) else q) = s.drop (j + 1) := by
    have : (s.drop (j + 1)).map (fun q => if q.1 = p.1 then (q.1, v) else q) = (s.drop (j + 1)).map id := List.map_congr_left fun q hq => if_neg (ne q (List.mem_append.mpr (.inr hq)))
    rw [this, List.map_id]
  conv => lhs; rw [es]
  rw [List.map_append, List.map_cons, m1, m2, if_pos rfl]
section
variable {P : Program} {w : World} {K : PySem.W.Frag} {mg : Str → Option Value} {base : Heap}
def spGClock (C : Addr) : Sp := fun vs H Q _ => ∃ (Hb : Hp) (o cc D S : Addr) (m : Int) (cbs : List Cmb) (n : Nat) (ds : List Ev) (sn : Sn) (tick : Int), vs = [.ref o, .int tick] ∧ GSt C Hb H o cc D S m cbs n ds sn ∧
  ∀ (H' : Hp) (O D' : Addr) (outs ds' : List Ev) (sn' : Sn), Clks m cbs tick ds sn outs ds' sn' → ¬ dueBy cbs tick ds' → GSt C Hb H' o cc D' S m cbs n ds' sn' → Goes o D S D' H H' → H O = none → O ≠ D' → Lst evV H' O outs → Q (.ref O) H'
theorem ok_clock (bt : Bt mg) {C : Addr} (gp : Gp K C) (a : AtM K C "clock" "Gate.clock" s_clock ["self", "tick"]) (c_due : ClM P w K mg base 2 C "due" (spGDue C)) (c_let_leave : ClM P w K mg base 3 C "let_leave" (spLet C)) : ClM P w K mg base 4 C "clock" (spGClock C) := by
  have cl_Gate := gp.cl
  refine clMG a sc_clock (fun vs H Q E h => ?_) (fun ff cdv A outer s H vs Q hg hr h => ?_)
  · obtain ⟨Hb, o, cc, D, S, m, cbs, n, ds, sn, tick, rfl, _⟩ := h
    rfl
  · obtain ⟨Hb, o, cc, D, S, m, cbs, n, ds, sn, tick, rfl, G, q⟩ := h
    refine ⟨_, (pss_cons (ps_set (i := 2) sc_clock.nd rfl (Or.inl rfl) (pe_lst pa_nil))
      (pss_cons (ps_set (i := 3) sc_clock.nd rfl (Or.inl rfl) (pe_clM0 c_due cl_Gate hg hr (by decide) (pv 0)))
      (pss_cons (ps_while PassesOwn.never (PW.pt (pw_and (pt_cmpR op_notN (pv 3) pe_non (nomark _)) (pw_and1 (pt_cmpR op_le (pv 3) (pv 1) (nomark _))))) (pss_cons (ps_expr (pe_bm PySem.F.plainAttrs_list PySem.F.slot_list_extend PySem.F.type_list_extend mt_extend (pv 2) (pa_cons (pe_clM c_let_leave cl_Gate hg hr (by decide) (pv 0) (pa_cons (pv 3) pa_nil)) pa_nil)))
      (pss_one (ps_set (i := 3) sc_clock.nd rfl (Or.inl rfl) (pe_clM0 c_due cl_Gate hg hr (by decide) (pv 0))))))
      (pss_one (ps_ret (pv 2)))))), ?_⟩
    refine ⟨Nat.zero_le _, fun O nO => ?_⟩
    have kO := same_upd (o := .lst []) nO
    have G0 := G.same kO
    have hO0 := upd_same (H := H) (a := O) (o := .lst [])
    obtain ⟨asD, hD0, _⟩ := G.dn
    have OD : O ≠ D := fun z => by rw [z, hD0] at nO; cases nO
    have nOb : Hb O = none := by
      cases z : Hb O with
      | none => rfl
      | some u => rw [G.sb _ _ z] at nO; cases nO
    have few := G.few
    have n4 := G.n4
    obtain ⟨dx0, ho0⟩ := G0.ob
    generalize upd H O (.lst []) = H0 at kO G0 hO0 ho0 ⊢
    refine ⟨_, rfl, o, dx0, _, rfl, ho0, gf_no (by decide +kernel), Hb, o, cc, D, S, m, cbs, n, ds, sn, rfl, G0, fun H1 s1 => ?_⟩
    refine ⟨fun k σ H' => ∃ (outs ds' : List Ev) (sn' : Sn) (D' : Addr), k = ds'.length ∧ σ = [some (.ref o), some (.int tick), some (.ref O), some (optI (dueG cbs ds'))] ∧ Clks m cbs tick ds sn outs ds' sn' ∧ GSt C Hb H' o cc D' S m cbs n ds' sn' ∧ Goes o D S D' H H' ∧ Lst evV H' O outs ∧ O ≠ D',
      ⟨_, [], ds, sn, D, rfl, rfl, .refl, G0.same s1, Goes.of (kO.trans s1), ⟨[], s1 _ _ hO0, Tups.nil⟩, OD⟩, fun k σ H1 z => ?_⟩
    obtain ⟨outs, ds', sn', D', rfl, rfl, st, G1, g1, hL1, OD1⟩ := z
    have sl := st.len
    by_cases hne : ds' = []
    · refine ⟨_, rfl, rfl, false, by rw [hne]; rfl, iteF (iteF ⟨_, rfl, q H1 O D' outs ds' sn' st (fun z => dueBy_ne z hne) G1 g1 nO OD1 hL1⟩)⟩
    · obtain ⟨d, hd⟩ := due_some (cbs := cbs) hne
      refine ⟨_, rfl, rfl, true, by rw [hd]; rfl, iteT ⟨_, rfl, _, rfl, d, tick, by rw [hd]; rfl, rfl, _, rfl, ite2 (fun z => ?_) (fun z => ?_)⟩⟩
      · have z : d ≤ tick := of_decide_eq_true z
        obtain ⟨bs, hO1, hTb⟩ := id hL1
        obtain ⟨dx1, ho1⟩ := G1.ob
        refine ⟨_, fun _ _ h => h, ?_⟩
        refine ⟨_, rfl, .inl ⟨rfl, _, SqL.of hO1⟩, _, rfl, o, dx1, _, rfl, ho1, gf_no (by decide +kernel), _, rfl, Hb, o, cc, D', S, m, cbs, n, ds', sn', d, by rw [hd]; rfl, G1, fun H2 O2 D2 outs2 ds2 sn2 st2 nd2 G2 g2 nO2 OD2 hL2 => ?_⟩
        have OD3 := g2.ne hO1 OD1
        obtain ⟨bs3, hO3, hTs3⟩ := Lst.off3 hL1 G1 g2.off OD1
        obtain ⟨zs, hZ, hTz⟩ := id hL2
        have gg := g1.trans G1 g2
        have l1 := hTs3.1
        have l2 := hTz.1
        have sl2 := st2.len
        have pr := st2.prog ⟨d, hd, Int.le_refl _⟩ nd2
        refine ⟨O, O2, bs3.map V.ref, zs.map V.ref, rfl, rfl, hO3, hZ, by rw [sizeLine_eq, List.length_map, List.length_map]; omega, ?_⟩
        have G3 := updO (zs := bs3.map V.ref ++ zs.map V.ref) G2 hO3 OD3 nOb
        have g3 := goes_updO (zs := bs3.map V.ref ++ zs.map V.ref) (n := n) (ds := ds) (sn := sn) (cc := cc) (m := m) (cbs := cbs) (C := C) (Hb := Hb) gg nO
        have hL3 : Lst evV (upd H2 O (.lst (bs3.map V.ref ++ zs.map V.ref))) O (outs ++ outs2) := by
          refine ⟨bs3 ++ zs, by rw [upd_same, List.map_append], ?_⟩
          have t1 := hTs3.append hTz
          exact ⟨t1.1, fun i a e u v => tk_upd hO3 _ _ (t1.2 i a e u v)⟩
        generalize upd H2 O (.lst (bs3.map V.ref ++ zs.map V.ref)) = H3 at G3 g3 hL3 ⊢
        obtain ⟨dx3, ho3⟩ := G3.ob
        refine ⟨_, rfl, o, dx3, _, rfl, ho3, gf_no (by decide +kernel), Hb, o, cc, D2, S, m, cbs, n, ds2, sn2, rfl, G3, fun H4 s4 => ⟨ds2.length, pr, _, ds2, sn2, D2, rfl, rfl, st.snoc hd z st2 nd2, G3.same s4, g3.trans G3 (Goes.of s4), hL3.same s4, OD3⟩⟩
      · have z : ¬ d ≤ tick := fun y => z (decide_eq_true y)
        refine ⟨_, rfl, q H1 O D' outs ds' sn' st (fun y => ?_) G1 g1 nO OD1 hL1⟩
        obtain ⟨d', e', l'⟩ := y
        rw [hd] at e'
        have := Option.some.inj e'
        exact z (by omega)
end
end K28

set_option Elab.async false
set_option linter.all false
set_option maxRecDepth 100000
set_option maxHeartbeats 8000000
namespace K28
open PySem PySem.Spec PyProof.Rows L2 Gd Rm La Cb Pl
/-! ### what waits or was sent -/
def Knows (ds : List Ev) (sn : Sn) (k : Int) : Prop := (∃ e ∈ ds, e.k = k) ∨ k ∈ sn.map (·.1)
theorem putS_mem {s : Sn} {k j : Int} {v : Option Int} : j ∈ (putS s k v).map (·.1) ↔ j = k ∨ j ∈ s.map (·.1) := by
  rw [putS_keys]
  split
  · rename_i h
    obtain ⟨p, hp, e⟩ := List.any_eq_true.mp h
    have e : p.1 = k := of_decide_eq_true e
    exact ⟨.inr, fun h => h.elim (fun z => by rw [z, ← e]; exact List.mem_map.mpr ⟨p, hp, rfl⟩) id⟩
  · rw [List.mem_append, List.mem_singleton]
    exact Or.comm
theorem sentS_mem {own k : Int} : ∀ (ks : List Int) (s : Sn), k ∈ (sentS own s ks).map (·.1) ↔ k ∈ ks ∨ k ∈ s.map (·.1)
  | [], s => by simp [sentS]
  | j :: ks, s => by
    show k ∈ (sentS own (putS s j (some own)) ks).map (·.1) ↔ _
    rw [sentS_mem ks, putS_mem, List.mem_cons]
    constructor
    · rintro (h | h | h)
      · exact .inl (.inr h)
      · exact .inl (.inl h)
      · exact .inr h
    · rintro ((h | h) | h)
      · exact .inr (.inl h)
      · exact .inl h
      · exact .inr (.inr h)
theorem Steps.knows {m : Int} {cbs : List Cmb} {G : List Ev → Prop} {now k : Int} {ds : List Ev} {sn : Sn} {outs ds' : List Ev} {sn' : Sn} (h : Steps m cbs G now ds sn outs ds' sn') (a : Knows ds sn k) : Knows ds' sn' k := by
  induction h with
  | refl => exact a
  | @snoc outs ds' sn' _ _ ne ih =>
    rcases ih with ⟨e, he, ek⟩ | h
    · rw [← List.take_append_drop (fp cbs ds') ds'] at he
      rcases List.mem_append.mp he with z | z
      · exact .inr ((sentS_mem _ _).mpr (.inl (List.mem_map.mpr ⟨e, z, ek⟩)))
      · exact .inl ⟨e, z, ek⟩
    · exact .inr ((sentS_mem _ _).mpr (.inr h))
theorem getS_mem {s : Sn} {k : Int} (h : k ∈ s.map (·.1)) : ∃ v, getS s k = some v := by
  obtain ⟨p, hp, e⟩ := List.mem_map.mp h
  unfold getS
  cases q : s.find? fun p => decide (p.1 = k) with
  | none => exact absurd (decide_eq_true e) (by simpa using List.find?_eq_none.mp q p hp)
  | some p => exact ⟨_, rfl⟩
def clrJ (own : Int) (s : Sn) (j : Nat) : Sn := clrS own (s.take j) ++ s.drop j
theorem clrJ_all (own : Int) (s : Sn) : clrJ own s s.length = clrS own s := by
  unfold clrJ
  rw [List.take_length, List.drop_length, List.append_nil]
theorem clrJ_keys (own : Int) (s : Sn) (j : Nat) : (clrJ own s j).map (·.1) = s.map (·.1) := by
  unfold clrJ
  rw [List.map_append, clrS_keys, ← List.map_append, List.take_append_drop]
theorem clrJ_len (own : Int) (s : Sn) (j : Nat) : (clrJ own s j).length = s.length := by
  have := congrArg List.length (clrJ_keys own s j)
  rw [List.length_map, List.length_map] at this
  exact this
theorem clrJ_at (own : Int) {s : Sn} {j : Nat} (h : j < s.length) : (clrJ own s j)[j]? = some s[j] := by
  unfold clrJ
  have e : (clrS own (s.take j)).length = j := by unfold clrS; rw [List.length_map, List.length_take]; omega
  rw [List.getElem?_append_right (by omega), e, Nat.sub_self, List.getElem?_drop, Nat.add_zero, List.getElem?_eq_getElem h]
theorem clrJ_succ (own : Int) {s : Sn} {j : Nat} (nd : (s.map (·.1)).Nodup) (h : j < s.length) : clrJ own s (j + 1) = if s[j].2 = some own then putS (clrJ own s j) s[j].1 none else clrJ own s j := by
  have e : (clrS own (s.take j)).length = j := by unfold clrS; rw [List.length_map, List.length_take]; omega
  have hc : clrS own (s.take (j + 1)) = clrS own (s.take j) ++ [if s[j].2 = some own then (s[j].1, none) else s[j]] := by
    unfold clrS
    rw [List.take_add_one, List.getElem?_eq_getElem h, List.map_append]
    rfl
  split
  · rename_i z
    rw [putS_at (by rw [clrJ_keys]; exact nd) (clrJ_at own h)]
    show clrS own (s.take (j + 1)) ++ s.drop (j + 1) = _
    rw [hc, if_pos z, List.append_assoc]
    unfold clrJ
    have hA : (clrS own (s.take j)).drop (j + 1) = [] := List.drop_of_length_le (by omega)
    rw [List.take_left' e, List.drop_append, hA, e, show j + 1 - j = 1 by omega, List.drop_drop]
    rfl
  · rename_i z
    show clrS own (s.take (j + 1)) ++ s.drop (j + 1) = clrS own (s.take j) ++ s.drop j
    rw [hc, if_neg z, List.append_assoc, List.drop_eq_getElem_cons h]
    rfl
theorem upS_len (v : Option Int) (s : Sn) : (upS v s).length = s.length := by
  cases v with
  | none => rfl
  | some own => exact List.length_map _
theorem upS_nd (v : Option Int) {s : Sn} (h : (s.map (·.1)).Nodup) : ((upS v s).map (·.1)).Nodup := by
  cases v with
  | none => exact h
  | some own => show ((clrS own s).map (·.1)).Nodup; rw [clrS_keys]; exact h
section
variable {C : Addr} {Hb H H1 : Hp} {o cc D S : Addr} {m : Int} {cbs : List Cmb} {n : Nat} {ds : List Ev} {sn sn2 : Sn}
theorem GSt.offS (G : GSt C Hb H o cc D S m cbs n ds sn) (ox : Off S H H1) (hS : H1 S = some (.dK (snK sn2))) (l : sn2.length ≤ sn.length) (nd : (sn2.map (·.1)).Nodup) : GSt C Hb H1 o cc D S m cbs n ds sn2 := by
  obtain ⟨dx, ho⟩ := G.ob
  obtain ⟨as, a, b⟩ := G.dn
  obtain ⟨s1, s2, s3⟩ := G.sep
  have few := G.few
  exact { G with ob := ⟨dx, ox _ _ ho s2⟩, dn := ⟨as, ox _ _ a s3, b.1, fun i x e u v => ox _ _ (b.2 i x e u v) (ne_of (b.2 i x e u v) G.st (by intro z; cases z))⟩, st := hS, sb := fun b u hb => ox _ _ (G.sb _ _ hb) (ne_of_none hb G.fr.2.2), few := by omega, nd := nd }
theorem Goes.offS {u : HO} (ox : Off S H H1) (hS : H1 S = some u) : Goes o D S D H H1 := ⟨fun b u hb _ _ n3 => ox _ _ hb n3, .inl rfl, fun b hb => ox.free hS hb⟩
end
section
variable {P : Program} {w : World} {K : PySem.W.Frag} {mg : Str → Option Value} {base : Heap}
def spComeUp (C : Addr) : Sp := fun vs H Q _ => ∃ (Hb : Hp) (o cc D S : Addr) (m : Int) (cbs : List Cmb) (n : Nat) (ds : List Ev) (sn : Sn) (tick key : Int), vs = [.ref o, .int tick, .int key] ∧ GSt C Hb H o cc D S m cbs n ds sn ∧ Knows ds sn key ∧
  ∀ (H' : Hp) (O D' : Addr) (outs : List Ev) (sn1 : Sn) (v : Option Int), Steps m cbs (fun _ => True) tick ds sn outs [] sn1 → getS sn1 key = some v → GSt C Hb H' o cc D' S m cbs n [] (upS v (dropS sn1 key)) → Goes o D S D' H H' → H O = none → O ≠ D' → Lst evV H' O (outs ++ upO tick v) → Q (.ref O) H'
theorem ok_come_up (bt : Bt mg) {C : Addr} (gp : Gp K C) (a : AtM K C "come_up" "Gate.come_up" s_come_up ["self", "tick", "key"]) (c_send_piece : ClM P w K mg base 2 C "send_piece" (spSend C)) : ClM P w K mg base 3 C "come_up" (spComeUp C) := by
  have cl_Gate := gp.cl
  refine clMG a sc_come_up (fun vs H Q E h => ?_) (fun ff cdv A outer s H vs Q hg hr h => ?_)
  · obtain ⟨Hb, o, cc, D, S, m, cbs, n, ds, sn, tick, key, rfl, _⟩ := h
    rfl
  · obtain ⟨Hb, o, cc, D, S, m, cbs, n, ds, sn, tick, key, rfl, G, kn, q⟩ := h
    refine ⟨_, (pss_cons (ps_set (i := 3) sc_come_up.nd rfl (Or.inl rfl) (pe_lst pa_nil))
      (pss_cons (ps_while PassesOwn.never (pt_truth (pe_fld (pv 0) rfl) (by intro _; rfl)) (pss_one (ps_expr (pe_bm PySem.F.plainAttrs_list PySem.F.slot_list_append PySem.F.type_list_append mt_append (pv 3) (pa_cons (pe_clM c_send_piece cl_Gate hg hr (by decide) (pv 0) (pa_cons (pv 1) pa_nil)) pa_nil)))))
      (pss_cons (ps_set (i := 4) sc_come_up.nd rfl (Or.inl rfl) (pe_dpop1 (pe_fld (pv 0) rfl) (pv 2) ⟨rfl, rfl, rfl, rfl⟩))
      (pss_cons (ps_if (pt_cmpR op_isN (pv 4) pe_non (nomark _)) (pss_one (ps_ret (pv 3))) pss_nil)
      (pss_cons (ps_for PassesOwn.never rfl (pi_list (pe_callTy (call_listD rfl) (by rfl) bt.m_list (by decide +kernel) (pa_cons (pe_fld (pv 0) rfl) pa_nil))) (pg_name (i := 5) sc_come_up.nd rfl (Or.inl rfl)) (pss_one (ps_if (pt_cmpR op_eq (pe_dget (hu_of hr) (pe_fld (pv 0) rfl) (pv 5) (fun _ _ => rfl)) (pv 4) (nomark _)) (pss_one (ps_dput (hu_of hr) (pe_fld (pv 0) rfl) (pv 5) pe_non rfl)) pss_nil)))
      (pss_one (ps_ret (pe_op op_cat (pv 3) (pe_lst (pa_cons (pe_tup (pa_cons (pv 1) (pa_cons (pv 4) (pa_cons pe_str pa_nil)))) pa_nil)))))))))), ?_⟩
    refine ⟨Nat.zero_le _, fun O nO => ?_⟩
    have kO := same_upd (o := .lst []) nO
    have G0 := G.same kO
    have hO0 := upd_same (H := H) (a := O) (o := .lst [])
    obtain ⟨asD, hD0, _⟩ := G.dn
    have OD : O ≠ D := fun z => by rw [z, hD0] at nO; cases nO
    have nOb : Hb O = none := by
      cases z : Hb O with
      | none => rfl
      | some u => rw [G.sb _ _ z] at nO; cases nO
    have few := G.few
    have n4 := G.n4
    generalize upd H O (.lst []) = H0 at kO G0 hO0 ⊢
    refine ⟨fun k σ H' => ∃ (outs ds' : List Ev) (sn' : Sn) (D' : Addr), k = ds'.length ∧ σ = [some (.ref o), some (.int tick), some (.int key), some (.ref O), none, none] ∧ Steps m cbs (fun _ => True) tick ds sn outs ds' sn' ∧ GSt C Hb H' o cc D' S m cbs n ds' sn' ∧ Goes o D S D' H H' ∧ Lst evV H' O outs ∧ O ≠ D',
      ⟨_, [], ds, sn, D, rfl, rfl, .refl, G0, Goes.of kO, ⟨[], hO0, Tups.nil⟩, OD⟩, fun k σ H1 z => ?_⟩
    obtain ⟨outs, ds', sn', D', rfl, rfl, st, G1, g1, hL1, OD1⟩ := z
    have sl := st.len
    obtain ⟨dx, ho⟩ := G1.ob
    obtain ⟨as, hD, hT⟩ := id G1.dn
    refine ⟨_, rfl, o, C, dx, _, _, rfl, ho, gp.cl, gp.n3, gf_downs, !(as.map V.ref).isEmpty, .inl ⟨_, SqL.of hD, rfl⟩, ?_⟩
    have hal := hT.1
    by_cases hne : ds' = []
    · have e : (as.map V.ref).isEmpty = true := by
        rw [List.isEmpty_iff_length_eq_zero, List.length_map, hal, hne]
        rfl
      rw [e]
      refine iteF ?_
      subst hne
      have kn' : key ∈ sn'.map (·.1) := (st.knows kn).resolve_left fun ⟨_, h, _⟩ => by cases h
      obtain ⟨v, hv⟩ := getS_mem kn'
      have hS := G1.st
      have q := fun H' O D' => q H' O D' outs sn' v st hv
      have sdl := dropS_len sn' key
      have few1 := G1.few
      have ox : Off S H1 (upd H1 S (.dK (dropK (snK sn') (Sum.inl key)))) := off_upd
      have hS2 : upd H1 S (.dK (dropK (snK sn') (Sum.inl key))) S = some (.dK (snK (dropS sn' key))) := by rw [upd_same, snK_drop]
      have G2 := G1.offS ox hS2 sdl (dropS_nd G1.nd key)
      have g2 := g1.trans G1 (Goes.offS ox hS2)
      obtain ⟨bs, hO1, hTb⟩ := id hL1
      have hL2 := Lst.off3 hL1 G1 (Goes.offS (o := o) (D := D') ox hS2).off OD1
      refine ⟨_, rfl, o, C, dx, _, _, rfl, ho, gp.cl, gp.n4, gf_sent, S, rfl, .inl ⟨_, .inl hS⟩, _, rfl, _, Sum.inl key, optI v, hS, rfl, by rw [snK_get, hv]; rfl, ?_⟩
      generalize upd H1 S (.dK (dropK (snK sn') (Sum.inl key))) = H2 at G2 g2 hL2 hS2 ox ⊢
      have hvv : ∀ _ : ¬ v = none, ∃ i, v = some i := fun z => by
        cases v with
        | none => exact absurd rfl z
        | some i => exact ⟨i, rfl⟩
      by_cases hz : v = none
      · refine ⟨_, rfl, rfl, true, by rw [hz]; rfl, iteT ⟨_, rfl, q H2 O D' ?_ g2 nO OD1 ?_⟩⟩
        · rw [hz]; exact G2
        · rw [hz]; show Lst evV H2 O (outs ++ []); rw [List.append_nil]; exact hL2
      · obtain ⟨own, hz⟩ := hvv hz
        refine ⟨_, rfl, rfl, false, by rw [hz]; rfl, iteF ?_⟩
        obtain ⟨dx2, ho2⟩ := G2.ob
        refine ⟨_, rfl, o, C, dx2, _, _, rfl, ho2, gp.cl, gp.n4, gf_sent, S, _, rfl, .inl hS2, fun L nL => ?_⟩
        have e1 : ((snK (dropS sn' key)).map fun kv => kV kv.1) = ((dropS sn' key).map (·.1)).map V.int := by
          unfold snK
          rw [List.map_map, List.map_map]
          rfl
        rw [e1]
        have kL := same_upd (o := .lst (((dropS sn' key).map (·.1)).map V.int)) nL
        have hLL := upd_same (H := H2) (a := L) (o := .lst (((dropS sn' key).map (·.1)).map V.int))
        have G3 := G2.same kL
        have g3 := g2.trans G2 (Goes.of kL)
        have hL3 := hL2.same kL
        have hS3 := kL _ _ hS2
        have ho3 := kL _ _ ho2
        generalize upd H2 L (.lst (((dropS sn' key).map (·.1)).map V.int)) = H3 at kL hLL G3 g3 hL3 hS3 ho3 ⊢
        have ll : (((dropS sn' key).map (·.1)).map V.int).length = (dropS sn' key).length := by rw [List.length_map, List.length_map]
        have nd := G3.nd
        obtain ⟨p1, p2, p3⟩ := G3.sep
        have LS : L ≠ S := ne_of hLL hS3 (by intro z; cases z)
        refine ⟨L, rfl, ⟨_, SqL.of hLL⟩, for_it (walk_list (xs := ((dropS sn' key).map (·.1)).map V.int)) (fun j σ H' => (∃ y5, σ = [some (.ref o), some (.int tick), some (.int key), some (.ref O), some (.int own), y5]) ∧ Off S H3 H' ∧ H' S = some (.dK (snK (clrJ own (dropS sn' key) j))))
          ⟨⟨_, by rw [hz]; rfl⟩, Off.refl _, hS3⟩ (fun j σ H' _ p => SqL.of (p.2.1 _ _ hLL LS)) (fun j x σ Hx Hy hj p y => ?_) (fun σ H4 p => ?_)⟩
        · obtain ⟨⟨y5, rfl⟩, oy, hSy⟩ := p
          obtain ⟨rfl, hx⟩ := y
          have hj : j < (dropS sn' key).length := by rw [ll] at hj; exact hj
          have ex : V.int (dropS sn' key)[j].1 = x := by
            refine Option.some.inj ((get_map_int ?_).symm.trans hx)
            rw [List.getElem?_map, List.getElem?_eq_getElem hj]
            rfl
          subst ex
          have hoy := oy _ _ ho3 p2
          have hg : valV (snK (clrJ own (dropS sn' key) j)) (Sum.inl (dropS sn' key)[j].1) = some (optI (dropS sn' key)[j].2) := by
            rw [snK_get, getS_at (by rw [clrJ_keys]; exact nd) (clrJ_at own hj)]
            rfl
          have cs := clrJ_succ own nd hj
          have cl := clrJ_len own (dropS sn' key) j
          have hdec : scal (optI (dropS sn' key)[j].2) (.int own) = true ∧ (decide (optI (dropS sn' key)[j].2 = .int own) = decide ((dropS sn' key)[j].2 = some own)) := by
            cases (dropS sn' key)[j].2 with
            | none => exact ⟨rfl, by rw [decide_eq_false (by intro z; cases z), decide_eq_false (by intro z; cases z)]⟩
            | some i =>
              refine ⟨rfl, decide_eq_decide.mpr ⟨fun z => congrArg some (V.int.inj z), fun z => congrArg V.int (Option.some.inj z)⟩⟩
          refine ⟨_, rfl, o, C, dx2, _, _, rfl, hoy, gp.cl, gp.n4, gf_sent, _, rfl, S, _, rfl, hg ▸ DGet.k (k := Sum.inl (dropS sn' key)[j].1) hSy, _, rfl, hdec.1, _, rfl, ?_⟩
          rw [hdec.2]
          refine ite2 (fun z => ?_) (fun z => ?_)
          · have z := of_decide_eq_true z
            rw [if_pos z] at cs
            refine ⟨_, rfl, o, C, dx2, _, _, rfl, hoy, gp.cl, gp.n4, gf_sent, _, rfl, S, _, rfl, DPut.k (k := Sum.inl (dropS sn' key)[j].1) hSy (small1000 (by unfold snK; rw [List.length_map]; omega)), ⟨_, rfl⟩, oy.trans off_upd, ?_⟩
            rw [upd_same, cs, ← snK_put]
            rfl
          · have z : ¬ (dropS sn' key)[j].2 = some own := fun y => z (decide_eq_true y)
            rw [if_neg z] at cs
            refine ⟨⟨_, rfl⟩, oy, ?_⟩
            rw [cs]
            exact hSy
        obtain ⟨⟨y5, rfl⟩, oy, hS4⟩ := p
        rw [ll, clrJ_all] at hS4
        have G4 := G3.offS oy hS4 (by unfold clrS; rw [List.length_map]; exact Nat.le_refl _) (by rw [clrS_keys]; exact nd)
        have g4 := g3.trans G3 (Goes.offS oy hS4)
        obtain ⟨bs3, hO3, _⟩ := id hL3
        have hL4 := Lst.off3 hL3 G3 (Goes.offS (o := o) (D := D') oy hS4).off OD1
        obtain ⟨bs4, hO4, hT4⟩ := id hL4
        refine ⟨_, rfl, _, rfl, _, rfl, (by show 3 ≤ sizeLine; decide), fun T nT => ?_⟩
        have kT := same_upd (o := .tup [.int tick, .int own, .str "up"]) nT
        have hTT := upd_same (H := H4) (a := T) (o := .tup [.int tick, .int own, .str "up"])
        have G5 := G4.same kT
        have g5 := g4.trans G4 (Goes.of kT)
        have hO5 := kT _ _ hO4
        have hT5 := hT4.same kT
        generalize upd H4 T (.tup [.int tick, .int own, .str "up"]) = H5 at kT hTT G5 g5 hO5 hT5 ⊢
        refine ⟨(by show 1 ≤ sizeLine; decide), fun L2 nL2 => ?_⟩
        have kL2 := same_upd (o := .lst [.ref T]) nL2
        have hLL2 := upd_same (H := H5) (a := L2) (o := .lst [.ref T])
        have G6 := G5.same kL2
        have g6 := g5.trans G5 (Goes.of kL2)
        have hO6 := kL2 _ _ hO5
        have hT6 := hT5.same kL2
        have hTT6 := kL2 _ _ hTT
        generalize upd H5 L2 (.lst [.ref T]) = H6 at kL2 hLL2 G6 g6 hO6 hT6 hTT6 ⊢
        have bl4 := hT6.1
        refine ⟨O, L2, _, _, rfl, rfl, hO6, hLL2, (by rw [sizeLine_eq, List.length_map]; show _ + 1 ≤ _; omega), fun U nU => ?_⟩
        have kU := same_upd (o := .lst (bs4.map V.ref ++ [V.ref T])) nU
        have g7 := g6.trans G6 (Goes.of kU)
        have nUH : H U = none := g6.al _ nU
        have UD : U ≠ D' := fun z => by
          obtain ⟨as6, z6, _⟩ := G6.dn
          rw [z, z6] at nU; cases nU
        refine q _ U D' ?_ g7 nUH UD ?_
        · rw [hz]; exact G6.same kU
        · rw [hz]
          refine ⟨bs4 ++ [T], by rw [upd_same, List.map_append]; rfl, ?_⟩
          exact (hT6.snoc (a := T) (e := (⟨tick, own, false⟩ : Ev)) hTT6).same kU
    · have e : (as.map V.ref).isEmpty = false := by
        rw [← Bool.not_eq_true, List.isEmpty_iff_length_eq_zero, List.length_map, hal]
        exact fun z => hne (List.length_eq_zero_iff.mp z)
      rw [e]
      refine iteT ⟨_, fun _ _ h => h, ?_⟩
      obtain ⟨bs, hO2, hT2⟩ := id hL1
      refine ⟨_, rfl, .inl ⟨rfl, _, SqL.of hO2⟩, _, rfl, o, dx, _, rfl, ho, gf_no (by decide +kernel), _, rfl, Hb, o, cc, D', S, m, cbs, n, ds', sn', tick, rfl, G1, hne, fun H3 T D3 G3 g3 nT hT3 => ?_⟩
      have OD3 := g3.ne hO2 OD1
      obtain ⟨bs3, hO3, hTs3⟩ := Lst.off3 hL1 G1 g3.off OD1
      have gg := g1.trans G1 g3
      have bl := hTs3.1
      have fpp := fp_pos cbs ds'
      have fpl := fp_le cbs hne
      refine ⟨O, _, .ref T, rfl, rfl, hO3, small1000 (by rw [List.length_map]; omega), (ds'.drop (fp cbs ds')).length, by rw [List.length_drop]; omega, _, _, _, D3, rfl, rfl, st.snoc trivial hne, updO G3 hO3 OD3 nOb, goes_updO (n := n) (ds := ds) (sn := sn) (cc := cc) (m := m) (cbs := cbs) (C := C) (Hb := Hb) gg nO, lst_snoc hO3 hTs3 hT3, OD3⟩
end
end K28

set_option Elab.async false
set_option linter.all false
set_option maxRecDepth 100000
set_option maxHeartbeats 8000000
namespace K28
open PySem PySem.Spec PyProof.Rows L2 Gd Rm La Cb Pl
section
variable {C : Addr} {Hb H H1 : Hp} {o cc D S T : Addr} {m : Int} {cbs : List Cmb} {n n2 : Nat} {ds : List Ev} {sn : Sn} {e : Ev} {as : List Addr}
theorem GSt.up (G : GSt C Hb H o cc D S m cbs n ds sn) (h : n ≤ n2) (l : n2 ≤ 400) : GSt C Hb H o cc D S m cbs n2 ds sn := { G with few := Nat.le_trans G.few h, n4 := l }
theorem GSt.app (G : GSt C Hb H o cc D S m cbs n ds sn) (hD : H D = some (.lst (as.map V.ref))) (hT : Tups H tkV as ds) (hTT : H T = some (.tup (tkV e))) (l : sn.length + ds.length + 1 ≤ n) : GSt C Hb (upd H D (.lst (as.map V.ref ++ [.ref T]))) o cc D S m cbs n (ds ++ [e]) sn := by
  obtain ⟨dx, ho⟩ := G.ob
  obtain ⟨s1, s2, s3⟩ := G.sep
  refine { G with ob := ⟨dx, by rw [upd_ne s1]; exact ho⟩, dn := ⟨as ++ [T], by rw [upd_same, List.map_append]; rfl, ?_⟩, st := by rw [upd_ne s3.symm]; exact G.st, sb := fun b u hb => by rw [upd_ne (ne_of_none hb G.fr.2.1)]; exact G.sb _ _ hb, few := by rw [List.length_append]; show sn.length + (ds.length + 1) ≤ n; omega }
  have t1 := hT.snoc (a := T) (e := e) hTT
  exact ⟨t1.1, fun i a e u v => tk_upd hD _ _ (t1.2 i a e u v)⟩
theorem Goes.app {u v : HO} (h : H D = some u) : Goes o D S D H (upd H D v) := ⟨fun b u hb _ n2 _ => by rw [upd_ne n2]; exact hb, .inl rfl, fun b hb => by
  by_cases z : b = D
  · rw [z, upd_same] at hb; cases hb
  · rw [upd_ne z] at hb; exact hb⟩
end
section
variable {P : Program} {w : World} {K : PySem.W.Frag} {mg : Str → Option Value} {base : Heap}
def spCome (C : Addr) : Sp := fun vs H Q _ => ∃ (Hb : Hp) (o cc D S a : Addr) (m : Int) (cbs : List Cmb) (n : Nat) (ds : List Ev) (sn : Sn) (e : Ev), vs = [.ref o, .ref a] ∧ GSt C Hb H o cc D S m cbs n ds sn ∧ H a = some (.tup (evV e)) ∧ (e.d = false → Knows ds sn e.k) ∧ (e.d = true → sn.length + ds.length + 1 ≤ n) ∧
  ∀ (H' : Hp) (O D' : Addr) (outs ds' : List Ev) (sn' : Sn), Come m cbs e ds sn outs ds' sn' → GSt C Hb H' o cc D' S m cbs n ds' sn' → Goes o D S D' H H' → H O = none → O ≠ D' → Lst evV H' O outs → Q (.ref O) H'
theorem ok_come (bt : Bt mg) {C : Addr} (gp : Gp K C) (a : AtM K C "come" "Gate.come" s_come ["self", "event"]) (c_let_leave : ClM P w K mg base 3 C "let_leave" (spLet C)) (c_come_up : ClM P w K mg base 3 C "come_up" (spComeUp C)) : ClM P w K mg base 4 C "come" (spCome C) := by
  have cl_Gate := gp.cl
  refine clMG a sc_come (fun vs H Q E h => ?_) (fun ff cdv A outer s H vs Q hg hr h => ?_)
  · obtain ⟨Hb, o, cc, D, S, a, m, cbs, n, ds, sn, e, rfl, _⟩ := h
    rfl
  · obtain ⟨Hb, o, cc, D, S, a, m, cbs, n, ds, sn, e, rfl, G, ha, kn, lim, q⟩ := h
    refine ⟨_, (pss_cons (ps_asg (pv 1) (pg_tup rfl (pgs_cons (pg_name (i := 2) sc_come.nd rfl (Or.inl rfl)) (pgs_cons (pg_name (i := 3) sc_come.nd rfl (Or.inl rfl)) (pgs_cons (pg_name (i := 4) sc_come.nd rfl (Or.inl rfl)) pgs_nil)))))
      (pss_cons (ps_if (pt_cmpR op_eq (pv 4) pe_str (nomark _)) (pss_one (ps_ret (pe_clM c_come_up cl_Gate hg hr (by decide) (pv 0) (pa_cons (pv 2) (pa_cons (pv 3) pa_nil))))) pss_nil)
      (pss_cons (ps_expr (pe_bm PySem.F.plainAttrs_list PySem.F.slot_list_append PySem.F.type_list_append mt_append (pe_fld (pv 0) rfl) (pa_cons (pe_tup (pa_cons (pv 2) (pa_cons (pv 3) pa_nil))) pa_nil)))
      (pss_one (ps_ret (pe_clM c_let_leave cl_Gate hg hr (by decide) (pv 0) (pa_cons (pv 2) pa_nil))))))), ?_⟩
    obtain ⟨dx, ho⟩ := G.ob
    obtain ⟨as, hD, hT⟩ := id G.dn
    have few := G.few
    have n4 := G.n4
    have hal := hT.1
    obtain ⟨t, k, d⟩ := e
    refine ⟨_, rfl, a, _, rfl, SqT.of ha, rfl, _, _, rfl, _, _, rfl, _, _, rfl, rfl, ?_⟩
    refine ⟨_, rfl, rfl, _, rfl, ?_⟩
    cases d with
    | false =>
      exact iteT ⟨_, rfl, o, dx, _, rfl, ho, gf_no (by decide +kernel), _, rfl, _, rfl, Hb, o, cc, D, S, m, cbs, n, ds, sn, t, k, rfl, G, kn rfl, fun H' O D' outs sn1 v st hv G' g' nO OD' hL => q H' O D' _ _ _ (.up (e := ⟨t, k, false⟩) rfl st hv) G' g' nO OD' hL⟩
    | true =>
      refine iteF ?_
      refine ⟨_, rfl, o, C, dx, _, _, rfl, ho, gp.cl, gp.n3, gf_downs, .inl ⟨rfl, _, SqL.of hD⟩, _, rfl, _, rfl, (by show 2 ≤ sizeLine; decide), fun T nT => ?_⟩
      have kT := same_upd (o := .tup [.int t, .int k]) nT
      have hTT := upd_same (H := H) (a := T) (o := .tup [.int t, .int k])
      have G1 := G.same kT
      have hD1 := kT _ _ hD
      have hT1 := hT.same kT
      have g1 : Goes o D S D H _ := Goes.of kT
      generalize upd H T (.tup [.int t, .int k]) = H1 at kT hTT G1 hD1 hT1 g1 ⊢
      have lm := lim rfl
      have G2 := G1.app (e := (⟨t, k, true⟩ : Ev)) hD1 hT1 hTT lm
      have g2 := g1.trans G1 (Goes.app (o := o) (S := S) (v := .lst (as.map V.ref ++ [.ref T])) hD1)
      refine ⟨D, _, .ref T, rfl, rfl, hD1, small1000 (by rw [List.length_map]; omega), ?_⟩
      generalize upd H1 D (.lst (as.map V.ref ++ [.ref T])) = H2 at G2 g2 ⊢
      obtain ⟨dx2, ho2⟩ := G2.ob
      refine ⟨_, rfl, o, dx2, _, rfl, ho2, gf_no (by decide +kernel), _, rfl, Hb, o, cc, D, S, m, cbs, n, ds ++ [⟨t, k, true⟩], sn, t, rfl, G2, fun H' O D' outs ds' sn' st nd G' g' nO OD' hL => q H' O D' _ _ _ (.down (e := ⟨t, k, true⟩) rfl st nd) G' (g2.trans G2 g') (g2.al _ nO) OD' hL⟩
end
/-! ### all events, one behind the other -/
inductive Comes (m : Int) (cbs : List Cmb) : List Ev → List Ev → List Ev → Sn → Prop
  | nil : Comes m cbs [] [] [] []
  | snoc {es outs ds o2 ds2 o3 ds3 : List Ev} {sn sn2 sn3 : Sn} {e : Ev} : Comes m cbs es outs ds sn → Clks m cbs e.t ds sn o2 ds2 sn2 → ¬ dueBy cbs e.t ds2 → Come m cbs e ds2 sn2 o3 ds3 sn3 → Comes m cbs (es ++ [e]) (outs ++ o2 ++ o3) ds3 sn3
inductive Runs (m : Int) (cbs : List Cmb) (ds : List Ev) (sn : Sn) : List Ev → List Ev → Sn → Prop
  | refl : Runs m cbs ds sn [] ds sn
  | snoc {outs ds1 o2 ds2 : List Ev} {sn1 sn2 : Sn} {d : Int} : Runs m cbs ds sn outs ds1 sn1 → dueG cbs ds1 = some d → Clks m cbs d ds1 sn1 o2 ds2 sn2 → ¬ dueBy cbs d ds2 → Runs m cbs ds sn (outs ++ o2) ds2 sn2
def Gtd (m : Int) (cbs : List Cmb) (es outs : List Ev) : Prop := ∃ (o1 o2 ds : List Ev) (sn sn2 : Sn), Comes m cbs es o1 ds sn ∧ Runs m cbs ds sn o2 [] sn2 ∧ outs = o1 ++ o2
theorem Clks.knows {m : Int} {cbs : List Cmb} {tick k : Int} {ds : List Ev} {sn : Sn} {outs ds' : List Ev} {sn' : Sn} (h : Clks m cbs tick ds sn outs ds' sn') (a : Knows ds sn k) : Knows ds' sn' k := by
  induction h with
  | refl => exact a
  | snoc _ _ _ st _ ih => exact st.knows ih
theorem dropS_mem {s : Sn} {k j : Int} (h : j ∈ s.map (·.1)) (ne : j ≠ k) : j ∈ (dropS s k).map (·.1) := by
  obtain ⟨p, hp, e⟩ := List.mem_map.mp h
  exact List.mem_map.mpr ⟨p, List.mem_filter.mpr ⟨hp, decide_eq_true (by rw [e]; exact ne)⟩, e⟩
theorem upS_mem {s : Sn} {v : Option Int} {j : Int} (h : j ∈ s.map (·.1)) : j ∈ (upS v s).map (·.1) := by
  cases v with
  | none => exact h
  | some own => show j ∈ (clrS own s).map (·.1); rw [clrS_keys]; exact h
theorem Come.knows {m : Int} {cbs : List Cmb} {e : Ev} {ds : List Ev} {sn : Sn} {outs ds' : List Ev} {sn' : Sn} {b : Int → Bool} (h : Come m cbs e ds sn outs ds' sn') (a : ∀ k, b k = true → Knows ds sn k) (k : Int) (hk : after b e k = true) : Knows ds' sn' k := by
  have hk : (if k = e.k then e.d else b k) = true := hk
  cases h with
  | down d st _ =>
    refine st.knows ?_
    by_cases z : k = e.k
    · exact .inl ⟨e, List.mem_append_right _ (List.mem_singleton.mpr rfl), z.symm⟩
    · rw [if_neg z] at hk
      rcases a k hk with ⟨x, hx, y⟩ | y
      · exact .inl ⟨x, List.mem_append_left _ hx, y⟩
      · exact .inr y
  | up d st _ =>
    by_cases z : k = e.k
    · rw [if_pos z, d] at hk; cases hk
    · rw [if_neg z] at hk
      rcases st.knows (a k hk) with ⟨x, hx, _⟩ | y
      · cases hx
      · exact .inr (upS_mem (dropS_mem y z))
theorem Comes.knows {m : Int} {cbs : List Cmb} {es outs ds : List Ev} {sn : Sn} (h : Comes m cbs es outs ds sn) : ∀ k, heldB es k = true → Knows ds sn k := by
  induction h with
  | nil => intro k hk; cases hk
  | snoc _ c _ g ih =>
    intro k hk
    rw [heldB_snoc] at hk
    exact g.knows (fun k hk => c.knows (ih k hk)) k hk
theorem Come.len {m : Int} {cbs : List Cmb} {e : Ev} {ds : List Ev} {sn : Sn} {outs ds' : List Ev} {sn' : Sn} (h : Come m cbs e ds sn outs ds' sn') : outs.length + ds'.length ≤ ds.length + 1 := by
  cases h with
  | down _ st _ =>
    have := st.len
    rw [List.length_append] at this
    exact this
  | @up _ _ v _ st _ =>
    have := st.len
    rw [List.length_append]
    have l : (upO e.t v).length ≤ 1 := by cases v <;> simp [upO]
    simp only [List.length_nil] at *
    omega
theorem Comes.len {m : Int} {cbs : List Cmb} {es outs ds : List Ev} {sn : Sn} (h : Comes m cbs es outs ds sn) : outs.length + ds.length ≤ es.length := by
  induction h with
  | nil => exact Nat.le_refl _
  | snoc _ c _ g ih =>
    have := c.len
    have := g.len
    rw [List.length_append, List.length_append, List.length_append, List.length_singleton]
    omega
theorem Runs.len {m : Int} {cbs : List Cmb} {ds : List Ev} {sn : Sn} {outs ds' : List Ev} {sn' : Sn} (h : Runs m cbs ds sn outs ds' sn') : outs.length + ds'.length ≤ ds.length := by
  induction h with
  | refl => simp
  | snoc _ _ c _ ih =>
    have := c.len
    rw [List.length_append]
    omega
theorem Clks.prog {m : Int} {cbs : List Cmb} {d : Int} {ds : List Ev} {sn : Sn} {outs ds' : List Ev} {sn' : Sn} (h : Clks m cbs d ds sn outs ds' sn') (hd : dueG cbs ds = some d) (b : ¬ dueBy cbs d ds') : ds'.length < ds.length := by
  have key : ∀ {outs ds' : List Ev} {sn' : Sn}, Clks m cbs d ds sn outs ds' sn' → ds'.length < ds.length ∨ ds' = ds := fun h => by
    induction h with
    | refl => exact .inr rfl
    | snoc _ e1 l st nd ih =>
      have pr := st.prog ⟨_, e1, Int.le_refl _⟩ nd
      rcases ih with z | z
      · exact .inl (by omega)
      · rw [z] at pr; exact .inl pr
  rcases key h with z | z
  · exact z
  · rw [z] at b
    exact absurd ⟨d, hd, Int.le_refl _⟩ b
end K28

set_option Elab.async false
set_option linter.all false
set_option maxRecDepth 100000
set_option maxHeartbeats 8000000
namespace K28
open PySem PySem.Spec PyProof.Rows L2 Gd Rm La Cb Pl
/-- a list of events that is made longer -/
theorem ext_ok {C : Addr} {Hb H0 H1 H2 : Hp} {o cc D0 D1 D2 S O O2 : Addr} {m : Int} {cbs : List Cmb} {n1 n2 : Nat} {ds1 ds2 outs o2 : List Ev} {sn1 sn2 : Sn}
    (G1 : GSt C Hb H1 o cc D1 S m cbs n1 ds1 sn1) (g1 : Goes o D0 S D1 H0 H1) (hL : Lst evV H1 O outs) (n0 : H0 O = none) (nb : Hb O = none) (OD : O ≠ D1)
    (G2 : GSt C Hb H2 o cc D2 S m cbs n2 ds2 sn2) (g2 : Goes o D1 S D2 H1 H2) (hL2 : Lst evV H2 O2 o2) (l : outs.length + o2.length ≤ 1000) :
    ∃ (xs ys : List V), H2 O = some (.lst xs) ∧ H2 O2 = some (.lst ys) ∧ xs.length + ys.length ≤ sizeLine ∧ O ≠ D2 ∧
      GSt C Hb (upd H2 O (.lst (xs ++ ys))) o cc D2 S m cbs n2 ds2 sn2 ∧ Goes o D0 S D2 H0 (upd H2 O (.lst (xs ++ ys))) ∧ Lst evV (upd H2 O (.lst (xs ++ ys))) O (outs ++ o2) := by
  obtain ⟨bs, hO1, hTb⟩ := id hL
  have OD3 := g2.ne hO1 OD
  obtain ⟨bs3, hO3, hTs3⟩ := Lst.off3 hL G1 g2.off OD
  obtain ⟨zs, hZ, hTz⟩ := id hL2
  have l1 := hTs3.1
  have l2 := hTz.1
  refine ⟨bs3.map V.ref, zs.map V.ref, hO3, hZ, by rw [sizeLine_eq, List.length_map, List.length_map]; omega, OD3, updO G2 hO3 OD3 nb, goes_updO (n := n1) (ds := ds1) (sn := sn1) (cc := cc) (m := m) (cbs := cbs) (C := C) (Hb := Hb) (g1.trans G1 g2) n0, ⟨bs3 ++ zs, by rw [upd_same, List.map_append], ?_⟩⟩
  have t1 := hTs3.append hTz
  exact ⟨t1.1, fun i a e u v => tk_upd hO3 _ _ (t1.2 i a e u v)⟩
theorem Valid.up {es : List Ev} (v : Valid es) {i : Nat} (h : i < es.length) (hd : es[i].d = false) : heldB (es.take i) es[i].k = true := by
  have := (v i es[i] (List.getElem?_eq_getElem h)).2.1
  rw [this, hd]
  rfl
section
variable {P : Program} {w : World} {K : PySem.W.Frag} {mg : Str → Option Value} {base : Heap}
def spComeAll (C : Addr) : Sp := fun vs H Q _ => ∃ (Hb : Hp) (o cc D S c : Addr) (m : Int) (cbs : List Cmb) (es : List Ev), vs = [.ref o, .ref c] ∧ GSt C Hb H o cc D S m cbs 0 [] [] ∧ Lst evV Hb c es ∧ Valid es ∧ es.length ≤ 400 ∧
  ∀ (H' : Hp) (O D' : Addr) (outs ds' : List Ev) (sn' : Sn), Comes m cbs es outs ds' sn' → GSt C Hb H' o cc D' S m cbs es.length ds' sn' → Goes o D S D' H H' → H O = none → O ≠ D' → Lst evV H' O outs → Q (.ref O) H'
theorem ok_come_all (bt : Bt mg) {C : Addr} (gp : Gp K C) (a : At K mg "come_all" s_come_all ["machine", "events"]) (c_clock : ClM P w K mg base 4 C "clock" (spGClock C)) (c_come : ClM P w K mg base 4 C "come" (spCome C)) : Cl P w K mg base 5 "come_all" (spComeAll C) := by
  have cl_Gate := gp.cl
  refine clG a sc_come_all (fun vs H Q E h => ?_) (fun ff cdv A outer s H vs Q hg hr h => ?_)
  · obtain ⟨Hb, o, cc, D, S, c, m, cbs, es, rfl, _⟩ := h
    rfl
  · obtain ⟨Hb, o, cc, D, S, c, m, cbs, es, rfl, G, hc, val, len, q⟩ := h
    refine ⟨_, (pss_cons (ps_set (i := 2) sc_come_all.nd rfl (Or.inl rfl) (pe_lst pa_nil))
      (pss_cons (ps_for PassesOwn.never rfl (pi_list (pv 1)) (pg_name (i := 3) sc_come_all.nd rfl (Or.inl rfl)) (pss_cons (ps_expr (pe_bm PySem.F.plainAttrs_list PySem.F.slot_list_extend PySem.F.type_list_extend mt_extend (pv 2) (pa_cons (pe_clM c_clock cl_Gate hg hr (by decide) (pv 0) (pa_cons (pe_ix ix_tup (pv 3) pe_int (fun _ _ => rfl)) pa_nil)) pa_nil)))
      (pss_one (ps_expr (pe_bm PySem.F.plainAttrs_list PySem.F.slot_list_extend PySem.F.type_list_extend mt_extend (pv 2) (pa_cons (pe_clM c_come cl_Gate hg hr (by decide) (pv 0) (pa_cons (pv 3) pa_nil)) pa_nil))))))
      (pss_one (ps_ret (pv 2))))), ?_⟩
    refine ⟨Nat.zero_le _, fun O nO => ?_⟩
    have kO := same_upd (o := .lst []) nO
    have G0 := G.same kO
    have hO0 := upd_same (H := H) (a := O) (o := .lst [])
    obtain ⟨asD, hD0, _⟩ := G.dn
    have OD : O ≠ D := fun z => by rw [z, hD0] at nO; cases nO
    have nOb : Hb O = none := same_al G.sb _ nO
    obtain ⟨as, hca, hT⟩ := id hc
    have hal := hT.1
    have hlen : (as.map V.ref).length = es.length := by rw [List.length_map]; exact hal
    generalize upd H O (.lst []) = H0 at kO G0 hO0 ⊢
    refine ⟨_, rfl, c, rfl, ⟨_, SqL.of (G0.sb _ _ hca)⟩, for_it (walk_list (xs := as.map V.ref)) (fun i σ H' => ∃ (outs ds' : List Ev) (sn' : Sn) (D' : Addr) (y3 : Option V), σ = [some (.ref o), some (.ref c), some (.ref O), y3] ∧ Comes m cbs (es.take i) outs ds' sn' ∧ GSt C Hb H' o cc D' S m cbs i ds' sn' ∧ Goes o D S D' H H' ∧ Lst evV H' O outs ∧ O ≠ D')
      ⟨[], [], [], D, _, rfl, .nil, G0, Goes.of kO, ⟨[], hO0, Tups.nil⟩, OD⟩ (fun i σ H' _ z => by obtain ⟨_, _, _, _, _, _, _, G1, _⟩ := z; exact SqL.of (G1.sb _ _ hca)) (fun i x σ H1 H1b hi z y => ?_) (fun σ H1 z => ?_)⟩
    · obtain ⟨outs, ds', sn', D', y3, rfl, cm, G1, g1, hL1, OD1⟩ := z
      obtain ⟨rfl, hx⟩ := y
      have hi : i < es.length := by omega
      obtain ⟨b, hb0, hb⟩ := hT.at_ hi
      have ex : V.ref b = x := Option.some.inj ((get_map_ref hb0).symm.trans hx)
      subst ex
      have hb1 := G1.sb _ _ hb
      obtain ⟨dx, ho⟩ := G1.ob
      obtain ⟨bs, hO1, _⟩ := id hL1
      have cl := cm.len
      rw [List.length_take] at cl
      refine ⟨_, rfl, .inl ⟨rfl, _, SqL.of hO1⟩, ?_⟩
      refine ⟨_, rfl, o, dx, _, rfl, ho, gf_no (by decide +kernel), _, rfl, b, _, 0, _, rfl, rfl, SqT.of hb1, atI_nat (j := 0) rfl, Hb, o, cc, D', S, m, cbs, i, ds', sn', _, rfl, G1, fun H2 O2 D2 o2 ds2 sn2 ck nd G2 g2 nO2 OD2 hL2 => ?_⟩
      have ckl := ck.len
      obtain ⟨xs, ys, hX, hY, sz, OD3, G3, g3, hL3⟩ := ext_ok G1 g1 hL1 nO nOb OD1 G2 g2 hL2 (by omega)
      refine ⟨O, O2, xs, ys, rfl, rfl, hX, hY, sz, ?_⟩
      generalize upd H2 O (.lst (xs ++ ys)) = H3 at G3 g3 hL3 ⊢
      have G3 := G3.up (n2 := i + 1) (by omega) (by omega)
      obtain ⟨dx3, ho3⟩ := G3.ob
      obtain ⟨bs3, hO3, _⟩ := id hL3
      have few2 := G2.few
      refine ⟨_, rfl, .inl ⟨rfl, _, SqL.of hO3⟩, ?_⟩
      refine ⟨_, rfl, o, dx3, _, rfl, ho3, gf_no (by decide +kernel), _, rfl, Hb, o, cc, D2, S, b, m, cbs, i + 1, ds2, sn2, es[i], rfl, G3, G3.sb _ _ hb, fun hd => ck.knows (cm.knows _ (Valid.up val hi hd)), fun _ => by omega, fun H4 O4 D4 o4 ds4 sn4 co G4 g4 nO4 OD4 hL4 => ?_⟩
      have col := co.len
      obtain ⟨xs4, ys4, hX4, hY4, sz4, OD5, G5, g5, hL5⟩ := ext_ok G3 g3 hL3 nO nOb OD3 G4 g4 hL4 (by rw [List.length_append]; omega)
      refine ⟨O, O4, xs4, ys4, rfl, rfl, hX4, hY4, sz4, ?_⟩
      refine ⟨_, _, _, D4, _, rfl, ?_, G5, g5, hL5, OD5⟩
      rw [List.take_add_one, List.getElem?_eq_getElem hi]
      exact cm.snoc ck nd co
    · obtain ⟨outs, ds', sn', D', y3, rfl, cm, G1, g1, hL1, OD1⟩ := z
      rw [hlen] at cm G1
      rw [List.take_length] at cm
      exact ⟨_, rfl, q H1 O D' outs ds' sn' cm G1 g1 nO OD1 hL1⟩
def spRunOut (C : Addr) : Sp := fun vs H Q _ => ∃ (Hb : Hp) (o cc D S : Addr) (m : Int) (cbs : List Cmb) (n : Nat) (ds : List Ev) (sn : Sn), vs = [.ref o] ∧ GSt C Hb H o cc D S m cbs n ds sn ∧
  ∀ (H' : Hp) (O D' : Addr) (outs : List Ev) (sn' : Sn), Runs m cbs ds sn outs [] sn' → GSt C Hb H' o cc D' S m cbs n [] sn' → Goes o D S D' H H' → H O = none → Lst evV H' O outs → Q (.ref O) H'
theorem ok_run_out (bt : Bt mg) {C : Addr} (gp : Gp K C) (a : At K mg "run_out" s_run_out ["machine"]) (c_due : ClM P w K mg base 2 C "due" (spGDue C)) (c_clock : ClM P w K mg base 4 C "clock" (spGClock C)) : Cl P w K mg base 5 "run_out" (spRunOut C) := by
  have cl_Gate := gp.cl
  refine clG a sc_run_out (fun vs H Q E h => ?_) (fun ff cdv A outer s H vs Q hg hr h => ?_)
  · obtain ⟨Hb, o, cc, D, S, m, cbs, n, ds, sn, rfl, _⟩ := h
    rfl
  · obtain ⟨Hb, o, cc, D, S, m, cbs, n, ds, sn, rfl, G, q⟩ := h
    refine ⟨_, (pss_cons (ps_set (i := 1) sc_run_out.nd rfl (Or.inl rfl) (pe_lst pa_nil))
      (pss_cons (ps_set (i := 2) sc_run_out.nd rfl (Or.inl rfl) (pe_clM0 c_due cl_Gate hg hr (by decide) (pv 0)))
      (pss_cons (ps_while PassesOwn.never (pt_cmpR op_notN (pv 2) pe_non (nomark _)) (pss_cons (ps_expr (pe_bm PySem.F.plainAttrs_list PySem.F.slot_list_extend PySem.F.type_list_extend mt_extend (pv 1) (pa_cons (pe_clM c_clock cl_Gate hg hr (by decide) (pv 0) (pa_cons (pv 2) pa_nil)) pa_nil)))
      (pss_one (ps_set (i := 2) sc_run_out.nd rfl (Or.inl rfl) (pe_clM0 c_due cl_Gate hg hr (by decide) (pv 0))))))
      (pss_one (ps_ret (pv 1)))))), ?_⟩
    refine ⟨Nat.zero_le _, fun O nO => ?_⟩
    have kO := same_upd (o := .lst []) nO
    have G0 := G.same kO
    have hO0 := upd_same (H := H) (a := O) (o := .lst [])
    obtain ⟨asD, hD0, _⟩ := G.dn
    have OD : O ≠ D := fun z => by rw [z, hD0] at nO; cases nO
    have nOb : Hb O = none := same_al G.sb _ nO
    have few := G.few
    have n4 := G.n4
    generalize upd H O (.lst []) = H0 at kO G0 hO0 ⊢
    obtain ⟨dx0, ho0⟩ := G0.ob
    refine ⟨_, rfl, o, dx0, _, rfl, ho0, gf_no (by decide +kernel), Hb, o, cc, D, S, m, cbs, n, ds, sn, rfl, G0, fun H1 s1 => ?_⟩
    refine ⟨fun k σ H' => ∃ (outs ds' : List Ev) (sn' : Sn) (D' : Addr), k = ds'.length ∧ σ = [some (.ref o), some (.ref O), some (optI (dueG cbs ds'))] ∧ Runs m cbs ds sn outs ds' sn' ∧ GSt C Hb H' o cc D' S m cbs n ds' sn' ∧ Goes o D S D' H H' ∧ Lst evV H' O outs ∧ O ≠ D',
      ⟨_, [], ds, sn, D, rfl, rfl, .refl, G0.same s1, Goes.of (kO.trans s1), ⟨[], s1 _ _ hO0, Tups.nil⟩, OD⟩, fun k σ H1 z => ?_⟩
    obtain ⟨outs, ds', sn', D', rfl, rfl, st, G1, g1, hL1, OD1⟩ := z
    have sl := st.len
    by_cases hne : ds' = []
    · refine ⟨_, rfl, rfl, false, by rw [hne]; rfl, iteF ⟨_, rfl, ?_⟩⟩
      subst hne
      exact q H1 O D' outs sn' st G1 g1 nO hL1
    · obtain ⟨d, hd⟩ := due_some (cbs := cbs) hne
      obtain ⟨dx, ho⟩ := G1.ob
      obtain ⟨bs, hO1, _⟩ := id hL1
      refine ⟨_, rfl, rfl, true, by rw [hd]; rfl, iteT ⟨_, fun _ _ h => h, ?_⟩⟩
      refine ⟨_, rfl, .inl ⟨rfl, _, SqL.of hO1⟩, _, rfl, o, dx, _, rfl, ho, gf_no (by decide +kernel), _, rfl, Hb, o, cc, D', S, m, cbs, n, ds', sn', d, by rw [hd]; rfl, G1, fun H2 O2 D2 o2 ds2 sn2 ck nd G2 g2 nO2 OD2 hL2 => ?_⟩
      have ckl := ck.len
      have pr := ck.prog hd nd
      obtain ⟨xs, ys, hX, hY, sz, OD3, G3, g3, hL3⟩ := ext_ok G1 g1 hL1 nO nOb OD1 G2 g2 hL2 (by omega)
      refine ⟨O, O2, xs, ys, rfl, rfl, hX, hY, sz, ?_⟩
      generalize upd H2 O (.lst (xs ++ ys)) = H3 at G3 g3 hL3 ⊢
      obtain ⟨dx3, ho3⟩ := G3.ob
      refine ⟨_, rfl, o, dx3, _, rfl, ho3, gf_no (by decide +kernel), Hb, o, cc, D2, S, m, cbs, n, ds2, sn2, rfl, G3, fun H4 s4 => ⟨ds2.length, pr, _, ds2, sn2, D2, rfl, rfl, st.snoc hd ck nd, G3.same s4, g3.trans G3 (Goes.of s4), hL3.same s4, OD3⟩⟩
def spGated : Sp := fun vs H Q _ => ∃ (cc c : Addr) (cbs : List Cmb) (m : Int) (es : List Ev), vs = [.int m, .ref cc, .ref c] ∧ 1 ≤ m ∧ m ≤ 10 ∧ Cmbs H cc cbs ∧ CbsOk m cbs ∧ Rc H c m es ∧
  ∀ (H' : Hp) (O : Addr) (outs : List Ev), Same H H' → H O = none → Gtd m cbs es outs → Lst evV H' O outs → Q (.ref O) H'
theorem ok_gated (bt : Bt mg) {C : Addr} (gp : Gp K C) (a : At K mg "gated" s_gated ["many", "combos", "record"]) (c_check_gate : Cl P w K mg base 7 "check_gate" spGate) (c_Gate : ClI P w K mg base 1 C "Gate" (spGInit C)) (c_come_all : Cl P w K mg base 5 "come_all" (spComeAll C)) (c_run_out : Cl P w K mg base 5 "run_out" (spRunOut C)) : Cl P w K mg base 8 "gated" spGated := by
  have cl_Gate := gp.cl
  refine clG a sc_gated (fun vs H Q E h => ?_) (fun ff cdv A outer s H vs Q hg hr h => ?_)
  · obtain ⟨cc, c, cbs, m, es, rfl, _⟩ := h
    rfl
  · obtain ⟨cc, c, cbs, m, es, rfl, m1, m2, hC, ok, R, q⟩ := h
    refine ⟨_, (pss_cons (ps_expr (pe_cl c_check_gate hg hr (by decide) (by rfl) (pa_cons (pv 0) (pa_cons (pv 1) (pa_cons (pv 2) pa_nil)))))
      (pss_cons (ps_set (i := 3) sc_gated.nd rfl (Or.inl rfl) (pe_clI c_Gate hg hr (by decide) (by rfl) (pa_cons (pv 0) (pa_cons (pv 1) pa_nil))))
      (pss_one (ps_ret (pe_op op_cat (pe_cl c_come_all hg hr (by decide) (by rfl) (pa_cons (pv 3) (pa_cons (pv 2) pa_nil))) (pe_cl c_run_out hg hr (by decide) (by rfl) (pa_cons (pv 3) pa_nil))))))), ?_⟩
    refine ⟨_, rfl, _, rfl, _, rfl, cc, c, cbs, m, es, rfl, m1, m2, hC, ok, R, fun H1 s1 => ?_⟩
    have C1 := hC.same s1
    have R1 := R.same s1
    refine ⟨_, rfl, _, rfl, fun o dx no ndx hdx => ?_⟩
    have s0 : Same H1 (upd (upd H1 dx (.own o)) o (.ins C dx [])) := (same_upd ndx).trans (same_upd (by rw [upd_ne (Ne.symm hdx)]; exact no))
    refine ⟨o, dx, cc, m, cbs, rfl, upd_same, C1.same s0, fun H2 D S nD nS ho hD hS off => ⟨rfl, ?_⟩⟩
    have sb2 : Same H1 H2 := fun b u hb => off _ _ (s0 _ _ hb) (ne_of_none hb no)
    have G2 : GSt C H1 H2 o cc D S m cbs 0 [] [] := ⟨⟨dx, ho⟩, ⟨[], hD, Tups.nil⟩, hS, C1, ok, sb2, ⟨no, same_al s0 _ nD, same_al s0 _ nS⟩, Nat.le_refl _, Nat.zero_le _, List.nodup_nil⟩
    refine ⟨_, rfl, _, rfl, H1, o, cc, D, S, c, m, cbs, es, rfl, G2, R1.ls, R1.valid, R1.len, fun H3 O D3 outs ds3 sn3 cm G3 g3 nO OD3 hL3 => ?_⟩
    refine ⟨_, rfl, H1, o, cc, D3, S, m, cbs, es.length, ds3, sn3, rfl, G3, fun H4 O4 D4 o4 sn4 rn G4 g4 nO4 hL4 => ?_⟩
    have e1 := cm.len
    have e2 := rn.len
    have len := R.len
    obtain ⟨bs, hO, hTb⟩ := Lst.off3 hL3 G3 g4.off OD3
    obtain ⟨zs, hZ, hTz⟩ := id hL4
    have l1 := hTb.1
    have l2 := hTz.1
    refine ⟨O, O4, _, _, rfl, rfl, hO, hZ, (by rw [sizeLine_eq, List.length_map, List.length_map]; omega), fun U nU => ?_⟩
    have kU := same_upd (o := .lst (bs.map V.ref ++ zs.map V.ref)) nU
    have s4 : Same H _ := (s1.trans G4.sb).trans kU
    refine q _ U (outs ++ o4) s4 (same_al (s1.trans G4.sb) _ nU) ⟨outs, o4, ds3, sn3, sn4, cm, rn, rfl⟩ ⟨bs ++ zs, by rw [upd_same, List.map_append], ?_⟩
    exact (hTb.append hTz).same kU
end
end K28

set_option Elab.async false
set_option linter.all false
set_option maxRecDepth 100000
set_option maxHeartbeats 8000000
namespace K28
open PySem PySem.Spec PyProof.Rows L2 Gd Rm La Cb Pl
section
variable {P : Program} {w : World} {K : PySem.W.Frag} {mg : Str → Option Value} {base : Heap}
/-! ### the program's small tests -/
def spBelowN : Sp := fun vs H Q _ => ∃ k : Int, vs = [.int k, .non] ∧ Q (.bl true) H
theorem ok_is_belowN (a : At K mg "is_below" s_is_below ["key", "many"]) : Cl P w K mg base 1 "is_below" spBelowN := by
  refine clG a sc_is_below (fun vs H Q E h => ?_) (fun f cdv A outer s H vs Q hg hr h => ?_)
  · obtain ⟨k, rfl, _⟩ := h
    rfl
  · obtain ⟨k, rfl, q⟩ := h
    refine ⟨_, (pss_one (ps_ret (pe_or (pe_cmpR op_isN (pv 1) pe_non (nomark _)) (pe_one (pe_cmpR op_lt (pv 0) (pv 1) (nomark _)))))), ?_⟩
    exact ⟨_, rfl, rfl, _, rfl, iteT q⟩
def spCheckN : Sp := fun vs H Q _ => ∃ (c : Addr) (es : List Ev), vs = [.ref c, .non] ∧ Lst evV H c es ∧ Valid es ∧ es.length ≤ 400 ∧ ∀ H', Same H H' → Q .non H'
theorem ok_check_recordN (bt : Bt mg) (a : AtX K mg "check_record" s_check_record ["value", "many"] [.none]) (c_is_short_list : Cl P w K mg base 1 "is_short_list" spShort) (c_is_event : Cl P w K mg base 3 "is_event" spEvent) (c_can_follow : Cl P w K mg base 2 "can_follow" spFollow) (c_is_below : Cl P w K mg base 1 "is_below" spBelowN) :
    ClD P w K mg base 4 "check_record" spCheckN [.non] := by
  refine clXD a (.cons rfl .nil) sc_check_record (fun vs H Q E h => ?_) (fun f cdv A outer s H vs Q hg hr h => ?_)
  · obtain ⟨a, e, rfl, _⟩ := h
    rfl
  · obtain ⟨c, es, rfl, hL, hV, hl, q⟩ := h
    refine ⟨_, (pss_cons (ps_if (pt_not (pt_val (pe_cl c_is_short_list hg hr (by decide) (by rfl) (pa_cons (pv 0) pa_nil)))) pss_never pss_nil)
      (pss_cons (ps_set (i := 2) sc_check_record.nd rfl (Or.inl rfl) pe_dnewK)
      (pss_one (ps_for PassesOwn.never rfl (pi_enum (by rfl) bt.m_enumerate (pa_cons (pv 0) pa_nil)) (pg_tup rfl (pgs_cons (pg_name (i := 3) sc_check_record.nd rfl (Or.inl rfl)) (pgs_cons (pg_name (i := 4) sc_check_record.nd rfl (Or.inl rfl)) pgs_nil))) (pss_cons (ps_if (PW.pt (pw_or (pt_not (pt_val (pe_cl c_is_event hg hr (by decide) (by rfl) (pa_cons (pv 4) pa_nil)))) (pw_or1 (pt_not (pt_truth (pe_cl c_is_below hg hr (by decide) (by rfl) (pa_cons (pe_ix ix_tup (pv 4) pe_int (fun _ _ => rfl)) (pa_cons (pv 1) pa_nil))) (by intro _; rfl)))))) pss_never pss_nil)
      (pss_one (ps_if (pt_not (pt_val (pe_cl c_can_follow hg hr (by decide) (by rfl) (pa_cons (pv 4) (pa_cons (pe_ifExp (pt_cmpR op_gt (pv 3) pe_int (nomark _)) (pe_ix ix_list (pv 0) (pe_op op_sub (pv 3) pe_int) (fun _ _ => rfl)) pe_non) (pa_cons (pv 2) pa_nil)))))) pss_never pss_nil))))))), ?_⟩
    obtain ⟨as, hc, hT⟩ := hL
    have hlen : (as.map V.ref).length = es.length := by rw [List.length_map]; exact hT.1
    refine ⟨_, rfl, c, _, rfl, hc, by omega, _, rfl, iteF ?_⟩
    intro d nd
    refine ⟨_, rfl, c, _, rfl, SqL.of ((same_upd nd) _ _ hc), for_it (walk_enum (xs := as.map V.ref))
      (fun i σ H' => Same H H' ∧ ∃ kvs y2 y3, σ = [some (.ref c), some .non, some (.ref d), y2, y3] ∧ H' d = some (.dK kvs) ∧ kvs.length ≤ i ∧ HeldK kvs (heldB (es.take i)))
      ⟨same_upd nd, _, _, _, rfl, upd_same, Nat.le_refl _, HeldK.nil⟩ (fun _ _ H' _ p => SqL.of (p.1 _ _ hc)) (fun i x σ H1 H2 hi p y => ?_) (fun σ H1 p => ?_)⟩
    · obtain ⟨s1, kvs, y2, y3, rfl, hd, hkl, hk⟩ := p
      obtain ⟨T, u, v, rfl, nT, rfl, e1, e2⟩ := y
      have hi' : i < es.length := by omega
      obtain ⟨b, hb, hbt⟩ := hT.at_ hi'
      have he : es[i]? = some es[i] := List.getElem?_eq_getElem hi'
      obtain ⟨v1, v2, v3⟩ := hV i _ he
      have e2' : v = .ref b := by
        have e2 : (as.map V.ref)[i]? = some v := e2
        rw [List.getElem?_map, hb] at e2
        exact (Option.some.inj e2).symm
      subst e2'
      have e1' : u = .int (i : Nat) := (Option.some.inj e1).symm
      subst e1'
      have s2 : Same H (upd H1 T (.tup [.int (i : Nat), .ref b])) := s1.trans (same_upd nT)
      have hb2 := s2 _ _ hbt
      refine ⟨T, _, rfl, SqT.of upd_same, rfl, _, _, rfl, _, _, rfl, rfl, ?_⟩
      refine ⟨_, rfl, b, _, rfl, hb2, v1, fun H3 s3 => ?_⟩
      have s4 := s2.trans s3
      have hb4 := s4 _ _ hbt
      refine ⟨_, rfl, iteF ?_⟩
      refine ⟨_, rfl, b, _, _, _, rfl, rfl, SqT.of hb4, atI_nat (j := 1) rfl, _, rfl, es[i].k, rfl, _, rfl, iteF ?_⟩
      have hd4 : H3 d = some (.dK kvs) := s3 _ _ ((same_upd nT) _ _ hd)
      have fin : Same H (upd H3 d (.dK (putK kvs (Sum.inl es[i].k) (.bl es[i].d)))) ∧ ∃ kvs' y2 y3, [some (V.ref c), some V.non, some (V.ref d), some (V.int (i : Nat)), some (V.ref b)] = [some (V.ref c), some V.non, some (V.ref d), y2, y3] ∧
          upd H3 d (.dK (putK kvs (Sum.inl es[i].k) (.bl es[i].d))) d = some (.dK kvs') ∧ kvs'.length ≤ i + 1 ∧ HeldK kvs' (heldB (es.take (i + 1))) := by
        refine ⟨Same.off s4 nd off_upd, _, _, _, rfl, upd_same, ?_, ?_⟩
        · have := put_len kvs (Sum.inl es[i].k) (.bl es[i].d); omega
        · rw [List.take_add_one, he]
          exact hk.put
      have hv : (valV kvs (Sum.inl es[i].k)).getD (.bl false) = .bl (!es[i].d) := by rw [hk.at_, v2]
      have hz : kvs.length < sizeLine := small1000 (by omega)
      refine ⟨_, rfl, _, rfl, _, _, rfl, rfl, _, rfl, ite2 (fun e => ?_) (fun e => ?_)⟩
      · have e0 : (0 : Int) < (i : Nat) := of_decide_eq_true e
        obtain ⟨b', hb', hbt'⟩ := hT.at_ (i := i - 1) (by omega)
        have hle := v3 (i - 1) _ (by omega) (List.getElem?_eq_getElem (by omega))
        have g : (as.map V.ref)[i - 1]? = some (.ref b') := by rw [List.getElem?_map, hb']; rfl
        refine ⟨_, rfl, _, rfl, _, _, rfl, rfl, c, _, _, .ref b', rfl, rfl, SqL.of (s4 _ _ hc), at_of (j := i - 1) (by omega) g, _, rfl, ?_⟩
        exact ⟨b, d, es[i], .ref b', kvs, rfl, hb4, .inr ⟨b', _, rfl, s4 _ _ hbt', hle⟩, hd4, hz, hv, _, rfl, iteF fin⟩
      · exact ⟨_, rfl, b, d, es[i], .non, kvs, rfl, hb4, .inl rfl, hd4, hz, hv, _, rfl, iteF fin⟩
    · exact q _ p.1
end
end K28

set_option Elab.async false
set_option linter.all false
set_option maxRecDepth 100000
set_option maxHeartbeats 8000000
namespace K28
open PySem PySem.Spec PyProof.Rows L2 Gd Rm La Cb Pl
theorem small400 {n : Nat} (h : n ≤ 1000) : n ≤ sizeLine := Nat.le_of_lt (small1000 h)
section
variable {P : Program} {w : World} {K : PySem.W.Frag} {mg : Str → Option Value} {base : Heap}
def spHeld : Sp := fun vs H Q _ => ∃ (c : Addr) (es : List Ev), vs = [.ref c] ∧ Lst evV H c es ∧ es.length ≤ 1000 ∧
  ∀ (H' : Hp) (p : Addr) (ns : List Int), Same H H' → H p = none → H' p = some (.lst (ns.map V.int)) → ns.Pairwise (· ≤ ·) → ns.Nodup → (∀ k, k ∈ ns ↔ heldB es k = true) → ns.length ≤ es.length → Q (.ref p) H'
theorem ok_held_keys (bt : Bt mg) (a : At K mg "held_keys" s_held_keys ["record"]) : Cl P w K mg base 1 "held_keys" spHeld := by
  refine clG a sc_held_keys (fun vs H Q E h => ?_) (fun f cdv A outer s H vs Q hg hr h => ?_)
  · obtain ⟨a, e, rfl, _⟩ := h
    rfl
  · obtain ⟨c, es, rfl, hL, hl, q⟩ := h
    refine ⟨_, (pss_cons (ps_set (i := 1) sc_held_keys.nd rfl (Or.inr rfl) pe_dnewK)
      (pss_cons (ps_for PassesOwn.never rfl (pi_list (pv 0)) (pg_tup rfl (pgs_cons (pg_name (i := 2) sc_held_keys.nd rfl (Or.inl rfl)) (pgs_cons (pg_name (i := 3) sc_held_keys.nd rfl (Or.inl rfl)) (pgs_cons (pg_name (i := 4) sc_held_keys.nd rfl (Or.inl rfl)) pgs_nil)))) (pss_one (ps_dput (hu_of hr) (pv 1) (pv 3) (pe_cmpR op_eq (pv 4) pe_str (nomark _)) rfl)))
      (pss_one (ps_ret (pe_callB cr_sortedI (by rfl) bt.m_sorted (by decide +kernel) (pa_cons (pe_lock (pe_lc (own := [("key", 3)]) (g := (gName 3)) (by rfl) sc_held_keys.nd (pi_keys (pv 1)) (blkOk_by (N := n_held_keys) (sc := defScope s_held_keys) (by decide +kernel)) (fun _ _ _ _ _ => (pg_name (i := 3) sc_held_keys.nd rfl (Or.inl rfl))) (fun _ _ _ _ _ => (pts_one (pt_val (pe_dget (hu_of hr) (pv 1) (pv 3) (fun _ _ => rfl))))) (fun _ _ _ _ _ => (pv 3)))) pa_nil)))))), ?_⟩
    obtain ⟨as, hc, hT⟩ := hL
    have hlen : (as.map V.ref).length = es.length := by rw [List.length_map]; exact hT.1
    intro d nd
    refine ⟨_, rfl, c, rfl, ⟨_, SqL.of ((same_upd nd) _ _ hc)⟩, for_it (walk_list (xs := as.map V.ref))
      (fun i σ H' => Same H H' ∧ ∃ kvs y2 y3 y4, σ = [some (.ref c), some (.ref d), y2, y3, y4] ∧ H' d = some (.dK kvs) ∧ kvs.length ≤ i ∧ HeldK kvs (heldB (es.take i)))
      ⟨same_upd nd, _, _, _, _, rfl, upd_same, Nat.le_refl _, HeldK.nil⟩ (fun _ _ H' _ p => SqL.of (p.1 _ _ hc)) (fun i x σ H1 H2 hi p y => ?_) (fun σ H1 p => ?_)⟩
    · obtain ⟨s1, kvs, y2, y3, y4, rfl, hd, hkl, hk⟩ := p
      obtain ⟨rfl, e2⟩ := y
      have hi' : i < es.length := by omega
      obtain ⟨b, hb, hbt⟩ := hT.at_ hi'
      have he : es[i]? = some es[i] := List.getElem?_eq_getElem hi'
      have e2' : x = .ref b := Option.some.inj (e2.symm.trans (get_map_ref hb))
      subst e2'
      have hb1 := s1 _ _ hbt
      refine ⟨b, _, rfl, SqT.of hb1, rfl, _, _, rfl, _, _, rfl, _, _, rfl, rfl, ?_⟩
      refine ⟨_, rfl, rfl, ?_⟩
      rw [wayS_down]
      refine ⟨_, rfl, _, rfl, d, _, rfl, DPut.k (k := Sum.inl es[i].k) hd (small1000 (by omega)), Same.off s1 nd off_upd, _, _, _, _, rfl, upd_same, ?_, ?_⟩
      · have := put_len kvs (Sum.inl es[i].k) (.bl es[i].d); omega
      · rw [List.take_add_one, he]
        exact hk.put
    · obtain ⟨s1, kvs, y2, y3, y4, rfl, hd, hkl, hk⟩ := p
      rw [hlen] at hkl hk
      rw [List.take_length] at hk
      refine ⟨d, _, hd, True.intro, fun od => ?_⟩
      refine ⟨_, rfl, d, od, rfl, .inl ⟨kvs, upd_same, fun L nL => ?_⟩⟩
      have dL : d ≠ L := ne_of_none (upd_same (H := H1) (a := d) (o := .frz od (.dK kvs))) nL
      refine lc_it walk_keys (fun i H' => H' = upd (upd H1 d (.frz od (.dK kvs))) L (.lst ((downs (kvs.take i)).map V.int))) rfl (fun i H' _ p => by subst p; rw [upd_ne dL]; exact upd_same) (fun i x H2 H3 hi p y => ?_) (fun H2 p => ?_)
      · obtain ⟨rfl, k, v, hkv, rfl⟩ := y
        subst p
        obtain ⟨kk, b, hp⟩ := hk.fm _ (List.mem_of_getElem? hkv)
        obtain ⟨rfl, rfl⟩ := Prod.mk.inj hp
        have hv := val_at hk.nd hkv
        have ht := downs_take hkv
        have hfr : upd (upd H1 d (.frz od (.dK kvs))) L (.lst ((downs (kvs.take i)).map V.int)) d = some (.frz od (.dK kvs)) := by rw [upd_ne dL]; exact upd_same
        refine ⟨rfl, _, rfl, _, rfl, d, _, rfl, .inl ⟨kvs, Sum.inl kk, .inr ⟨od, hfr⟩, rfl, hv.symm⟩, b, rfl, ?_⟩
        cases b with
        | true =>
          refine iteT ⟨_, rfl, _, upd_same, ?_, ?_⟩
          · rw [List.length_map]
            have := downs_len (kvs.take i)
            rw [List.length_take] at this
            exact small1000 (by omega)
          · rw [upd_upd, ht]
            simp [kV]
        | false =>
          refine iteF ?_
          rw [ht]
          rfl
      · subst p
        rw [List.take_length]
        refine ⟨by rw [upd_ne dL]; exact upd_same, L, downs kvs, rfl, ?_, fun ns p hp ho np => ?_⟩
        · refine SqL.of ?_
          rw [upd_ne dL.symm]
          exact upd_same
        · have S : Same H (upd (upd (upd H1 d (.frz od (.dK kvs))) L (.lst ((downs kvs).map V.int))) d (.dK kvs)) :=
            Same.off s1 nd (Off.trans off_upd (Off.trans (Off.of (same_upd nL)) off_upd))
          have hn := downs_nd hk.fm hk.nd
          refine q _ p ns (S.trans (same_upd np)) (S.free np) upd_same ho (hp.nodup_iff.mpr hn) (fun k => ?_) ?_
          · rw [hp.mem_iff, hk.mem]
          · rw [hp.length_eq]
            have := downs_len kvs
            omega
end
end K28

set_option Elab.async false
set_option linter.all false
set_option maxRecDepth 100000
set_option maxHeartbeats 8000000
namespace K28
open PySem PySem.Spec PyProof.Rows L2 Gd Rm La Cb Pl
section
variable {P : Program} {w : World} {K : PySem.W.Frag} {mg : Str → Option Value} {base : Heap}
def spWhole : Sp := fun vs H Q _ => ∃ (c : Addr) (es : List Ev) (b : Bool), vs = [.ref c] ∧ Lst evV H c es ∧ Valid es ∧ es.length ≤ 400 ∧ (b = true ↔ ∀ k, heldB es k = false) ∧ ∀ H', Same H H' → Q (.bl b) H'
theorem ok_is_whole (bt : Bt mg) (a : At K mg "is_whole" s_is_whole ["record"]) (c_check_record : ClD P w K mg base 4 "check_record" spCheckN [.non]) (c_held_keys : Cl P w K mg base 1 "held_keys" spHeld) : Cl P w K mg base 5 "is_whole" spWhole := by
  refine clG a sc_is_whole (fun vs H Q E h => ?_) (fun f cdv A outer s H vs Q hg hr h => ?_)
  · obtain ⟨c, es, b, rfl, _⟩ := h
    rfl
  · obtain ⟨c, es, b, rfl, hL, hV, hl, hb, q⟩ := h
    refine ⟨_, (pss_cons (ps_expr (pe_clD c_check_record hg hr (by decide) (by rfl) (pa_cons (pv 0) pa_nil)))
      (pss_one (ps_ret (pe_cmpR (op_eqD hr.units) (pe_cl c_held_keys hg hr (by decide) (by rfl) (pa_cons (pv 0) pa_nil)) (pe_lst pa_nil) (nomark _))))), ?_⟩
    refine ⟨_, rfl, c, es, rfl, hL, hV, hl, fun H1 s1 => ?_⟩
    refine ⟨_, rfl, c, es, rfl, hL.same s1, by omega, fun H2 p ns s2 np hp hs hn hm hlen => ⟨Nat.zero_le _, fun Z nZ => ?_⟩⟩
    refine ⟨_, _, .lst (SqL.of ((same_upd nZ) _ _ hp)) (dpInts ns), .lst (SqL.of upd_same) .nil, shaped_ints ns, shaped_nil, ?_⟩
    have e : PyData.eqv (.list (ns.map PyData.int)) (.list []) = b := by
      rw [eqv_nil]
      cases ns with
      | nil =>
        refine (hb.mpr fun k => ?_).symm
        cases z : heldB es k with
        | false => rfl
        | true => exact absurd ((hm k).mpr z) (by simp)
      | cons n ns =>
        cases b with
        | false => rfl
        | true =>
          have := hb.mp rfl n
          rw [(hm n).mp List.mem_cons_self] at this
          cases this
    rw [e]
    exact q _ ((s1.trans s2).trans (same_upd nZ))
end
end K28

set_option Elab.async false
set_option linter.all false
set_option maxRecDepth 100000
set_option maxHeartbeats 8000000
namespace K28
open PySem PySem.Spec PyProof.Rows L2 Gd Rm La Cb Pl
theorem cmbs_push {H : Hp} {W : Addr} {xs : List Cmb} {vs : List V} {c : Cmb} {v : V} (hW : H W = some (.lst vs)) (hl : vs.length = xs.length) (hv : ∀ (i : Nat) (v : V) (cb : Cmb), vs[i]? = some v → xs[i]? = some cb → CmbV H cb v) (hc : CmbV H c v) : Cmbs (upd H W (.lst (vs ++ [v]))) W (xs ++ [c]) := by
  refine ⟨vs ++ [v], upd_same, by rw [List.length_append, List.length_append, hl]; rfl, fun i u cb e1 e2 => ?_⟩
  have tk : Tk H (upd H W (.lst (vs ++ [v]))) := tk_upd hW
  by_cases z : i < vs.length
  · rw [List.getElem?_append_left z] at e1
    rw [List.getElem?_append_left (by omega)] at e2
    exact (hv i u cb e1 e2).tk tk
  · have z1 := (List.getElem?_eq_some_iff.mp e1).1
    rw [List.length_append, List.length_singleton] at z1
    have z2 : i = vs.length := by omega
    subst z2
    rw [List.getElem?_append_right (Nat.le_refl _), Nat.sub_self] at e1
    rw [hl, List.getElem?_append_right (Nat.le_refl _), Nat.sub_self] at e2
    cases e1
    cases e2
    exact hc.tk tk
theorem cutSeg {xs : List V} {a b : Nat} (h : a ≤ xs.length) : cutV xs (some (a : Int)) (some (b : Int)) = (xs.drop a).take (b - a) := by
  unfold cutV
  rw [HT.sIx_nat, HT.sIx_nat, Nat.min_eq_left h]
  rcases Nat.le_total b xs.length with h2 | h2
  · rw [Nat.min_eq_left h2]
  · rw [Nat.min_eq_right h2, List.take_of_length_le (by rw [List.length_drop]; omega), List.take_of_length_le (by rw [List.length_drop]; omega)]
theorem maxOr_mem {l : List Int} (h : l ≠ []) : maxOr 0 l ∈ l ∧ ∀ y ∈ l, y ≤ maxOr 0 l := by
  cases l with
  | nil => exact absurd rfl h
  | cons a r =>
    show r.foldl max a ∈ _ ∧ ∀ y ∈ a :: r, y ≤ r.foldl max a
    clear h
    induction r generalizing a with
    | nil => exact ⟨List.mem_cons_self, fun y hy => by have : y = a := List.mem_singleton.mp hy; rw [this]; exact Int.le_refl _⟩
    | cons b r ih =>
      obtain ⟨h1, h2⟩ := ih (max a b)
      have hx := h2 (max a b) List.mem_cons_self
      refine ⟨?_, fun y hy => ?_⟩
      · show (List.foldl max (max a b) r) ∈ _
        rcases List.mem_cons.mp h1 with z | z
        · rw [z]
          rcases Int.le_total a b with q | q
          · rw [Int.max_eq_right q]; exact List.mem_cons_of_mem _ List.mem_cons_self
          · rw [Int.max_eq_left q]; exact List.mem_cons_self
        · exact List.mem_cons_of_mem _ (List.mem_cons_of_mem _ z)
      · show y ≤ List.foldl max (max a b) r
        rcases List.mem_cons.mp hy with z | z
        · omega
        · rcases List.mem_cons.mp z with z | z
          · omega
          · exact h2 y (List.mem_cons_of_mem _ z)
theorem due_eq (cbs : List Cmb) {ds : List Ev} {e : Ev} (h : ds[0]? = some e) : dueG cbs ds = some (e.t + maxOr 0 ((wideC cbs ds).map Cmb.t)) := by
  cases ds with
  | nil => cases h
  | cons a r => cases h; rfl
theorem at_last {as : List Addr} {b : Addr} {n : Nat} (hl : as.length = n + 1) (h : as[n]? = some b) : atI (as.map V.ref) (-1) = some (.ref b) := by
  have e : as.map V.ref = (as.take n).map V.ref ++ [.ref b] := by
    have h1 : as.take (n + 1) = as := List.take_of_length_le (by omega)
    rw [List.take_add_one, h] at h1
    conv => lhs; rw [← h1]
    rw [List.map_append]
    rfl
  rw [e]
  exact atI_last _ _
theorem tups_drop {α : Type} {f : α → List V} {H : Hp} {as : List Addr} {es : List α} (h : Tups H f as es) (n : Nat) : Tups H f (as.drop n) (es.drop n) := by
  refine ⟨by rw [List.length_drop, List.length_drop, h.1], fun i a e u v => ?_⟩
  rw [List.getElem?_drop] at u v
  exact h.2 _ a e u v
theorem prt_snoc {es : List Ev} {a i : Nat} (ha : a ≤ i) (h : i < es.length) : prt es a i ++ [es[i]] = prt es a (i + 1) := by
  unfold prt
  rw [show i + 1 - a = (i - a) + 1 by omega, List.take_add_one, List.getElem?_drop, show a + (i - a) = i by omega, List.getElem?_eq_getElem h]
  rfl
theorem mem_wide {cbs : List Cmb} {ds : List Ev} {c : Cmb} : c ∈ wideC cbs ds ↔ c ∈ cbs ∧ ds.length < c.ks.length ∧ ∀ e ∈ ds, e.k ∈ c.ks := by
  unfold wideC
  rw [List.mem_filter, Bool.and_eq_true, decide_eq_true_iff, List.all_eq_true]
  constructor
  · rintro ⟨a, b, h⟩
    exact ⟨a, b, fun e he => of_decide_eq_true (h e.k (List.mem_map.mpr ⟨e, he, rfl⟩))⟩
  · rintro ⟨a, b, h⟩
    refine ⟨a, b, fun k hk => ?_⟩
    obtain ⟨e, he, rfl⟩ := List.mem_map.mp hk
    exact decide_eq_true (h e he)
theorem due_ge {cbs : List Cmb} {ds : List Ev} {e : Ev} {d : Int} {c : Cmb} (h0 : ds[0]? = some e) (h : dueG cbs ds = some d) (hc : c ∈ wideC cbs ds) : e.t + c.t ≤ d := by
  rw [due_eq cbs h0] at h
  have h := Option.some.inj h
  have hm : c.t ∈ (wideC cbs ds).map Cmb.t := List.mem_map.mpr ⟨c, hc, rfl⟩
  have := (maxOr_mem (List.ne_nil_of_mem hm)).2 _ hm
  omega
theorem due_le {cbs : List Cmb} {ds : List Ev} {e : Ev} {d T : Int} (h0 : ds[0]? = some e) (h : dueG cbs ds = some d) (he : e.t ≤ T) (hc : ∀ c ∈ wideC cbs ds, e.t + c.t ≤ T) : d ≤ T := by
  rw [due_eq cbs h0] at h
  have h := Option.some.inj h
  by_cases z : (wideC cbs ds).map Cmb.t = []
  · rw [z] at h
    have h : e.t + 0 = d := h
    omega
  · obtain ⟨g1, _⟩ := maxOr_mem z
    obtain ⟨c, hc1, e2⟩ := List.mem_map.mp g1
    have := hc c hc1
    omega
/-! ### the first piece does not look beyond the row -/
theorem fp_ex (cbs : List Cmb) (ds : List Ev) : ∃ o, FpAt cbs ds o := by
  by_cases h3 : ∃ cb ∈ cbs, Match cb 3 ds
  · obtain ⟨cb, hc, hm⟩ := h3
    obtain ⟨i, hi⟩ := List.getElem?_of_mem hc
    have e := fp_three hc hm
    exact ⟨some i, ⟨fun j ej => by cases ej; exact ⟨cb, hi, by rw [e]; exact hm⟩, fun z => by cases z⟩⟩
  · have n3 : ∀ cb ∈ cbs, ¬ Match cb 3 ds := fun cb hc hm => h3 ⟨cb, hc, hm⟩
    by_cases h2 : ∃ cb ∈ cbs, Match cb 2 ds
    · obtain ⟨cb, hc, hm⟩ := h2
      obtain ⟨i, hi⟩ := List.getElem?_of_mem hc
      have e := fp_two n3 hc hm
      exact ⟨some i, ⟨fun j ej => by cases ej; exact ⟨cb, hi, by rw [e]; exact hm⟩, fun z => by cases z⟩⟩
    · exact ⟨none, ⟨fun j ej => (by cases ej), fun _ => fp_one n3 fun cb hc hm => h2 ⟨cb, hc, hm⟩⟩⟩
theorem fp_same {m : Int} {cbs : List Cmb} (ok : CbsOk m cbs) {ds rest : List Ev} (hne : ds ≠ []) {T : Int} (hd : dueBy cbs T ds) (ht : ∀ e ∈ rest, T ≤ e.t) : fp cbs (ds ++ rest) = fp cbs ds ∧ ownG m cbs (ds ++ rest) = ownG m cbs ds := by
  obtain ⟨d, hd, hT⟩ := hd
  have hpos : 0 < ds.length := List.length_pos_iff.mpr hne
  have g0 : (ds ++ rest)[0]? = ds[0]? := List.getElem?_append_left hpos
  have mt : ∀ (cb : Cmb) (s : Nat), cb ∈ cbs → (Match cb s (ds ++ rest) ↔ Match cb s ds) := fun cb s hc => by
    have s2 := (ok.all cb hc).len
    constructor
    · intro h
      obtain ⟨h1, h2, a, b, ha, hb, hlt⟩ := h
      by_cases hs : s ≤ ds.length
      · refine ⟨h1, by rw [List.take_append_of_le_length hs] at h2; exact h2, a, b, g0 ▸ ha, ?_, hlt⟩
        rw [List.getElem?_append_left (by omega)] at hb
        exact hb
      · exfalso
        rw [g0] at ha
        have hw : cb ∈ wideC cbs ds := mem_wide.mpr ⟨hc, by omega, fun e he => h2.mem_iff.mpr (List.mem_map.mpr ⟨e, by
          rw [List.take_append, List.take_of_length_le (by omega)]
          exact List.mem_append_left _ he, rfl⟩)⟩
        have h3 := due_ge ha hd hw
        rw [List.getElem?_append_right (by omega)] at hb
        have h4 := ht b (List.mem_of_getElem? hb)
        omega
    · intro h
      have hs := match_le h
      obtain ⟨h1, h2, a, b, ha, hb, hlt⟩ := h
      refine ⟨h1, by rw [List.take_append_of_le_length hs]; exact h2, a, b, g0.trans ha, ?_, hlt⟩
      rw [List.getElem?_append_left (by omega)]
      exact hb
  have ef : fp cbs (ds ++ rest) = fp cbs ds := by
    have e3 : (∃ cb ∈ cbs, Match cb 3 (ds ++ rest)) ↔ ∃ cb ∈ cbs, Match cb 3 ds := ⟨fun ⟨cb, hc, h⟩ => ⟨cb, hc, (mt cb 3 hc).mp h⟩, fun ⟨cb, hc, h⟩ => ⟨cb, hc, (mt cb 3 hc).mpr h⟩⟩
    have e2 : (∃ cb ∈ cbs, Match cb 2 (ds ++ rest)) ↔ ∃ cb ∈ cbs, Match cb 2 ds := ⟨fun ⟨cb, hc, h⟩ => ⟨cb, hc, (mt cb 2 hc).mp h⟩, fun ⟨cb, hc, h⟩ => ⟨cb, hc, (mt cb 2 hc).mpr h⟩⟩
    unfold fp
    by_cases y3 : ∃ cb ∈ cbs, Match cb 3 ds
    · rw [if_pos y3, if_pos (e3.mpr y3)]
    · rw [if_neg y3, if_neg (fun z => y3 (e3.mp z))]
      by_cases y2 : ∃ cb ∈ cbs, Match cb 2 ds
      · rw [if_pos y2, if_pos (e2.mpr y2)]
      · rw [if_neg y2, if_neg (fun z => y2 (e2.mp z))]
  refine ⟨ef, ?_⟩
  obtain ⟨o, ho⟩ := fp_ex cbs ds
  have ho2 : FpAt cbs (ds ++ rest) o := ⟨fun i e => by
    obtain ⟨cb, hi, hm⟩ := ho.yes i e
    exact ⟨cb, hi, by rw [ef]; exact (mt cb _ (List.mem_of_getElem? hi)).mpr hm⟩, fun e => by rw [ef]; exact ho.no e⟩
  unfold ownG
  rw [spot_eq ok ho, spot_eq ok ho2]
  cases o with
  | some i => rfl
  | none =>
    show ((ds ++ rest).getD 0 _).k = (ds.getD 0 _).k
    rw [List.getD_eq_getElem?_getD, List.getD_eq_getElem?_getD, g0]
/-! ### the law's turns -/
theorem lay_ev : ∀ es : List Ev, PyData.canLayAll0 (es.map evD) = true ∧ PyData.depthAll (es.map evD) ≤ 1
  | [] => ⟨rfl, by decide⟩
  | e :: es => by
    obtain ⟨a, b⟩ := lay_ev es
    refine ⟨?_, ?_⟩
    · have h : PyData.canLay0 (.str (wayS e.d)) = true := by cases e.d <;> decide +kernel
      show ((true && (true && (PyData.canLay0 (.str (wayS e.d)) && true))) && PyData.canLayAll0 (es.map evD)) = true
      rw [a, h]
      rfl
    · show max (PyData.depth (evD e)) (PyData.depthAll (es.map evD)) ≤ 1
      have : PyData.depth (evD e) = 1 := rfl
      omega
theorem shaped_rec (es : List Ev) : SeqAt.shaped (recD es) = true := by
  obtain ⟨a, b⟩ := lay_ev es
  unfold SeqAt.shaped
  rw [Bool.and_eq_true]
  exact ⟨a, decide_eq_true (by show PyData.depthAll _ + 1 ≤ _; omega)⟩
/-! ### pieces that leave, with their sizes -/
inductive StL (m : Int) (cbs : List Cmb) (G : List Ev → Prop) (now : Int) (ds : List Ev) (sn : Sn) : List Ev → List Ev → Sn → List Int → Prop
  | refl : StL m cbs G now ds sn [] ds sn []
  | snoc {outs ds' : List Ev} {sn' : Sn} {qs : List Int} : StL m cbs G now ds sn outs ds' sn' qs → G ds' → ds' ≠ [] →
      StL m cbs G now ds sn (outs ++ [⟨now, ownG m cbs ds', true⟩]) (ds'.drop (fp cbs ds')) (sentS (ownG m cbs ds') sn' ((ds'.take (fp cbs ds')).map Ev.k)) (qs ++ [((fp cbs ds' : Nat) : Int)])
theorem StL.st {m : Int} {cbs : List Cmb} {G : List Ev → Prop} {now : Int} {ds : List Ev} {sn : Sn} {outs ds' : List Ev} {sn' : Sn} {qs : List Int} (h : StL m cbs G now ds sn outs ds' sn' qs) : Steps m cbs G now ds sn outs ds' sn' := by
  induction h with
  | refl => exact .refl
  | snoc _ g ne ih => exact .snoc ih g ne
theorem StL.len {m : Int} {cbs : List Cmb} {G : List Ev → Prop} {now : Int} {ds : List Ev} {sn : Sn} {outs ds' : List Ev} {sn' : Sn} {qs : List Int} (h : StL m cbs G now ds sn outs ds' sn' qs) : outs.length + ds'.length ≤ ds.length ∧ qs.length = outs.length := by
  refine ⟨h.st.len, ?_⟩
  induction h with
  | refl => rfl
  | snoc _ _ _ ih => rw [List.length_append, List.length_append, ih]; rfl
theorem StL.suf {m : Int} {cbs : List Cmb} {G : List Ev → Prop} {now : Int} {ds : List Ev} {sn : Sn} {outs ds' : List Ev} {sn' : Sn} {qs : List Int} (h : StL m cbs G now ds sn outs ds' sn' qs) : ∃ k, ds' = ds.drop k := by
  induction h with
  | refl => exact ⟨0, rfl⟩
  | snoc _ _ _ ih =>
    obtain ⟨k, e⟩ := ih
    rw [e, List.drop_drop]
    exact ⟨_, rfl⟩
theorem StL.mem {m : Int} {cbs : List Cmb} {G : List Ev → Prop} {now : Int} {ds : List Ev} {sn : Sn} {outs ds' : List Ev} {sn' : Sn} {qs : List Int} (h : StL m cbs G now ds sn outs ds' sn' qs) : ∀ e ∈ ds', e ∈ ds := by
  obtain ⟨k, e⟩ := h.suf
  rw [e]
  exact fun x hx => List.mem_of_mem_drop hx
/-! ### the law's row, what it sent, the sizes -/
section
variable {m : Int} {cbs : List Cmb}
theorem Steps.head {G : List Ev → Prop} {now : Int} {ds : List Ev} {sn : Sn} {outs ds' : List Ev} {sn' : Sn} (h : Steps m cbs G now ds sn outs ds' sn') : (outs = [] ∧ ds' = ds ∧ sn' = sn) ∨ (G ds ∧ ds ≠ [] ∧ ∃ o2, outs = ⟨now, ownG m cbs ds, true⟩ :: o2 ∧ Steps m cbs G now (ds.drop (fp cbs ds)) (sentS (ownG m cbs ds) sn ((ds.take (fp cbs ds)).map Ev.k)) o2 ds' sn') := by
  induction h with
  | refl => exact .inl ⟨rfl, rfl, rfl⟩
  | @snoc outs ds' sn' _ g ne ih =>
    rcases ih with ⟨rfl, rfl, rfl⟩ | ⟨a, b, o2, rfl, st⟩
    · exact .inr ⟨g, ne, [], rfl, .refl⟩
    · exact .inr ⟨a, b, _, rfl, st.snoc g ne⟩
theorem Steps.trans {G : List Ev → Prop} {now : Int} {ds : List Ev} {sn : Sn} {o1 ds1 : List Ev} {sn1 : Sn} {o2 ds2 : List Ev} {sn2 : Sn} (h : Steps m cbs G now ds sn o1 ds1 sn1) (g : Steps m cbs G now ds1 sn1 o2 ds2 sn2) : Steps m cbs G now ds sn (o1 ++ o2) ds2 sn2 := by
  induction g with
  | refl => rw [List.append_nil]; exact h
  | snoc _ a b ih => rw [← List.append_assoc]; exact ih.snoc a b
theorem Steps.uniq {G : List Ev → Prop} {now : Int} : ∀ (n : Nat) {ds : List Ev} {sn : Sn} {o1 d1 : List Ev} {s1 : Sn} {o2 d2 : List Ev} {s2 : Sn}, ds.length ≤ n → Steps m cbs G now ds sn o1 d1 s1 → Steps m cbs G now ds sn o2 d2 s2 → ¬ (G d1 ∧ d1 ≠ []) → ¬ (G d2 ∧ d2 ≠ []) → o1 = o2 ∧ d1 = d2 ∧ s1 = s2
  | 0, ds, sn, o1, d1, s1, o2, d2, s2, hn, h1, h2, _, _ => by
    rcases h1.head with ⟨rfl, rfl, rfl⟩ | ⟨_, ne, _⟩
    · rcases h2.head with ⟨rfl, rfl, rfl⟩ | ⟨_, ne, _⟩
      · exact ⟨rfl, rfl, rfl⟩
      · exact absurd (List.eq_nil_of_length_eq_zero (by omega)) ne
    · exact absurd (List.eq_nil_of_length_eq_zero (by omega)) ne
  | n + 1, ds, sn, o1, d1, s1, o2, d2, s2, hn, h1, h2, n1, n2 => by
    rcases h1.head with ⟨rfl, rfl, rfl⟩ | ⟨g1, ne, p1, rfl, t1⟩
    · rcases h2.head with ⟨rfl, rfl, rfl⟩ | ⟨g, ne, _⟩
      · exact ⟨rfl, rfl, rfl⟩
      · exact absurd ⟨g, ne⟩ n1
    · rcases h2.head with ⟨rfl, rfl, rfl⟩ | ⟨g2, _, p2, rfl, t2⟩
      · exact absurd ⟨g1, ne⟩ n2
      · have := fp_pos cbs ds
        have := List.length_pos_iff.mpr ne
        obtain ⟨a, b, c⟩ := Steps.uniq n (by rw [List.length_drop]; omega) t1 t2 n1 n2
        exact ⟨by rw [a], b, c⟩
theorem Clks.head {tick : Int} {ds : List Ev} {sn : Sn} {outs ds' : List Ev} {sn' : Sn} (h : Clks m cbs tick ds sn outs ds' sn') : (outs = [] ∧ ds' = ds ∧ sn' = sn) ∨ ∃ (d : Int) (oA d1 : List Ev) (s1 : Sn) (oB : List Ev), dueG cbs ds = some d ∧ d ≤ tick ∧ Steps m cbs (dueBy cbs d) d ds sn oA d1 s1 ∧ ¬ dueBy cbs d d1 ∧ outs = oA ++ oB ∧ Clks m cbs tick d1 s1 oB ds' sn' := by
  induction h with
  | refl => exact .inl ⟨rfl, rfl, rfl⟩
  | snoc _ e l st nd ih =>
    rcases ih with ⟨rfl, rfl, rfl⟩ | ⟨d, oA, d1, s1, oB, a, b, c, f, rfl, t⟩
    · exact .inr ⟨_, _, _, _, [], e, l, st, nd, (by rw [List.append_nil]; rfl), .refl⟩
    · exact .inr ⟨d, oA, d1, s1, _, a, b, c, f, (List.append_assoc ..), t.snoc e l st nd⟩
theorem Clks.uniq {tick : Int} : ∀ (n : Nat) {ds : List Ev} {sn : Sn} {o1 d1 : List Ev} {s1 : Sn} {o2 d2 : List Ev} {s2 : Sn}, ds.length ≤ n → Clks m cbs tick ds sn o1 d1 s1 → Clks m cbs tick ds sn o2 d2 s2 → ¬ dueBy cbs tick d1 → ¬ dueBy cbs tick d2 → o1 = o2 ∧ d1 = d2 ∧ s1 = s2
  | n, ds, sn, o1, d1, s1, o2, d2, s2, hn, h1, h2, n1, n2 => by
    rcases h1.head with ⟨rfl, rfl, rfl⟩ | ⟨d, oA, da, sa, oB, e1, l1, t1, f1, rfl, r1⟩
    · rcases h2.head with ⟨rfl, rfl, rfl⟩ | ⟨d, _, _, _, _, e, l, _⟩
      · exact ⟨rfl, rfl, rfl⟩
      · exact absurd ⟨d, e, l⟩ n1
    · rcases h2.head with ⟨rfl, rfl, rfl⟩ | ⟨d', oA', da', sa', oB', e2, l2, t2, f2, rfl, r2⟩
      · exact absurd ⟨d, e1, l1⟩ n2
      · rw [e1] at e2
        cases e2
        have pr := t1.prog ⟨d, e1, Int.le_refl _⟩ f1
        obtain ⟨rfl, rfl, rfl⟩ := Steps.uniq ds.length (Nat.le_refl _) t1 t2 (fun z => f1 z.1) (fun z => f2 z.1)
        cases n with
        | zero => omega
        | succ n =>
          obtain ⟨a, b, c⟩ := Clks.uniq n (by omega) r1 r2 n1 n2
          exact ⟨by rw [a], b, c⟩
theorem Clks.mono {tick tick' : Int} {ds : List Ev} {sn : Sn} {outs ds' : List Ev} {sn' : Sn} (h : Clks m cbs tick ds sn outs ds' sn') (l : tick ≤ tick') : Clks m cbs tick' ds sn outs ds' sn' := by
  induction h with
  | refl => exact .refl
  | snoc _ e l2 st nd ih => exact ih.snoc e (by omega) st nd
theorem Clks.runs {tick : Int} {ds : List Ev} {sn : Sn} {outs ds' : List Ev} {sn' : Sn} (h : Clks m cbs tick ds sn outs ds' sn') : Runs m cbs ds sn outs ds' sn' := by
  induction h with
  | refl => exact .refl
  | snoc _ e l2 st nd ih =>
    refine ih.snoc e ?_ nd
    have := Clks.refl (m := m) (cbs := cbs) (tick := _) (ds := _) (sn := _) |>.snoc e (Int.le_refl _) st nd
    rw [List.nil_append] at this
    exact this
theorem Runs.head {ds : List Ev} {sn : Sn} {outs ds' : List Ev} {sn' : Sn} (h : Runs m cbs ds sn outs ds' sn') : (outs = [] ∧ ds' = ds ∧ sn' = sn) ∨ ∃ (d : Int) (oA d1 : List Ev) (s1 : Sn) (oB : List Ev), dueG cbs ds = some d ∧ Clks m cbs d ds sn oA d1 s1 ∧ ¬ dueBy cbs d d1 ∧ outs = oA ++ oB ∧ Runs m cbs d1 s1 oB ds' sn' := by
  induction h with
  | refl => exact .inl ⟨rfl, rfl, rfl⟩
  | snoc _ e ck nd ih =>
    rcases ih with ⟨rfl, rfl, rfl⟩ | ⟨d, oA, d1, s1, oB, a, c, f, rfl, t⟩
    · exact .inr ⟨_, _, _, _, [], e, ck, nd, (by rw [List.append_nil]; rfl), .refl⟩
    · exact .inr ⟨d, oA, d1, s1, _, a, c, f, (List.append_assoc ..), t.snoc e ck nd⟩
theorem Runs.uniq : ∀ (n : Nat) {ds : List Ev} {sn : Sn} {o1 : List Ev} {s1 : Sn} {o2 : List Ev} {s2 : Sn}, ds.length ≤ n → Runs m cbs ds sn o1 [] s1 → Runs m cbs ds sn o2 [] s2 → o1 = o2 ∧ s1 = s2
  | n, ds, sn, o1, s1, o2, s2, hn, h1, h2 => by
    rcases h1.head with ⟨rfl, rfl, rfl⟩ | ⟨d, oA, da, sa, oB, e1, t1, f1, rfl, r1⟩
    · rcases h2.head with ⟨rfl, _, rfl⟩ | ⟨d, _, _, _, _, e, _⟩
      · exact ⟨rfl, rfl⟩
      · cases e
    · rcases h2.head with ⟨rfl, rfl, rfl⟩ | ⟨d', oA', da', sa', oB', e2, t2, f2, rfl, r2⟩
      · cases e1
      · rw [e1] at e2
        cases e2
        have pr := t1.prog e1 f1
        obtain ⟨rfl, rfl, rfl⟩ := Clks.uniq ds.length (Nat.le_refl _) t1 t2 f1 f2
        cases n with
        | zero => omega
        | succ n =>
          obtain ⟨a, c⟩ := Runs.uniq n (by omega) r1 r2
          exact ⟨by rw [a], c⟩
theorem Come.uniq {e : Ev} {ds : List Ev} {sn : Sn} {o1 d1 : List Ev} {s1 : Sn} {o2 d2 : List Ev} {s2 : Sn} (h1 : Come m cbs e ds sn o1 d1 s1) (h2 : Come m cbs e ds sn o2 d2 s2) : o1 = o2 ∧ d1 = d2 ∧ s1 = s2 := by
  cases h1 with
  | down a st nd =>
    cases h2 with
    | down a' st' nd' => exact Steps.uniq _ (Nat.le_refl _) st st' (fun z => nd z.1) (fun z => nd' z.1)
    | up a' _ _ => rw [a] at a'; cases a'
  | up a st g =>
    cases h2 with
    | down a' _ _ => rw [a] at a'; cases a'
    | up a' st' g' =>
      obtain ⟨rfl, _, rfl⟩ := Steps.uniq _ (Nat.le_refl _) st st' (fun z => z.2 rfl) (fun z => z.2 rfl)
      rw [g] at g'
      cases g'
      exact ⟨rfl, rfl, rfl⟩
theorem Comes.inv {es outs ds : List Ev} {sn : Sn} (h : Comes m cbs es outs ds sn) : (es = [] ∧ outs = [] ∧ ds = [] ∧ sn = []) ∨ ∃ (es0 o1 ds1 o2 ds2 o3 : List Ev) (sn1 sn2 : Sn) (e : Ev), es = es0 ++ [e] ∧ Comes m cbs es0 o1 ds1 sn1 ∧ Clks m cbs e.t ds1 sn1 o2 ds2 sn2 ∧ ¬ dueBy cbs e.t ds2 ∧ Come m cbs e ds2 sn2 o3 ds sn ∧ outs = o1 ++ o2 ++ o3 := by
  cases h with
  | nil => exact .inl ⟨rfl, rfl, rfl, rfl⟩
  | snoc a b c d => exact .inr ⟨_, _, _, _, _, _, _, _, _, rfl, a, b, c, d, rfl⟩
theorem Comes.uniq {es o1 d1 : List Ev} {s1 : Sn} (h1 : Comes m cbs es o1 d1 s1) : ∀ {o2 d2 : List Ev} {s2 : Sn}, Comes m cbs es o2 d2 s2 → o1 = o2 ∧ d1 = d2 ∧ s1 = s2 := by
  induction h1 with
  | nil =>
    intro o2 d2 s2 h2
    rcases h2.inv with ⟨_, rfl, rfl, rfl⟩ | ⟨es0, _, _, _, _, _, _, _, e, z, _⟩
    · exact ⟨rfl, rfl, rfl⟩
    · have := congrArg List.length z
      rw [List.length_append] at this
      simp at this
  | snoc _ ck nd co ih =>
    intro o2 d2 s2 h2
    rcases h2.inv with ⟨z, _⟩ | ⟨es0, _, _, _, _, _, _, _, e, z, a, b, c, d, rfl⟩
    · have := congrArg List.length z
      rw [List.length_append] at this
      simp at this
    · obtain ⟨rfl, z2⟩ := List.append_inj' z rfl
      cases z2
      obtain ⟨rfl, rfl, rfl⟩ := ih a
      obtain ⟨rfl, rfl, rfl⟩ := Clks.uniq _ (Nat.le_refl _) ck b nd c
      obtain ⟨rfl, rfl, rfl⟩ := Come.uniq co d
      exact ⟨rfl, rfl, rfl⟩
theorem Gtd.uniq {es o1 o2 : List Ev} (h1 : Gtd m cbs es o1) (h2 : Gtd m cbs es o2) : o1 = o2 := by
  obtain ⟨a1, b1, d1, s1, t1, c1, r1, rfl⟩ := h1
  obtain ⟨a2, b2, d2, s2, t2, c2, r2, rfl⟩ := h2
  obtain ⟨rfl, rfl, rfl⟩ := c1.uniq c2
  obtain ⟨rfl, _⟩ := Runs.uniq _ (Nat.le_refl _) r1 r2
  rfl
end
theorem fp_cong {m : Int} {cbs : List Cmb} (ok : CbsOk m cbs) {d1 d2 : List Ev} (g0 : d2[0]? = d1[0]?) (mt : ∀ (cb : Cmb) (s : Nat), cb ∈ cbs → (Match cb s d2 ↔ Match cb s d1)) : fp cbs d2 = fp cbs d1 ∧ ownG m cbs d2 = ownG m cbs d1 := by
  have ef : fp cbs d2 = fp cbs d1 := by
    have e3 : (∃ cb ∈ cbs, Match cb 3 d2) ↔ ∃ cb ∈ cbs, Match cb 3 d1 := ⟨fun ⟨cb, hc, h⟩ => ⟨cb, hc, (mt cb 3 hc).mp h⟩, fun ⟨cb, hc, h⟩ => ⟨cb, hc, (mt cb 3 hc).mpr h⟩⟩
    have e2 : (∃ cb ∈ cbs, Match cb 2 d2) ↔ ∃ cb ∈ cbs, Match cb 2 d1 := ⟨fun ⟨cb, hc, h⟩ => ⟨cb, hc, (mt cb 2 hc).mp h⟩, fun ⟨cb, hc, h⟩ => ⟨cb, hc, (mt cb 2 hc).mpr h⟩⟩
    unfold fp
    by_cases y3 : ∃ cb ∈ cbs, Match cb 3 d1
    · rw [if_pos y3, if_pos (e3.mpr y3)]
    · rw [if_neg y3, if_neg (fun z => y3 (e3.mp z))]
      by_cases y2 : ∃ cb ∈ cbs, Match cb 2 d1
      · rw [if_pos y2, if_pos (e2.mpr y2)]
      · rw [if_neg y2, if_neg (fun z => y2 (e2.mp z))]
  refine ⟨ef, ?_⟩
  obtain ⟨o, ho⟩ := fp_ex cbs d1
  have ho2 : FpAt cbs d2 o := ⟨fun i e => by
    obtain ⟨cb, hi, hm⟩ := ho.yes i e
    exact ⟨cb, hi, by rw [ef]; exact (mt cb _ (List.mem_of_getElem? hi)).mpr hm⟩, fun e => by rw [ef]; exact ho.no e⟩
  unfold ownG
  rw [spot_eq ok ho, spot_eq ok ho2]
  cases o with
  | some i => rfl
  | none =>
    show (d2.getD 0 _).k = (d1.getD 0 _).k
    rw [List.getD_eq_getElem?_getD, List.getD_eq_getElem?_getD, g0]
theorem run_end {es : List Ev} : ∀ (k j : Nat), k + j = es.length → ∃ e, j ≤ e ∧ e ≤ es.length ∧ Downs es j e ∧ Stops es e
  | 0, j, h => ⟨j, Nat.le_refl _, by omega, fun i a b => by omega, .inl (by show j = es.length; omega)⟩
  | k + 1, j, h => by
    have hj : j < es.length := by omega
    cases hd : es[j].d with
    | false => exact ⟨j, Nat.le_refl _, by omega, fun i a b => by omega, .inr ⟨es[j], List.getElem?_eq_getElem hj, hd⟩⟩
    | true =>
      obtain ⟨e, h1, h2, h3, h4⟩ := run_end (es := es) k (j + 1) (by omega)
      refine ⟨e, by omega, h2, fun i a b => ?_, h4⟩
      by_cases z : i = j
      · subst z; exact ⟨es[i], List.getElem?_eq_getElem hj, hd⟩
      · exact h3 i (by omega) b
theorem prt_split {es : List Ev} {a j e : Nat} (h1 : a ≤ j) (h2 : j ≤ e) : prt es a e = prt es a j ++ prt es j e := by
  unfold prt
  have h := List.take_add (l := es.drop a) (i := j - a) (j := e - j)
  rw [show j - a + (e - j) = e - a by omega, List.drop_drop, show a + (j - a) = j by omega] at h
  exact h
theorem prt_self (es : List Ev) (j : Nat) : prt es j j = [] := by unfold prt; rw [Nat.sub_self]; rfl
theorem prt_cut {es : List Ev} {a c n : Nat} : (prt es a c).drop n = prt es (a + n) c := by
  unfold prt
  rw [List.drop_take, List.drop_drop, show c - a - n = c - (a + n) by omega]
end K28

set_option Elab.async false
set_option linter.all false
set_option maxRecDepth 100000
set_option maxHeartbeats 8000000
namespace K28
open PySem PySem.Spec PyProof.Rows L2 Gd Rm La Cb Pl
/-! ### later, and with other names -/
def mv (σ : Int → Int) (s : Int) (e : Ev) : Ev := ⟨e.t + s, σ e.k, e.d⟩
def mvS (σ : Int → Int) (sn : Sn) : Sn := sn.map fun p => (σ p.1, p.2.map σ)
structure Hom (m : Int) (cbs cbs' : List Cmb) (σ : Int → Int) (s : Int) : Prop where
  len : cbs'.length = cbs.length
  at_ : ∀ (i : Nat) (c c' : Cmb), cbs[i]? = some c → cbs'[i]? = some c' → c'.ks.Perm (c.ks.map σ) ∧ c'.t = c.t
  inj : ∀ a b, σ a = σ b → a = b
  own : ∀ i : Nat, i < cbs.length → σ (m + i) = m + i
  ok : CbsOk m cbs
  ok' : CbsOk m cbs'
theorem perm_inj {σ : Int → Int} (inj : ∀ a b, σ a = σ b → a = b) {xs ys : List Int} (h : (xs.map σ).Perm (ys.map σ)) : xs.Perm ys := by
  have ⟨τ, hτ⟩ : ∃ τ : Int → Int, ∀ a, τ (σ a) = a := by
    classical
    refine ⟨fun b => if h : ∃ a, σ a = b then h.choose else b, fun a => ?_⟩
    have hx : ∃ x, σ x = σ a := ⟨a, rfl⟩
    show (if h : ∃ x, σ x = σ a then h.choose else σ a) = a
    rw [dif_pos hx]
    exact inj _ _ hx.choose_spec
  have h2 := h.map τ
  rw [List.map_map, List.map_map] at h2
  have e : (τ ∘ σ) = id := funext hτ
  rw [e, List.map_id, List.map_id] at h2
  exact h2
section
variable {m : Int} {cbs cbs' : List Cmb} {σ : Int → Int} {s : Int}
theorem Hom.to (h : Hom m cbs cbs' σ s) {c : Cmb} (hc : c ∈ cbs) : ∃ (i : Nat) (c' : Cmb), cbs[i]? = some c ∧ cbs'[i]? = some c' := by
  obtain ⟨i, hi⟩ := List.getElem?_of_mem hc
  have := (List.getElem?_eq_some_iff.mp hi).1
  have hl := h.len
  exact ⟨i, cbs'[i], hi, List.getElem?_eq_getElem (by omega)⟩
theorem Hom.back (h : Hom m cbs cbs' σ s) {c' : Cmb} (hc : c' ∈ cbs') : ∃ (i : Nat) (c : Cmb), cbs[i]? = some c ∧ cbs'[i]? = some c' := by
  obtain ⟨i, hi⟩ := List.getElem?_of_mem hc
  have := (List.getElem?_eq_some_iff.mp hi).1
  have hl := h.len
  exact ⟨i, cbs[i], List.getElem?_eq_getElem (by omega), hi⟩
theorem keys_mv (ds : List Ev) : (ds.map (mv σ s)).map Ev.k = (ds.map Ev.k).map σ := by
  rw [List.map_map, List.map_map]
  rfl
theorem Hom.mt (h : Hom m cbs cbs' σ s) {i : Nat} {c c' : Cmb} (e : cbs[i]? = some c) (e' : cbs'[i]? = some c') (n : Nat) (ds : List Ev) : Match c' n (ds.map (mv σ s)) ↔ Match c n ds := by
  obtain ⟨hp, ht⟩ := h.at_ i c c' e e'
  have hl := hp.length_eq
  rw [List.length_map] at hl
  unfold Match
  rw [hl, ← List.map_take, keys_mv, List.getElem?_map, List.getElem?_map, ht]
  constructor
  · rintro ⟨h1, h2, a, b, ha, hb, hlt⟩
    refine ⟨h1, perm_inj h.inj (hp.symm.trans h2), ?_⟩
    cases ea : ds[0]? with
    | none => rw [ea] at ha; cases ha
    | some x =>
      cases eb : ds[n - 1]? with
      | none => rw [eb] at hb; cases hb
      | some y =>
        rw [ea] at ha
        rw [eb] at hb
        cases ha
        cases hb
        refine ⟨x, y, rfl, rfl, ?_⟩
        have hlt : y.t + s < x.t + s + c.t := hlt
        omega
  · rintro ⟨h1, h2, a, b, ha, hb, hlt⟩
    refine ⟨h1, hp.trans (h2.map σ), mv σ s a, mv σ s b, by rw [ha]; rfl, by rw [hb]; rfl, ?_⟩
    show b.t + s < a.t + s + c.t
    omega
theorem Hom.fp_ (h : Hom m cbs cbs' σ s) (ds : List Ev) : fp cbs' (ds.map (mv σ s)) = fp cbs ds := by
  have ex : ∀ n, (∃ cb ∈ cbs', Match cb n (ds.map (mv σ s))) ↔ ∃ cb ∈ cbs, Match cb n ds := fun n => by
    constructor
    · rintro ⟨c', hc, hm⟩
      obtain ⟨i, c, e, e'⟩ := h.back hc
      exact ⟨c, List.mem_of_getElem? e, (h.mt e e' n ds).mp hm⟩
    · rintro ⟨c, hc, hm⟩
      obtain ⟨i, c', e, e'⟩ := h.to hc
      exact ⟨c', List.mem_of_getElem? e', (h.mt e e' n ds).mpr hm⟩
  unfold Cb.fp
  by_cases y3 : ∃ cb ∈ cbs, Match cb 3 ds
  · rw [if_pos y3, if_pos ((ex 3).mpr y3)]
  · rw [if_neg y3, if_neg (fun z => y3 ((ex 3).mp z))]
    by_cases y2 : ∃ cb ∈ cbs, Match cb 2 ds
    · rw [if_pos y2, if_pos ((ex 2).mpr y2)]
    · rw [if_neg y2, if_neg (fun z => y2 ((ex 2).mp z))]
theorem Hom.own_ (h : Hom m cbs cbs' σ s) {ds : List Ev} (ne : ds ≠ []) : ownG m cbs' (ds.map (mv σ s)) = σ (ownG m cbs ds) := by
  obtain ⟨o, ho⟩ := fp_ex cbs ds
  have ho2 : FpAt cbs' (ds.map (mv σ s)) o := ⟨fun i e => by
    obtain ⟨cb, hi, hm⟩ := ho.yes i e
    obtain ⟨j, c', e1, e2⟩ := h.to (List.mem_of_getElem? hi)
    have il := (List.getElem?_eq_some_iff.mp hi).1
    have hl := h.len
    have e3 : cbs'[i]? = some cbs'[i] := List.getElem?_eq_getElem (by omega)
    exact ⟨_, e3, by rw [h.fp_]; exact (h.mt hi e3 _ ds).mpr hm⟩, fun e => by rw [h.fp_]; exact ho.no e⟩
  unfold K28.ownG
  rw [spot_eq h.ok ho, spot_eq h.ok' ho2]
  cases o with
  | some i =>
    obtain ⟨cb, hi, _⟩ := ho.yes i rfl
    exact (h.own i (List.getElem?_eq_some_iff.mp hi).1).symm
  | none =>
    cases ds with
    | nil => exact absurd rfl ne
    | cons e r => rfl
theorem due_hd {ds : List Ev} {e : Ev} {d : Int} (ok : CbsOk m cbs) (h0 : ds[0]? = some e) (h : dueG cbs ds = some d) : e.t ≤ d := by
  cases hw : wideC cbs ds with
  | nil =>
    rw [due_eq cbs h0, hw] at h
    have h : e.t + 0 = d := Option.some.inj h
    omega
  | cons c r =>
    have hc : c ∈ wideC cbs ds := by rw [hw]; exact List.mem_cons_self
    have h1 := due_ge h0 h hc
    have h2 := (ok.all c (mem_wide.mp hc).1).time
    omega
theorem Hom.wide (h : Hom m cbs cbs' σ s) {i : Nat} {c c' : Cmb} (e : cbs[i]? = some c) (e' : cbs'[i]? = some c') (ds : List Ev) : c' ∈ wideC cbs' (ds.map (mv σ s)) ↔ c ∈ wideC cbs ds := by
  obtain ⟨hp, ht⟩ := h.at_ i c c' e e'
  have hl := hp.length_eq
  rw [List.length_map] at hl
  rw [mem_wide, mem_wide, hl, List.length_map]
  constructor
  · rintro ⟨_, a, b⟩
    refine ⟨List.mem_of_getElem? e, a, fun x hx => ?_⟩
    have := hp.mem_iff.mp (b _ (List.mem_map.mpr ⟨x, hx, rfl⟩))
    obtain ⟨k, hk, ek⟩ := List.mem_map.mp this
    rw [← h.inj _ _ ek]
    exact hk
  · rintro ⟨_, a, b⟩
    refine ⟨List.mem_of_getElem? e', a, fun x hx => ?_⟩
    obtain ⟨y, hy, rfl⟩ := List.mem_map.mp hx
    exact hp.mem_iff.mpr (List.mem_map.mpr ⟨y.k, b y hy, rfl⟩)
theorem Hom.due_ (h : Hom m cbs cbs' σ s) (ds : List Ev) : dueG cbs' (ds.map (mv σ s)) = (dueG cbs ds).map (· + s) := by
  cases ds with
  | nil => rfl
  | cons x r =>
    obtain ⟨d, hd⟩ := due_some (cbs := cbs) (ds := x :: r) (by intro z; cases z)
    obtain ⟨d', hd'⟩ := due_some (cbs := cbs') (ds := (x :: r).map (mv σ s)) (by intro z; cases z)
    rw [hd, hd']
    have l1 : d' ≤ d + s := due_le (e := mv σ s x) rfl hd' (by have := due_hd h.ok (e := x) rfl hd; show x.t + s ≤ d + s; omega) fun c' hc => by
      obtain ⟨i, c, e, e'⟩ := h.back (mem_wide.mp hc).1
      have h1 := due_ge (e := x) rfl hd ((h.wide e e' _).mp hc)
      rw [(h.at_ i c c' e e').2]
      show x.t + s + c.t ≤ d + s
      omega
    have l2 : d ≤ d' - s := due_le (e := x) rfl hd (by have := due_hd h.ok' (e := mv σ s x) rfl hd'; have : x.t + s ≤ d' := this; omega) fun c hc => by
      obtain ⟨i, c', e, e'⟩ := h.to (mem_wide.mp hc).1
      have h1 := due_ge (e := mv σ s x) rfl hd' ((h.wide e e' _).mpr hc)
      rw [(h.at_ i c c' e e').2] at h1
      have h1 : x.t + s + c.t ≤ d' := h1
      omega
    show some d' = some (d + s)
    rw [show d' = d + s by omega]
theorem Hom.by_ (h : Hom m cbs cbs' σ s) (T : Int) (ds : List Ev) : dueBy cbs' (T + s) (ds.map (mv σ s)) ↔ dueBy cbs T ds := by
  unfold K28.dueBy
  rw [h.due_]
  constructor
  · rintro ⟨d, e, l⟩
    cases q : dueG cbs ds with
    | none => rw [q] at e; cases e
    | some x =>
      rw [q] at e
      have e : x + s = d := Option.some.inj e
      exact ⟨x, rfl, by omega⟩
  · rintro ⟨d, e, l⟩
    rw [e]
    exact ⟨d + s, rfl, by omega⟩
/-! ### what was sent -/
theorem any_mv (inj : ∀ a b, σ a = σ b → a = b) (k : Int) (sn : Sn) : ((mvS σ sn).any fun p => decide (p.1 = σ k)) = sn.any fun p => decide (p.1 = k) := by
  unfold mvS
  rw [List.any_map]
  congr 1
  funext p
  exact decide_eq_decide.mpr ⟨fun z => inj _ _ z, fun z => congrArg σ z⟩
theorem putS_mv (inj : ∀ a b, σ a = σ b → a = b) (sn : Sn) (k : Int) (v : Option Int) : putS (mvS σ sn) (σ k) (v.map σ) = mvS σ (putS sn k v) := by
  unfold putS
  rw [any_mv inj]
  split
  · unfold mvS
    rw [List.map_map, List.map_map]
    refine List.map_congr_left fun p _ => ?_
    show (if σ p.1 = σ k then (σ p.1, v.map σ) else (σ p.1, p.2.map σ)) = (σ (if p.1 = k then (p.1, v) else p).1, (if p.1 = k then (p.1, v) else p).2.map σ)
    by_cases z : p.1 = k
    · rw [if_pos (congrArg σ z), if_pos z]
    · rw [if_neg (fun y => z (inj _ _ y)), if_neg z]
  · unfold mvS
    rw [List.map_append]
    rfl
theorem sentS_mv (inj : ∀ a b, σ a = σ b → a = b) (own : Int) : ∀ (ks : List Int) (sn : Sn), sentS (σ own) (mvS σ sn) (ks.map σ) = mvS σ (sentS own sn ks)
  | [], _ => rfl
  | k :: ks, sn => by
    show sentS (σ own) (putS (mvS σ sn) (σ k) (some (σ own))) (ks.map σ) = mvS σ (sentS own (putS sn k (some own)) ks)
    rw [← sentS_mv inj own ks, ← putS_mv inj]
    rfl
theorem dropS_mv (inj : ∀ a b, σ a = σ b → a = b) (k : Int) (sn : Sn) : dropS (mvS σ sn) (σ k) = mvS σ (dropS sn k) := by
  unfold dropS mvS
  rw [List.filter_map]
  congr 1
  refine List.filter_congr fun p _ => ?_
  exact decide_eq_decide.mpr ⟨fun z y => z (congrArg σ y), fun z y => z (inj _ _ y)⟩
theorem getS_mv (inj : ∀ a b, σ a = σ b → a = b) (k : Int) : ∀ sn : Sn, getS (mvS σ sn) (σ k) = (getS sn k).map fun v => v.map σ
  | [] => rfl
  | p :: sn => by
    have ih := getS_mv inj k sn
    unfold getS mvS at *
    rw [List.map_cons]
    by_cases z : p.1 = k
    · rw [List.find?_cons_of_pos (by simp [z]), List.find?_cons_of_pos (by simp [z])]
      rfl
    · rw [List.find?_cons_of_neg (by simpa using fun y => z (inj _ _ y)), List.find?_cons_of_neg (by simpa using z)]
      exact ih
theorem upS_mv (inj : ∀ a b, σ a = σ b → a = b) (v : Option Int) (sn : Sn) : upS (v.map σ) (mvS σ sn) = mvS σ (upS v sn) := by
  cases v with
  | none => rfl
  | some own =>
    show clrS (σ own) (mvS σ sn) = mvS σ (clrS own sn)
    unfold clrS mvS
    rw [List.map_map, List.map_map]
    refine List.map_congr_left fun p _ => ?_
    show (if p.2.map σ = some (σ own) then (σ p.1, none) else (σ p.1, p.2.map σ)) = (σ (if p.2 = some own then (p.1, none) else p).1, (if p.2 = some own then (p.1, none) else p).2.map σ)
    by_cases z : p.2 = some own
    · rw [if_pos (by rw [z]; rfl), if_pos z]
      rfl
    · rw [if_neg (fun y => z (by
        cases e : p.2 with
        | none => rw [e] at y; cases y
        | some x => rw [e] at y; exact congrArg some (inj _ _ (Option.some.inj y)))), if_neg z]
theorem upO_mv (t : Int) (v : Option Int) : upO (t + s) (v.map σ) = (upO t v).map (mv σ s) := by
  cases v <;> rfl
/-! ### the gate -/
theorem Steps.mv {G G' : List Ev → Prop} {now : Int} {ds : List Ev} {sn : Sn} {outs ds' : List Ev} {sn' : Sn} (h : Hom m cbs cbs' σ s) (hg : ∀ d, G d → G' (d.map (K28.mv σ s))) (st : Steps m cbs G now ds sn outs ds' sn') : Steps m cbs' G' (now + s) (ds.map (K28.mv σ s)) (mvS σ sn) (outs.map (K28.mv σ s)) (ds'.map (K28.mv σ s)) (mvS σ sn') := by
  induction st with
  | refl => exact .refl
  | @snoc outs ds' sn' _ g ne ih =>
    have := ih.snoc (hg _ g) (by intro z; exact ne (List.map_eq_nil_iff.mp z))
    rw [h.own_ ne, h.fp_, ← List.map_drop, ← List.map_take, keys_mv, sentS_mv h.inj] at this
    rw [List.map_append]
    exact this
theorem Clks.mv {tick : Int} {ds : List Ev} {sn : Sn} {outs ds' : List Ev} {sn' : Sn} (h : Hom m cbs cbs' σ s) (st : Clks m cbs tick ds sn outs ds' sn') : Clks m cbs' (tick + s) (ds.map (K28.mv σ s)) (mvS σ sn) (outs.map (K28.mv σ s)) (ds'.map (K28.mv σ s)) (mvS σ sn') := by
  induction st with
  | refl => exact .refl
  | @snoc outs ds1 outs2 ds2 sn1 sn2 d _ e l st nd ih =>
    have := ih.snoc (d := d + s) (by rw [h.due_, e]; rfl) (by omega) (st.mv h fun d' g => (h.by_ _ _).mpr g) (fun z => nd ((h.by_ _ _).mp z))
    rw [List.map_append]
    exact this
theorem Come.mv {e : Ev} {ds : List Ev} {sn : Sn} {outs ds' : List Ev} {sn' : Sn} (h : Hom m cbs cbs' σ s) (co : Come m cbs e ds sn outs ds' sn') : Come m cbs' (K28.mv σ s e) (ds.map (K28.mv σ s)) (mvS σ sn) (outs.map (K28.mv σ s)) (ds'.map (K28.mv σ s)) (mvS σ sn') := by
  cases co with
  | down hd st nd =>
    have s2 := st.mv h (G' := dueBy cbs' (e.t + s)) fun d' g => (h.by_ _ _).mpr g
    rw [List.map_append] at s2
    exact .down hd s2 (fun z => nd ((h.by_ _ _).mp z))
  | @up outs sn1 v hd st hv =>
    have s2 := st.mv h (G' := fun _ => True) fun d' g => trivial
    have := Come.up (m := m) (cbs := cbs') (e := K28.mv σ s e) (v := v.map σ) hd s2 (by rw [show (K28.mv σ s e).k = σ e.k from rfl, getS_mv h.inj, hv]; rfl)
    rw [show (K28.mv σ s e).k = σ e.k from rfl, show (K28.mv σ s e).t = e.t + s from rfl, dropS_mv h.inj, upS_mv h.inj, upO_mv] at this
    rw [List.map_append]
    exact this
theorem Comes.mv {es outs ds : List Ev} {sn : Sn} (h : Hom m cbs cbs' σ s) (co : Comes m cbs es outs ds sn) : Comes m cbs' (es.map (K28.mv σ s)) (outs.map (K28.mv σ s)) (ds.map (K28.mv σ s)) (mvS σ sn) := by
  induction co with
  | nil => exact .nil
  | snoc _ ck nd co ih =>
    have := Comes.snoc ih (ck.mv h) (fun z => nd ((h.by_ _ _).mp z)) (co.mv h)
    rw [List.map_append, List.map_append, List.map_append]
    exact this
theorem Runs.mv {ds : List Ev} {sn : Sn} {outs ds' : List Ev} {sn' : Sn} (h : Hom m cbs cbs' σ s) (r : Runs m cbs ds sn outs ds' sn') : Runs m cbs' (ds.map (K28.mv σ s)) (mvS σ sn) (outs.map (K28.mv σ s)) (ds'.map (K28.mv σ s)) (mvS σ sn') := by
  induction r with
  | refl => exact .refl
  | @snoc outs ds1 o2 ds2 sn1 sn2 d _ e ck nd ih =>
    have := ih.snoc (d := d + s) (by rw [h.due_, e]; rfl) (ck.mv h) (fun z => nd ((h.by_ _ _).mp z))
    rw [List.map_append]
    exact this
theorem Gtd.mv {es outs : List Ev} (h : Hom m cbs cbs' σ s) (g : Gtd m cbs es outs) : Gtd m cbs' (es.map (K28.mv σ s)) (outs.map (K28.mv σ s)) := by
  obtain ⟨o1, o2, ds, sn, sn2, a, b, rfl⟩ := g
  exact ⟨_, _, _, _, _, a.mv h, b.mv h, List.map_append⟩
end
end K28

set_option Elab.async false
set_option linter.all false
set_option maxRecDepth 100000
set_option maxHeartbeats 8000000
namespace K28
open PySem PySem.Spec PyProof.Rows L2 Gd Rm La Cb Pl
/-! ### downs that leave alone -/
def kd (e : Ev) : Int × Bool := (e.k, e.d)
def AloneS (sn : Sn) : Prop := ∀ p ∈ sn, p.2 = some p.1
section
variable {m : Int} {cbs : List Cmb}
theorem solo_fp (ok : CbsOk m cbs) (x : Ev) : fp cbs [x] = 1 ∧ ownG m cbs [x] = x.k := by
  have nm : ∀ cb ∈ cbs, ∀ n, 2 ≤ n → ¬ Match cb n [x] := fun cb hc n hn hm => by
    have := match_le hm
    simp at this
    omega
  have e1 : fp cbs [x] = 1 := fp_one (fun cb hc => nm cb hc 3 (by decide)) (fun cb hc => nm cb hc 2 (by decide))
  refine ⟨e1, ?_⟩
  have : FpAt cbs [x] none := ⟨fun i e => (by cases e), fun _ => e1⟩
  unfold ownG
  rw [spot_eq ok this]
  rfl
theorem AloneS.put {sn : Sn} {k : Int} (h : AloneS sn) : AloneS (putS sn k (some k)) := fun p hp => by
  unfold putS at hp
  split at hp
  · obtain ⟨q, hq, rfl⟩ := List.mem_map.mp hp
    split
    · rename_i z; show some k = some q.1; rw [z]
    · exact h q hq
  · rcases List.mem_append.mp hp with z | z
    · exact h p z
    · rw [List.mem_singleton.mp z]
theorem AloneS.up {sn : Sn} {k : Int} (h : AloneS sn) : AloneS (upS (some k) (dropS sn k)) := fun p hp => by
  obtain ⟨q, hq, rfl⟩ := List.mem_map.mp hp
  obtain ⟨h1, h2⟩ := List.mem_filter.mp hq
  have h2 : q.1 ≠ k := of_decide_eq_true h2
  have h3 := h q h1
  rw [if_neg (fun z => h2 (by rw [h3] at z; exact Option.some.inj z))]
  exact h3
theorem solo_step (ok : CbsOk m cbs) {G : List Ev → Prop} {now : Int} {x : Ev} {sn : Sn} (g : G [x]) : Steps m cbs G now [x] sn [⟨now, x.k, true⟩] [] (putS sn x.k (some x.k)) := by
  obtain ⟨e1, e2⟩ := solo_fp ok x
  have := Steps.snoc (m := m) (cbs := cbs) (G := G) (now := now) (ds := [x]) (sn := sn) .refl g (by intro z; cases z)
  rw [e1, e2] at this
  exact this
theorem kd_step {A B : List Ev} {x y : Ev} (h : A.map kd = B.map kd) (e : kd x = kd y) : (A ++ [x]).map kd = (B ++ [y]).map kd := by
  rw [List.map_append, List.map_append, h]
  show _ ++ [kd x] = _ ++ [kd y]
  rw [e]
structure Solo (m : Int) (cbs : List Cmb) (es : List Ev) (j : Nat) (o ds : List Ev) (sn : Sn) : Prop where
  c : Comes m cbs (es.take j) o ds sn
  al : AloneS sn
  ke : (o ++ ds).map kd = (es.take j).map kd
  wt : ds = [] ∨ ∃ e, ds = [e] ∧ e.d = true ∧ 0 < j ∧ es[j - 1]? = some e
  no : cbs = [] → ds = [] ∧ o = es.take j
theorem no_due {x : Ev} {d : Int} (h : dueG [] [x] = some d) : d = x.t := by
  have h : x.t + 0 = d := Option.some.inj h
  omega
theorem Solo.next (ok : CbsOk m cbs) {es : List Ev} (v : Valid es) (far : ∀ (j : Nat) (a b : Ev), es[j]? = some a → es[j + 1]? = some b → ∀ c ∈ cbs, a.t + c.t ≤ b.t) {j : Nat} {o ds : List Ev} {sn : Sn} (h : Solo m cbs es j o ds sn) {e : Ev} (he : es[j]? = some e) : ∃ o' ds' sn', Solo m cbs es (j + 1) o' ds' sn' := by
  have ete : es.take (j + 1) = es.take j ++ [e] := by rw [List.take_add_one, he]; rfl
  -- the clock
  obtain ⟨o2, sn2, ck, al2, hk2, no2⟩ : ∃ (o2 : List Ev) (sn2 : Sn), Clks m cbs e.t ds sn o2 [] sn2 ∧ AloneS sn2 ∧ (o ++ o2).map kd = (es.take j).map kd ∧ (cbs = [] → o ++ o2 = es.take j) := by
    rcases h.wt with hd | ⟨x, hd, xd, jp, hx⟩
    · subst hd
      exact ⟨[], sn, .refl, h.al, h.ke, fun z => by rw [List.append_nil]; exact (h.no z).2⟩
    · subst hd
      obtain ⟨d, hdd⟩ := due_some (cbs := cbs) (ds := [x]) (by intro z; cases z)
      have hle : d ≤ e.t := due_le (e := x) rfl hdd (v.mono (j - 1) j x e (by omega) hx he) fun c hc => far (j - 1) x e hx (by rw [show j - 1 + 1 = j by omega]; exact he) c (mem_wide.mp hc).1
      have := (Clks.refl (m := m) (cbs := cbs) (tick := e.t) (ds := [x]) (sn := sn)).snoc hdd hle (solo_step ok ⟨d, hdd, Int.le_refl _⟩) (fun z => dueBy_ne z rfl)
      refine ⟨_, _, this, h.al.put, ?_, fun z => ?_⟩
      · have hh := h.ke
        rw [List.map_append] at hh ⊢
        rw [← hh]
        show _ ++ [(x.k, true)] = _ ++ [(x.k, x.d)]
        rw [xd]
      · exact absurd (h.no z).1 (by intro y; cases y)
  have nd : ¬ dueBy cbs e.t ([] : List Ev) := fun z => dueBy_ne z rfl
  cases hd : e.d with
  | true =>
    by_cases g : dueBy cbs e.t [e]
    · have co := Comes.snoc h.c ck nd (.down hd (solo_step ok g) (fun z => dueBy_ne z rfl))
      rw [← ete] at co
      refine ⟨_, _, _, co, al2.put, ?_, .inl rfl, fun z => ⟨rfl, ?_⟩⟩
      · rw [List.append_nil, List.map_append, hk2, ete, List.map_append]
        show _ ++ [(e.k, true)] = _ ++ [(e.k, e.d)]
        rw [hd]
      · rw [no2 z, ete]
        cases e with
        | mk t k d => cases hd; rfl
    · have co := Comes.snoc h.c ck nd (.down hd .refl g)
      rw [← ete] at co
      refine ⟨_, _, _, co, al2, ?_, .inr ⟨e, rfl, hd, by omega, by rw [show j + 1 - 1 = j by omega]; exact he⟩, fun z => ?_⟩
      · rw [ete]
        have := kd_step (x := e) (y := e) hk2 rfl
        simpa using this
      · subst z
        obtain ⟨d, hdd⟩ := due_some (cbs := []) (ds := [e]) (by intro z; cases z)
        exact absurd ⟨d, hdd, by rw [no_due hdd]; exact Int.le_refl _⟩ g
  | false =>
    have hh : heldB (es.take j) e.k = true := by rw [(v j e he).2.1, hd]; rfl
    have kn := ck.knows (h.c.knows e.k hh)
    have km : e.k ∈ sn2.map (·.1) := kn.resolve_left fun ⟨x, hx, _⟩ => by cases hx
    obtain ⟨vv, hv⟩ := getS_mem km
    have hvv : vv = some e.k := by
      unfold getS at hv
      cases q : sn2.find? fun p => decide (p.1 = e.k) with
      | none => rw [q] at hv; cases hv
      | some p =>
        rw [q] at hv
        have h1 := al2 p (List.mem_of_find?_eq_some q)
        have h2 : p.1 = e.k := by simpa using List.find?_some q
        rw [← Option.some.inj hv]
        show p.2 = some e.k
        rw [h1, h2]
    subst hvv
    have co := Comes.snoc h.c ck nd (.up (outs := []) hd .refl hv)
    rw [← ete] at co
    refine ⟨_, _, _, co, al2.up, ?_, .inl rfl, fun z => ⟨rfl, ?_⟩⟩
    · rw [ete]
      have := kd_step (x := ⟨e.t, e.k, false⟩) (y := e) hk2 (by show (e.k, false) = (e.k, e.d); rw [hd])
      simpa [upO] using this
    · rw [no2 z, ete]
      cases e with
      | mk t k d => cases hd; rfl
theorem Solo.all (ok : CbsOk m cbs) {es : List Ev} (v : Valid es) (far : ∀ (j : Nat) (a b : Ev), es[j]? = some a → es[j + 1]? = some b → ∀ c ∈ cbs, a.t + c.t ≤ b.t) : ∀ j, j ≤ es.length → ∃ o ds sn, Solo m cbs es j o ds sn
  | 0, _ => ⟨[], [], [], .nil, fun p hp => (by cases hp), rfl, .inl rfl, fun _ => ⟨rfl, rfl⟩⟩
  | j + 1, hj => by
    obtain ⟨o, ds, sn, h⟩ := Solo.all ok v far j (by omega)
    exact h.next ok v far (List.getElem?_eq_getElem (show j < es.length by omega))
theorem solo_gtd (ok : CbsOk m cbs) {es : List Ev} (v : Valid es) (far : ∀ (j : Nat) (a b : Ev), es[j]? = some a → es[j + 1]? = some b → ∀ c ∈ cbs, a.t + c.t ≤ b.t) : ∃ outs, Gtd m cbs es outs ∧ outs.map kd = es.map kd ∧ (cbs = [] → outs = es) := by
  obtain ⟨o, ds, sn, h⟩ := Solo.all ok v far es.length (Nat.le_refl _)
  have hc := h.c
  have hk := h.ke
  rw [List.take_length] at hc hk
  rcases h.wt with hd | ⟨x, hd, xd, jp, hx⟩
  · subst hd
    rw [List.append_nil] at hk
    exact ⟨o, ⟨o, [], [], sn, sn, hc, .refl, by rw [List.append_nil]⟩, hk, fun z => by have := (h.no z).2; rw [List.take_length] at this; exact this⟩
  · subst hd
    obtain ⟨d, hdd⟩ := due_some (cbs := cbs) (ds := [x]) (by intro z; cases z)
    have ck := (Clks.refl (m := m) (cbs := cbs) (tick := d) (ds := [x]) (sn := sn)).snoc hdd (Int.le_refl _) (solo_step ok ⟨d, hdd, Int.le_refl _⟩) (fun z => dueBy_ne z rfl)
    refine ⟨o ++ [⟨d, x.k, true⟩], ⟨o, _, [x], sn, _, hc, ck.runs, rfl⟩, ?_, fun z => absurd (h.no z).1 (by intro y; cases y)⟩
    rw [List.map_append] at hk ⊢
    rw [← hk]
    show _ ++ [(x.k, true)] = _ ++ [(x.k, x.d)]
    rw [xd]
/-- without combos nothing changes -/
theorem gtd_nil {es outs : List Ev} (v : Valid es) (g : Gtd m [] es outs) : outs = es := by
  obtain ⟨o, g2, _, h⟩ := solo_gtd (m := m) (cbs := []) (CbsOk.nil m) v (fun j a b _ _ c hc => by cases hc)
  rw [g.uniq g2]
  exact h rfl
/-- a wide record, of which nothing joins -/
theorem gtd_wide (ok : CbsOk m cbs) {es outs : List Ev} (v : Valid es) (far : ∀ (j : Nat) (a b : Ev), es[j]? = some a → es[j + 1]? = some b → a.t + 10 ^ 9 ≤ b.t) (g : Gtd m cbs es outs) : outs.map kd = es.map kd := by
  obtain ⟨o, g2, h, _⟩ := solo_gtd ok v (fun j a b ha hb c hc => by have := far j a b ha hb; have := (ok.all c hc).time; omega)
  rw [g.uniq g2]
  exact h
end
/-! ### pieces of a record that is cut -/
theorem due_cut {es : List Ev} {cbs : List Cmb} {c : Nat} (hc : c ≤ es.length) (st : Stops es c) {s : Nat} {r' : List (List Int)} (h : Due (es.take c) cbs s r') : s ≤ c → ∀ {r : List (List Int)}, Due es cbs s r → ∃ r2, r = r' ++ r2 := by
  have tl : (es.take c).length = c := by rw [List.length_take]; omega
  have tg : ∀ {i : Nat} {x : Ev}, (es.take c)[i]? = some x → es[i]? = some x ∧ i < c := fun {i x} hx => by
    have := (List.getElem?_eq_some_iff.mp hx).1
    rw [tl] at this
    rw [List.getElem?_take_of_lt this] at hx
    exact ⟨hx, this⟩
  induction h with
  | fin _ => exact fun _ r _ => ⟨r, rfl⟩
  | up g f _ ih =>
    intro _ r h2
    obtain ⟨g1, gl⟩ := tg g
    cases h2 with
    | fin hl => have := (List.getElem?_eq_some_iff.mp g1).1; omega
    | up g' f' h' => exact ih (by omega) h'
    | down hs d _ _ =>
      obtain ⟨ev', g', f'⟩ := d _ (Nat.le_refl _) hs
      rw [g1] at g'
      cases g'
      rw [f] at f'; cases f'
  | @down s e r' hs d t _ ih =>
    intro _ r h2
    have el := d.le hs
    rw [tl] at el
    have d2 : Downs es s e := fun i a b => by
      obtain ⟨ev, g, f⟩ := d i a b
      exact ⟨ev, (tg g).1, f⟩
    have t2 : Stops es e := by
      rcases t with t | ⟨ev, g, f⟩
      · rw [tl] at t
        rw [t]
        exact st
      · exact .inr ⟨ev, (tg g).1, f⟩
    have ep : prt (es.take c) s e = prt es s e := by
      unfold prt
      rw [List.drop_take, List.take_take, show min (e - s) (c - s) = e - s by omega]
    rw [ep] at ih ⊢
    cases h2 with
    | fin hl => omega
    | up g f h' =>
      obtain ⟨ev', g', f'⟩ := d2 _ (Nat.le_refl _) hs
      rw [g] at g'
      cases g'
      rw [f] at f'; cases f'
    | down hs' d' t' h' =>
      have e2 := stop_uniq hs hs' d2 d' t2 t'
      subst e2
      have pl := prt_len (s := s) (d2.le hs)
      have nn : prt es s e ≠ [] := fun z => by rw [z] at pl; simp at pl; omega
      have fl := fp_le cbs nn
      obtain ⟨r2, e3⟩ := ih (by omega) h'
      exact ⟨r2, by rw [e3]; rfl⟩
/-! ### the numbers of the downs -/
def dnN (es : List Ev) (s n : Nat) : List Int := ((List.range' s n).filter fun i => (es.getD i ⟨0, 0, false⟩).d).map fun i : Nat => (i : Int)
theorem dn_all {es : List Ev} {s n : Nat} (h : Downs es s (s + n)) : dnN es s n = seg s (s + n) := by
  unfold dnN seg
  rw [show s + n - s = n by omega]
  congr 1
  refine List.filter_eq_self.mpr fun i hi => ?_
  rw [List.mem_range'_1] at hi
  obtain ⟨ev, g, f⟩ := h i hi.1 hi.2
  rw [List.getD_eq_getElem?_getD, g]
  exact f
theorem due_flat {es : List Ev} {cbs : List Cmb} {s : Nat} {r : List (List Int)} (h : Due es cbs s r) : r.flatten = dnN es s (es.length - s) := by
  induction h with
  | fin hl =>
    rw [show es.length - _ = 0 by omega]
    rfl
  | @up s ev r g f _ ih =>
    have hs := (List.getElem?_eq_some_iff.mp g).1
    rw [ih, show es.length - s = (es.length - (s + 1)) + 1 by omega]
    unfold dnN
    rw [List.range'_succ, List.filter_cons_of_neg (by rw [List.getD_eq_getElem?_getD, g]; show ¬ ev.d = true; rw [f]; decide)]
  | @down s e r hs d t _ ih =>
    have el := d.le hs
    have pl := prt_len (s := s) el
    have nn : prt es s e ≠ [] := fun z => by rw [z] at pl; simp at pl; omega
    have fl := fp_le cbs nn
    rw [pl] at fl
    generalize fp cbs (prt es s e) = f at ih fl ⊢
    rw [List.flatten_cons, ih, ← dn_all (n := f) (fun i a b => d i a (by omega))]
    unfold dnN
    rw [← List.map_append, ← List.filter_append, List.range'_append_1, show f + (es.length - (s + f)) = es.length - s by omega]
end K28

set_option Elab.async false
set_option linter.all false
set_option maxRecDepth 100000
set_option maxHeartbeats 8000000
namespace K28
open PySem PySem.Spec PyProof.Rows L2 Gd Rm La Cb Pl
/-! ### pieces and the downs that leave -/
structure Hit (m : Int) (cbs : List Cmb) (es : List Ev) (most : Int) (a n : Nat) (l : List Int) (o : Ev) : Prop where
  seg : l = seg a (a + n)
  pos : 1 ≤ n
  le : a + n ≤ es.length
  dn : o.d = true
  lo : ∀ x ∈ prt es a (a + n), x.t ≤ o.t
  hi : ∀ x, es[a]? = some x → o.t ≤ x.t + most
  own : (n = 1 ∧ ∀ x, es[a]? = some x → o.k = x.k) ∨ (2 ≤ n ∧ ∃ (i : Nat) (c : Cmb), cbs[i]? = some c ∧ o.k = m + (i : Int) ∧ c.ks.Perm ((prt es a (a + n)).map Ev.k))
structure Bs (m : Int) (cbs : List Cmb) (es : List Ev) (most : Int) (j : Nat) (τ : Int) (outs ds : List Ev) (sn : Sn) (r0 : List (List Int)) : Prop where
  p : ∃ a, a ≤ j ∧ j ≤ es.length ∧ Downs es a j ∧ ds = prt es a j ∧ ∀ r, Due es cbs a r → Due es cbs 0 (r0 ++ r)
  hl : r0.length = (outs.filter Ev.d).length
  hit : ∀ (i : Nat) (l : List Int) (o : Ev), r0[i]? = some l → (outs.filter Ev.d)[i]? = some o → ∃ a n, Hit m cbs es most a n l o
  val : Valid outs
  tm : ∀ o ∈ outs, o.t ≤ τ
  held : ∀ k, heldB outs k = true ↔ ∃ p ∈ sn, p.2 = some k
  ent : ∀ p ∈ sn, ∀ o, p.2 = some o → o = p.1 ∨ ∃ (i : Nat) (c : Cmb), cbs[i]? = some c ∧ o = m + (i : Int) ∧ p.1 ∈ c.ks
  nd : (ds.map Ev.k ++ sn.map (·.1)).Nodup
  kh : ∀ k, k ∈ ds.map Ev.k ∨ k ∈ sn.map (·.1) → heldB (es.take j) k = true
  kb : ∀ o ∈ outs, o.k < m + 6
theorem sentS_fresh (own : Int) : ∀ (ks : List Int) (sn : Sn), (∀ k ∈ ks, k ∉ sn.map (·.1)) → ks.Nodup → sentS own sn ks = sn ++ ks.map fun k => (k, some own)
  | [], sn, _, _ => by simp [sentS]
  | k :: ks, sn, h, nd => by
    have hk := h k List.mem_cons_self
    have e : putS sn k (some own) = sn ++ [(k, some own)] := by
      unfold putS
      rw [if_neg]
      intro z
      obtain ⟨p, hp, e⟩ := List.any_eq_true.mp z
      exact hk (List.mem_map.mpr ⟨p, hp, of_decide_eq_true e⟩)
    obtain ⟨n1, n2⟩ := List.nodup_cons.mp nd
    show sentS own (putS sn k (some own)) ks = _
    rw [e, sentS_fresh own ks _ (fun x hx => ?_) n2, List.append_assoc]
    · rfl
    · rw [List.map_append, List.mem_append]
      rintro (y | y)
      · exact h x (List.mem_cons_of_mem _ hx) y
      · have : x = k := List.mem_singleton.mp y
        rw [this] at hx
        exact n1 hx
section
variable {m : Int} {cbs : List Cmb} {es : List Ev} {most : Int} {j : Nat} {τ : Int} {outs ds : List Ev} {sn : Sn} {r0 : List (List Int)}
structure Env (m : Int) (cbs : List Cmb) (es : List Ev) (most : Int) : Prop where
  ok : CbsOk m cbs
  m1 : 1 ≤ m
  v : Valid es
  key : ∀ e ∈ es, e.k < m
  m0 : 0 ≤ most
  big : ∀ c ∈ cbs, c.t ≤ most
theorem Env.k0 (E : Env m cbs es most) {e : Ev} (he : e ∈ es) : 0 ≤ e.k := by
  obtain ⟨i, hi⟩ := List.getElem?_of_mem he
  exact (E.v i e hi).1
theorem Bs.km (E : Env m cbs es most) (b : Bs m cbs es most j τ outs ds sn r0) {k : Int} (h : k ∈ ds.map Ev.k ∨ k ∈ sn.map (·.1)) : 0 ≤ k ∧ k < m := by
  obtain ⟨e, he, rfl⟩ := held_mem (b.kh k h)
  have := List.mem_of_mem_take he
  exact ⟨E.k0 this, E.key _ this⟩
theorem Bs.mono (b : Bs m cbs es most j τ outs ds sn r0) {τ' : Int} (h : τ ≤ τ') : Bs m cbs es most j τ' outs ds sn r0 := { b with tm := fun o ho => by have := b.tm o ho; omega }
theorem Bs.step (E : Env m cbs es most) (b : Bs m cbs es most j τ outs ds sn r0) {now : Int} (ne : ds ≠ []) (h1 : τ ≤ now) (h2 : ∀ x ∈ ds, x.t ≤ now) (h3 : ∀ x, ds[0]? = some x → now ≤ x.t + most)
    (hf : ∀ e, j ≤ e → Downs es j e → Stops es e → fp cbs (ds ++ prt es j e) = fp cbs ds) :
    ∃ l, Bs m cbs es most j now (outs ++ [⟨now, ownG m cbs ds, true⟩]) (ds.drop (fp cbs ds)) (sentS (ownG m cbs ds) sn ((ds.take (fp cbs ds)).map Ev.k)) (r0 ++ [l]) := by
  obtain ⟨a, aj, jl, dn, ed, go⟩ := b.p
  have hpos := List.length_pos_iff.mpr ne
  have fpos := fp_pos cbs ds
  have fle := fp_le cbs ne
  have dl : ds.length = j - a := by rw [ed]; exact prt_len jl
  have ha : a < es.length := by omega
  have e0 : ds[0]? = some es[a] := by
    rw [ed]
    unfold prt
    rw [List.getElem?_take_of_lt (by omega), List.getElem?_drop, Nat.add_zero, List.getElem?_eq_getElem ha]
  have etk : ds.take (fp cbs ds) = prt es a (a + fp cbs ds) := by
    conv => lhs; arg 2; rw [ed]
    unfold prt
    rw [List.take_take, show min (fp cbs ds) (j - a) = a + fp cbs ds - a by omega]
  obtain ⟨nd1, nd2, nd3⟩ := List.nodup_append.mp b.nd
  have disj : ∀ k, k ∈ ds.map Ev.k → k ∉ sn.map (·.1) := fun k x y => nd3 k x k y rfl
  -- the own
  have hown : (fp cbs ds = 1 ∧ ownG m cbs ds = es[a].k) ∨ (2 ≤ fp cbs ds ∧ ∃ (i : Nat) (c : Cmb), cbs[i]? = some c ∧ ownG m cbs ds = m + (i : Int) ∧ c.ks.Perm ((ds.take (fp cbs ds)).map Ev.k)) := by
    obtain ⟨o, ho⟩ := fp_ex cbs ds
    unfold ownG
    rw [spot_eq E.ok ho]
    cases o with
    | none =>
      refine .inl ⟨ho.no rfl, ?_⟩
      show (ds.getD 0 _).k = _
      rw [List.getD_eq_getElem?_getD, e0]
      rfl
    | some i =>
      obtain ⟨c, hi, hm⟩ := ho.yes i rfl
      have := (E.ok.all c (List.mem_of_getElem? hi)).len
      have := hm.1
      exact .inr ⟨by omega, i, c, hi, rfl, hm.2.1⟩
  have inds : ∀ k, k ∈ (ds.take (fp cbs ds)).map Ev.k → k ∈ ds.map Ev.k := fun k hk => by
    obtain ⟨x, hx, rfl⟩ := List.mem_map.mp hk
    exact List.mem_map.mpr ⟨x, List.mem_of_mem_take hx, rfl⟩
  have hd0 : es[a].k ∈ ds.map Ev.k := List.mem_map.mpr ⟨es[a], List.mem_of_getElem? e0, rfl⟩
  have own0 : 0 ≤ ownG m cbs ds := by
    rcases hown with ⟨_, h⟩ | ⟨_, i, c, _, h, _⟩
    · rw [h]; exact E.k0 (List.getElem_mem ha)
    · have := E.m1; omega
  have free : heldB outs (ownG m cbs ds) = false := by
    rw [← Bool.not_eq_true]
    intro z
    obtain ⟨p, hp, e⟩ := (b.held _).mp z
    have hp1 : p.1 ∈ sn.map (·.1) := List.mem_map.mpr ⟨p, hp, rfl⟩
    have hpm := b.km E (.inr hp1)
    rcases hown with ⟨_, h⟩ | ⟨_, i, c, hc, h, hperm⟩
    · have hlt := E.key _ (List.getElem_mem ha)
      rcases b.ent p hp _ e with q | ⟨i', c', _, q, _⟩
      · rw [h] at q
        exact disj _ hd0 (by rw [q]; exact hp1)
      · omega
    · rcases b.ent p hp _ e with q | ⟨i', c', hc', q, hk⟩
      · omega
      · have : i' = i := by omega
        subst this
        rw [hc] at hc'
        cases hc'
        exact disj _ (inds _ (hperm.mem_iff.mp hk)) hp1
  have ndt : ((ds.take (fp cbs ds)).map Ev.k).Nodup := nd1.sublist ((List.take_sublist ..).map _)
  have esent := sentS_fresh (ownG m cbs ds) ((ds.take (fp cbs ds)).map Ev.k) sn (fun k hk => disj k (inds k hk)) ndt
  have hsplit : ds.map Ev.k = (ds.take (fp cbs ds)).map Ev.k ++ (ds.drop (fp cbs ds)).map Ev.k := by rw [← List.map_append, List.take_append_drop]
  have hfil : (outs ++ [(⟨now, ownG m cbs ds, true⟩ : Ev)]).filter Ev.d = outs.filter Ev.d ++ [⟨now, ownG m cbs ds, true⟩] := by
    rw [List.filter_append]
    rfl
  refine ⟨seg a (a + fp cbs ds), ⟨a + fp cbs ds, by omega, jl, fun i x y => dn i (by omega) y, by conv => lhs; arg 2; rw [ed]
                                                                                                  exact prt_cut, fun r hr => ?_⟩, ?_, ?_, ?_, ?_, ?_, ?_, ?_, ?_, ?_⟩
  · obtain ⟨e, g1, g2, g3, g4⟩ := run_end (es := es) (es.length - j) j (by omega)
    have dn2 : Downs es a e := fun i x y => by
      rcases Nat.lt_or_ge i j with z | z
      · exact dn i x z
      · exact g3 i z y
    have ef := hf e g1 g3 g4
    have ep : ds ++ prt es j e = prt es a e := by rw [prt_split aj g1, ← ed]
    rw [ep] at ef
    have := Due.down (cbs := cbs) (show a < e by omega) dn2 g4 (by rw [ef]; exact hr)
    rw [ef] at this
    have := go _ this
    rw [List.append_assoc]
    exact this
  · rw [hfil, List.length_append, List.length_append, b.hl]
    rfl
  · intro i l o x y
    rw [hfil] at y
    rcases Nat.lt_or_ge i r0.length with z | z
    · rw [List.getElem?_append_left z] at x
      rw [List.getElem?_append_left (by rw [← b.hl]; exact z)] at y
      exact b.hit i l o x y
    · have il := (List.getElem?_eq_some_iff.mp x).1
      rw [List.length_append, List.length_singleton] at il
      have : i = r0.length := by omega
      subst this
      rw [List.getElem?_append_right (Nat.le_refl _), Nat.sub_self] at x
      rw [List.getElem?_append_right (by rw [b.hl]; exact Nat.le_refl _), b.hl, Nat.sub_self] at y
      cases x
      cases y
      refine ⟨a, fp cbs ds, rfl, fpos, by omega, rfl, fun x hx => ?_, fun x hx => ?_, ?_⟩
      · rw [← etk] at hx
        exact h2 x (List.mem_of_mem_take hx)
      · rw [List.getElem?_eq_getElem ha] at hx
        cases hx
        exact h3 _ e0
      · rw [← etk]
        rcases hown with ⟨u, h⟩ | ⟨u, i, c, hc, h, hperm⟩
        · refine .inl ⟨u, fun x hx => ?_⟩
          rw [List.getElem?_eq_getElem ha] at hx
          cases hx
          exact h
        · exact .inr ⟨u, i, c, hc, h, hperm⟩
  · exact b.val.snoc (e := ⟨now, ownG m cbs ds, true⟩) own0 free fun o ho => by have := b.tm o ho; show o.t ≤ now; omega
  · intro o ho
    rcases List.mem_append.mp ho with z | z
    · have := b.tm o z; omega
    · rw [List.mem_singleton.mp z]; exact Int.le_refl _
  · intro k
    rw [heldB_snoc, esent]
    show (if k = ownG m cbs ds then true else heldB outs k) = true ↔ _
    constructor
    · intro h
      by_cases z : k = ownG m cbs ds
      · have hx : (es[a].k, some (ownG m cbs ds)) ∈ ((ds.take (fp cbs ds)).map Ev.k).map fun k => (k, some (ownG m cbs ds)) := by
          refine List.mem_map.mpr ⟨es[a].k, List.mem_map.mpr ⟨es[a], ?_, rfl⟩, rfl⟩
          refine List.mem_of_getElem? (i := 0) ?_
          rw [List.getElem?_take_of_lt (by omega)]
          exact e0
        exact ⟨_, List.mem_append_right _ hx, by rw [z]⟩
      · rw [if_neg z] at h
        obtain ⟨p, hp, e⟩ := (b.held k).mp h
        exact ⟨p, List.mem_append_left _ hp, e⟩
    · rintro ⟨p, hp, e⟩
      by_cases z : k = ownG m cbs ds
      · rw [if_pos z]
      · rw [if_neg z]
        rcases List.mem_append.mp hp with y | y
        · exact (b.held k).mpr ⟨p, y, e⟩
        · obtain ⟨k', _, rfl⟩ := List.mem_map.mp y
          exact absurd (Option.some.inj e).symm z
  · rw [esent]
    intro p hp o e
    rcases List.mem_append.mp hp with y | y
    · exact b.ent p y o e
    · obtain ⟨k', hk', rfl⟩ := List.mem_map.mp y
      have eo : ownG m cbs ds = o := Option.some.inj e
      rcases hown with ⟨u, h⟩ | ⟨u, i, c, hc, h, hperm⟩
      · left
        show o = k'
        obtain ⟨x, hx, rfl⟩ := List.mem_map.mp hk'
        obtain ⟨i, hi⟩ := List.getElem?_of_mem hx
        have il := (List.getElem?_eq_some_iff.mp hi).1
        rw [List.length_take, u] at il
        have : i = 0 := by omega
        subst this
        rw [List.getElem?_take_of_lt (by omega), e0] at hi
        cases hi
        exact eo.symm.trans h
      · exact .inr ⟨i, c, hc, eo.symm.trans h, hperm.mem_iff.mpr hk'⟩
  · rw [esent, List.map_append, List.map_map]
    have eid : ((ds.take (fp cbs ds)).map Ev.k).map ((fun p : Int × Option Int => p.1) ∘ fun k => (k, some (ownG m cbs ds))) = (ds.take (fp cbs ds)).map Ev.k := by
      have : ((fun p : Int × Option Int => p.1) ∘ fun k : Int => (k, some (ownG m cbs ds))) = id := rfl
      rw [this, List.map_id]
    rw [eid]
    have nn := b.nd
    rw [hsplit] at nn
    refine (List.Perm.nodup_iff ?_).mp nn
    have p1 : ((ds.take (fp cbs ds)).map Ev.k ++ (ds.drop (fp cbs ds)).map Ev.k ++ sn.map (·.1)).Perm (((ds.drop (fp cbs ds)).map Ev.k ++ sn.map (·.1)) ++ (ds.take (fp cbs ds)).map Ev.k) := by
      rw [List.append_assoc]
      exact List.perm_append_comm
    rw [List.append_assoc] at p1
    rw [List.append_assoc] at p1
    rw [List.append_assoc]
    exact p1
  · intro k hk
    refine b.kh k ?_
    rcases hk with z | z
    · rw [hsplit]
      exact .inl (List.mem_append_right _ z)
    · rw [esent, List.map_append, List.map_map] at z
      rcases List.mem_append.mp z with y | y
      · exact .inr y
      · obtain ⟨k', hk', rfl⟩ := List.mem_map.mp y
        exact .inl (inds _ hk')
  · intro o ho
    rcases List.mem_append.mp ho with z | z
    · exact b.kb o z
    · rw [List.mem_singleton.mp z]
      show ownG m cbs ds < m + 6
      rcases hown with ⟨_, h⟩ | ⟨_, i, c, hc, h, _⟩
      · have := E.key _ (List.getElem_mem ha); omega
      · have := (List.getElem?_eq_some_iff.mp hc).1
        have := E.ok.few
        omega
/-- pieces, one behind the other -/
theorem Bs.steps (E : Env m cbs es most) (b : Bs m cbs es most j τ outs ds sn r0) {G : List Ev → Prop} {now : Int} {o ds' : List Ev} {sn' : Sn} (st : Steps m cbs G now ds sn o ds' sn') (h1 : τ ≤ now) (h2 : ∀ x ∈ ds, x.t ≤ now) (h3 : ∀ x, ds[0]? = some x → now ≤ x.t + most)
    (hf : ∀ d, G d → d ≠ [] → ∀ e, j ≤ e → Downs es j e → Stops es e → fp cbs (d ++ prt es j e) = fp cbs d) : ∃ r1, Bs m cbs es most j now (outs ++ o) ds' sn' r1 := by
  have key : ∃ (r1 : List (List Int)) (k : Nat), Bs m cbs es most j now (outs ++ o) ds' sn' r1 ∧ ds' = ds.drop k := by
    induction st with
    | refl => exact ⟨r0, 0, by rw [List.append_nil]; exact b.mono h1, rfl⟩
    | @snoc o ds' sn' _ g ne ih =>
      obtain ⟨r1, k, b1, ek⟩ := ih
      have mem : ∀ x ∈ ds', x ∈ ds := fun x hx => by rw [ek] at hx; exact List.mem_of_mem_drop hx
      have hd0 : ∀ x, ds'[0]? = some x → now ≤ x.t + most := fun x hx => by
        obtain ⟨a, aj, jl, dn, ed, go⟩ := b.p
        rw [ek, List.getElem?_drop, Nat.add_zero] at hx
        have kl := (List.getElem?_eq_some_iff.mp hx).1
        have q0 : ds[0]? = some ds[0] := List.getElem?_eq_getElem (by omega)
        have := h3 _ q0
        rcases Nat.eq_zero_or_pos k with z | z
        · subst z
          rw [q0] at hx
          cases hx
          exact this
        · have dl : ds.length = j - a := by rw [ed]; exact prt_len jl
          have gi : ∀ i, i < ds.length → ds[i]? = es[a + i]? := fun i hi => by
            rw [ed]
            unfold prt
            rw [List.getElem?_take_of_lt (by omega), List.getElem?_drop]
          rw [gi k kl] at hx
          rw [gi 0 (by omega)] at q0
          have := E.v.mono (a + 0) (a + k) _ x (by omega) q0 hx
          omega
      obtain ⟨l, b2⟩ := b1.step E ne (Int.le_refl _) (fun x hx => h2 x (mem x hx)) hd0 (hf ds' g ne)
      rw [List.append_assoc] at b2
      exact ⟨_, k + fp cbs ds', b2, by rw [ek, List.drop_drop]⟩
  obtain ⟨r1, _, h, _⟩ := key
  exact ⟨r1, h⟩
theorem due_most (E : Env m cbs es most) {x : Ev} {d : Int} (h0 : ds[0]? = some x) (h : dueG cbs ds = some d) : d ≤ x.t + most := due_le h0 h (by have := E.m0; omega) fun c hc => by have := E.big c (mem_wide.mp hc).1; omega
/-- the clock -/
theorem Bs.clks (E : Env m cbs es most) (b : Bs m cbs es most j τ outs ds sn r0) {tick : Int} {o ds' : List Ev} {sn' : Sn} (ck : Clks m cbs tick ds sn o ds' sn') (nd : ¬ dueBy cbs τ ds) (h1 : τ ≤ tick) (h2 : ∀ x ∈ ds, x.t ≤ τ) (late : ∀ i x, j ≤ i → es[i]? = some x → tick ≤ x.t) :
    ∃ r1 τ', τ' ≤ tick ∧ Bs m cbs es most j τ' (outs ++ o) ds' sn' r1 ∧ ¬ dueBy cbs τ' ds' ∧ ∀ x ∈ ds', x.t ≤ τ' := by
  induction ck with
  | refl => exact ⟨r0, τ, h1, by rw [List.append_nil]; exact b, nd, h2⟩
  | @snoc o ds1 o2 ds2 sn1 sn2 d _ e l st nd2 ih =>
    obtain ⟨r1, τ', l', b1, n1, t1⟩ := ih
    have lt : τ' < d := by
      rcases Int.lt_or_le τ' d with y | y
      · exact y
      · exact absurd ⟨d, e, y⟩ n1
    obtain ⟨r2, b2⟩ := b1.steps E st (by omega) (fun x hx => by have := t1 x hx; omega) (fun x hx => due_most E hx e) fun d' g ne e' _ _ _ => by
      refine (fp_same E.ok ne g fun x hx => ?_).1
      unfold prt at hx
      obtain ⟨i, hi⟩ := List.getElem?_of_mem (List.mem_of_mem_take hx)
      rw [List.getElem?_drop] at hi
      have := late _ x (by omega) hi
      omega
    rw [List.append_assoc] at b2
    refine ⟨r2, d, l, b2, nd2, fun x hx => ?_⟩
    have : ∀ {G : List Ev → Prop} {now : Int} {ds : List Ev} {sn : Sn} {o ds' : List Ev} {sn' : Sn}, Steps m cbs G now ds sn o ds' sn' → ∀ x ∈ ds', x ∈ ds := fun st => by
      induction st with
      | refl => exact fun x hx => hx
      | snoc _ _ _ ih => exact fun x hx => ih x (List.mem_of_mem_drop hx)
    have := t1 x (this st x hx)
    omega
theorem Steps.mem {G : List Ev → Prop} {now : Int} {ds : List Ev} {sn : Sn} {o ds' : List Ev} {sn' : Sn} (st : Steps m cbs G now ds sn o ds' sn') : ∀ x ∈ ds', x ∈ ds := by
  induction st with
  | refl => exact fun x hx => hx
  | snoc _ _ _ ih => exact fun x hx => ih x (List.mem_of_mem_drop hx)
theorem taken {es : List Ev} {j : Nat} {e : Ev} (he : es[j]? = some e) : es.take (j + 1) = es.take j ++ [e] := by rw [List.take_add_one, he]; rfl
/-- one more down -/
theorem Bs.add (E : Env m cbs es most) (b : Bs m cbs es most j τ outs ds sn r0) {e : Ev} (he : es[j]? = some e) (hd : e.d = true) : Bs m cbs es most (j + 1) τ outs (ds ++ [e]) sn r0 := by
  obtain ⟨a, aj, jl, dn, ed, go⟩ := b.p
  have hj := (List.getElem?_eq_some_iff.mp he).1
  have hv := (E.v j e he).2.1
  rw [hd] at hv
  have hn : ∀ k, k ∈ ds.map Ev.k ∨ k ∈ sn.map (·.1) → k ≠ e.k := fun k hk z => by
    have := b.kh k hk
    rw [z, hv] at this
    cases this
  refine { b with p := ⟨a, by omega, hj, fun i x y => ?_, ?_, go⟩, nd := ?_, kh := fun k hk => ?_ }
  · by_cases z : i = j
    · subst z; exact ⟨e, he, hd⟩
    · exact dn i x (by omega)
  · have := prt_snoc (es := es) aj hj
    rw [(List.getElem?_eq_some_iff.mp he).2] at this
    rw [ed, this]
  · rw [List.map_append]
    have p1 : (e.k :: (ds.map Ev.k ++ sn.map (·.1))).Perm (ds.map Ev.k ++ [e].map Ev.k ++ sn.map (·.1)) := by
      rw [List.append_assoc]
      exact List.perm_middle.symm
    refine (List.Perm.nodup_iff p1).mp (List.nodup_cons.mpr ⟨fun h => ?_, b.nd⟩)
    exact hn e.k (List.mem_append.mp h) rfl
  · rw [taken he, heldB_snoc]
    show (if k = e.k then e.d else heldB (es.take j) k) = true
    by_cases z : k = e.k
    · rw [if_pos z]; exact hd
    · rw [if_neg z]
      refine b.kh k ?_
      rcases hk with y | y
      · rw [List.map_append] at y
        rcases List.mem_append.mp y with q | q
        · exact .inl q
        · exact absurd (List.mem_singleton.mp q) z
      · exact .inr y
/-- an up -/
theorem Bs.up (E : Env m cbs es most) (b : Bs m cbs es most j τ outs [] sn r0) {e : Ev} (he : es[j]? = some e) (hd : e.d = false) (ht : τ ≤ e.t) {v : Option Int} (hv : getS sn e.k = some v) : Bs m cbs es most (j + 1) e.t (outs ++ upO e.t v) [] (upS v (dropS sn e.k)) r0 := by
  obtain ⟨a, aj, jl, dn, ed, go⟩ := b.p
  have hj := (List.getElem?_eq_some_iff.mp he).1
  have aj' : a = j := by
    have := prt_len (s := a) jl
    rw [← ed, List.length_nil] at this
    omega
  subst aj'
  have snd : (sn.map (·.1)).Nodup := b.nd
  -- the entry of the key
  obtain ⟨p0, hp0, k0, v0⟩ : ∃ p ∈ sn, p.1 = e.k ∧ p.2 = v := by
    unfold getS at hv
    cases q : sn.find? fun p => decide (p.1 = e.k) with
    | none => rw [q] at hv; cases hv
    | some p =>
      rw [q] at hv
      exact ⟨p, List.mem_of_find?_eq_some q, by simpa using List.find?_some q, Option.some.inj hv⟩
  have only : ∀ p ∈ sn, p.1 = e.k → p.2 = v := fun p hp ek => by
    obtain ⟨i, hi⟩ := List.getElem?_of_mem hp
    have := getS_at snd hi
    rw [ek, hv] at this
    exact (Option.some.inj this).symm
  have dropm : ∀ p, p ∈ dropS sn e.k ↔ p ∈ sn ∧ p.1 ≠ e.k := fun p => by
    unfold dropS
    rw [List.mem_filter, decide_eq_true_iff]
  have upm : ∀ p, p ∈ upS v (dropS sn e.k) → ∃ q ∈ sn, q.1 = p.1 ∧ q.1 ≠ e.k ∧ (p.2 = q.2 ∨ p.2 = none) := fun p hp => by
    cases v with
    | none =>
      obtain ⟨h1, h2⟩ := (dropm p).mp hp
      exact ⟨p, h1, rfl, h2, .inl rfl⟩
    | some own =>
      obtain ⟨q, hq, rfl⟩ := List.mem_map.mp hp
      obtain ⟨h1, h2⟩ := (dropm q).mp hq
      split
      · exact ⟨q, h1, rfl, h2, .inr rfl⟩
      · exact ⟨q, h1, rfl, h2, .inl rfl⟩
  have ofil : (outs ++ upO e.t v).filter Ev.d = outs.filter Ev.d := by
    rw [List.filter_append]
    cases v <;> simp [upO]
  refine ⟨⟨a + 1, Nat.le_refl _, hj, fun i x y => by omega, (prt_self es _).symm, fun r hr => go r (.up he hd hr)⟩, by rw [ofil]; exact b.hl, by rw [ofil]; exact b.hit, ?_, ?_, ?_, ?_, ?_, ?_, ?_⟩
  · cases v with
    | none => show Valid (outs ++ []); rw [List.append_nil]; exact b.val
    | some own =>
      have hh : heldB outs own = true := (b.held own).mpr ⟨p0, hp0, v0⟩
      have o0 : 0 ≤ own := by
        have hpm := b.km E (.inr (List.mem_map.mpr ⟨p0, hp0, rfl⟩))
        rcases b.ent p0 hp0 own v0 with q | ⟨i, c, _, q, _⟩
        · omega
        · have := E.m1; omega
      exact b.val.snoc (e := ⟨e.t, own, false⟩) o0 hh fun o ho => by have := b.tm o ho; show o.t ≤ e.t; omega
  · intro o ho
    rcases List.mem_append.mp ho with z | z
    · have := b.tm o z; omega
    · cases v with
      | none => cases z
      | some own => rw [List.mem_singleton.mp z]; exact Int.le_refl _
  · intro k
    cases v with
    | none =>
      show heldB (outs ++ []) k = true ↔ ∃ p ∈ dropS sn e.k, p.2 = some k
      rw [List.append_nil, b.held k]
      constructor
      · rintro ⟨p, hp, e2⟩
        exact ⟨p, (dropm p).mpr ⟨hp, fun z => by rw [only p hp z] at e2; cases e2⟩, e2⟩
      · rintro ⟨p, hp, e2⟩
        exact ⟨p, ((dropm p).mp hp).1, e2⟩
    | some own =>
      show heldB (outs ++ [⟨e.t, own, false⟩]) k = true ↔ ∃ p ∈ clrS own (dropS sn e.k), p.2 = some k
      rw [heldB_snoc]
      show (if k = own then false else heldB outs k) = true ↔ _
      constructor
      · intro h
        by_cases z : k = own
        · rw [if_pos z] at h; cases h
        · rw [if_neg z] at h
          obtain ⟨p, hp, e2⟩ := (b.held k).mp h
          have ne1 : p.1 ≠ e.k := fun y => by rw [only p hp y] at e2; exact z (Option.some.inj e2).symm
          refine ⟨p, List.mem_map.mpr ⟨p, (dropm p).mpr ⟨hp, ne1⟩, if_neg fun y => ?_⟩, e2⟩
          rw [e2] at y
          exact z (Option.some.inj y)
      · rintro ⟨p, hp, e2⟩
        obtain ⟨q, hq, rfl⟩ := List.mem_map.mp hp
        by_cases y : q.2 = some own
        · rw [if_pos y] at e2; cases e2
        · rw [if_neg y] at e2
          rw [if_neg (fun z => y (by rw [e2, z]))]
          exact (b.held k).mpr ⟨q, ((dropm q).mp hq).1, e2⟩
  · intro p hp o ho
    obtain ⟨q, hq, h1, _, h2⟩ := upm p hp
    rcases h2 with h2 | h2
    · rw [h2] at ho
      rw [← h1]
      exact b.ent q hq o ho
    · rw [h2] at ho; cases ho
  · show (([] : List Ev).map Ev.k ++ _).Nodup
    exact upS_nd v (dropS_nd snd e.k)
  · intro k hk
    rcases hk with z | z
    · cases z
    · obtain ⟨p, hp, rfl⟩ := List.mem_map.mp z
      obtain ⟨q, hq, h1, h2, _⟩ := upm p hp
      rw [taken he, heldB_snoc]
      show (if p.1 = e.k then e.d else heldB (es.take a) p.1) = true
      rw [← h1, if_neg h2]
      exact b.kh _ (.inr (List.mem_map.mpr ⟨q, hq, rfl⟩))
  · intro o ho
    rcases List.mem_append.mp ho with z | z
    · exact b.kb o z
    · cases v with
      | none => cases z
      | some own =>
        rw [List.mem_singleton.mp z]
        show own < m + 6
        have hpm := b.km E (.inr (List.mem_map.mpr ⟨p0, hp0, rfl⟩))
        rcases b.ent p0 hp0 own v0 with q | ⟨i, c, hc, q, _⟩
        · omega
        · have := (List.getElem?_eq_some_iff.mp hc).1
          have := E.ok.few
          omega
theorem Bs.come (E : Env m cbs es most) {e : Ev} (b : Bs m cbs es most j τ outs ds sn r0) (he : es[j]? = some e) (ht : τ ≤ e.t) (nd : ¬ dueBy cbs e.t ds) (h2 : ∀ x ∈ ds, x.t ≤ e.t) {o ds' : List Ev} {sn' : Sn} (co : Come m cbs e ds sn o ds' sn') :
    ∃ r1, Bs m cbs es most (j + 1) e.t (outs ++ o) ds' sn' r1 ∧ ¬ dueBy cbs e.t ds' ∧ ∀ x ∈ ds', x.t ≤ e.t := by
  have hh : ∀ x, ds[0]? = some x → e.t ≤ x.t + most := fun x hx => by
    have ne : ds ≠ [] := fun z => by rw [z] at hx; cases hx
    obtain ⟨d, hd⟩ := due_some (cbs := cbs) ne
    have := due_most E hx hd
    rcases Int.lt_or_le e.t d with y | y
    · omega
    · exact absurd ⟨d, hd, y⟩ nd
  cases co with
  | down hd st nd2 =>
    have h3 : ∀ x ∈ ds ++ [e], x.t ≤ e.t := fun x hx => by
      rcases List.mem_append.mp hx with z | z
      · exact h2 x z
      · rw [List.mem_singleton.mp z]; exact Int.le_refl _
    have h4 : ∀ x, (ds ++ [e])[0]? = some x → e.t ≤ x.t + most := fun x hx => by
      cases ds with
      | nil => cases hx; have := E.m0; omega
      | cons y r => exact hh x hx
    have h5 : ∀ d', dueBy cbs e.t d' → d' ≠ [] → ∀ e', j + 1 ≤ e' → Downs es (j + 1) e' → Stops es e' → fp cbs (d' ++ prt es (j + 1) e') = fp cbs d' := fun d' g ne e' h _ _ => by
      refine (fp_same E.ok ne g fun x hx => ?_).1
      unfold prt at hx
      obtain ⟨i, hi⟩ := List.getElem?_of_mem (List.mem_of_mem_take hx)
      rw [List.getElem?_drop] at hi
      exact E.v.mono j (j + 1 + i) e x (by omega) he hi
    obtain ⟨r1, b1⟩ := (b.add E he hd).steps E st ht h3 h4 h5
    exact ⟨r1, b1, nd2, fun x hx => h3 x (st.mem x hx)⟩
  | @up o sn1 v hd st hv =>
    obtain ⟨r1, b1⟩ := b.steps E st ht h2 hh fun d' g ne e' h dn _ => by
      by_cases z : j = e'
      · rw [← z, prt_self, List.append_nil]
      · obtain ⟨x, hx, xd⟩ := dn j (by omega) (by omega)
        rw [he] at hx
        cases hx
        rw [hd] at xd
        cases xd
    have b2 := b1.up E he hd (Int.le_refl _) hv
    rw [List.append_assoc] at b2
    exact ⟨r1, b2, fun z => dueBy_ne z rfl, fun x hx => by cases hx⟩
theorem comes_bs (E : Env m cbs es most) : ∀ (j : Nat), j ≤ es.length → ∀ {o ds : List Ev} {sn : Sn}, Comes m cbs (es.take j) o ds sn → ∃ r0 τ, Bs m cbs es most j τ o ds sn r0 ∧ ¬ dueBy cbs τ ds ∧ (∀ x ∈ ds, x.t ≤ τ) ∧ ∀ i x, j ≤ i → es[i]? = some x → τ ≤ x.t
  | 0, _, o, ds, sn, h => by
    rcases h.inv with ⟨_, rfl, rfl, rfl⟩ | ⟨es0, _, _, _, _, _, _, _, e, z, _⟩
    · refine ⟨[], ((es[0]?).map Ev.t).getD 0, ⟨⟨0, Nat.le_refl _, Nat.zero_le _, fun i x y => (by omega), (prt_self es 0).symm, fun r hr => hr⟩, rfl, fun i l o x => (by cases x), Valid.nil, fun o ho => (by cases ho), fun k => ⟨fun h => (by cases h), fun ⟨p, hp, _⟩ => (by cases hp)⟩, fun p hp => (by cases hp), List.nodup_nil, fun k hk => (by rcases hk with z | z <;> cases z), fun o ho => (by cases ho)⟩, fun z => dueBy_ne z rfl, fun x hx => (by cases hx), fun i x _ hx => ?_⟩
      have il := (List.getElem?_eq_some_iff.mp hx).1
      have e0 : es[0]? = some es[0] := List.getElem?_eq_getElem (by omega)
      rw [e0]
      show es[0].t ≤ x.t
      rcases Nat.eq_zero_or_pos i with z | z
      · subst z
        rw [e0] at hx
        cases hx
        exact Int.le_refl _
      · exact E.v.mono 0 i _ x z e0 hx
    · have := congrArg List.length z
      rw [List.length_append] at this
      simp at this
  | j + 1, hj, o, ds, sn, h => by
    have he : es[j]? = some es[j] := List.getElem?_eq_getElem (by omega)
    rcases h.inv with ⟨z, _⟩ | ⟨es0, o1, ds1, o2, ds2, o3, sn1, sn2, e, z, c, ck, nd, co, rfl⟩
    · have := congrArg List.length z
      rw [List.length_take, List.length_nil] at this
      omega
    · rw [taken he] at z
      obtain ⟨rfl, z2⟩ := List.append_inj' z rfl
      have z2 : es[j] = e := List.singleton_inj.mp z2
      rw [z2] at he
      obtain ⟨r0, τ, b, n1, t1, l1⟩ := comes_bs E j (by omega) c
      have late : ∀ i x, j ≤ i → es[i]? = some x → e.t ≤ x.t := fun i x hi hx => by
        rcases Nat.lt_or_ge j i with y | y
        · exact E.v.mono j i e x y he hx
        · have : i = j := by omega
          subst this
          rw [he] at hx
          cases hx
          exact Int.le_refl _
      obtain ⟨r1, τ', l', b1, n2, t2⟩ := b.clks E ck n1 (l1 j e (Nat.le_refl _) he) t1 late
      obtain ⟨r2, b2, n3, t3⟩ := b1.come E he l' nd (fun x hx => by have := t2 x hx; omega) co
      exact ⟨r2, e.t, b2, n3, t3, fun i x hi hx => late i x (by omega) hx⟩
theorem gtd_good (E : Env m cbs es most) (g : Gtd m cbs es outs) : ∃ r, Due es cbs 0 r ∧ r.length = (outs.filter Ev.d).length ∧ (∀ (i : Nat) (l : List Int) (o : Ev), r[i]? = some l → (outs.filter Ev.d)[i]? = some o → ∃ a n, Hit m cbs es most a n l o) ∧ Valid outs ∧ ((∀ k, heldB es k = false) → ∀ k, heldB outs k = false) ∧ ∀ o ∈ outs, o.k < m + 6 := by
  obtain ⟨o1, o2, ds, sn, sn2, c, r, rfl⟩ := g
  obtain ⟨r0, τ, b, n1, t1, _⟩ := comes_bs E es.length (Nat.le_refl _) (by rw [List.take_length]; exact c)
  have key : ∀ {o ds' : List Ev} {sn' : Sn}, Runs m cbs ds sn o ds' sn' → ∃ r1 τ', Bs m cbs es most es.length τ' (o1 ++ o) ds' sn' r1 ∧ ¬ dueBy cbs τ' ds' ∧ ∀ x ∈ ds', x.t ≤ τ' := fun r => by
    induction r with
    | refl => exact ⟨r0, τ, by rw [List.append_nil]; exact b, n1, t1⟩
    | @snoc o ds1 o2 ds2 sn1 sn2 d _ e ck nd2 ih =>
      obtain ⟨r1, τ', b1, n2, t2⟩ := ih
      have lt : τ' ≤ d := by
        rcases Int.lt_or_le τ' d with y | y
        · omega
        · exact absurd ⟨d, e, y⟩ n2
      obtain ⟨r2, τ2, _, b2, n3, t3⟩ := b1.clks E ck n2 lt t2 fun i x hi hx => by
        have := (List.getElem?_eq_some_iff.mp hx).1
        omega
      rw [List.append_assoc] at b2
      exact ⟨r2, τ2, b2, n3, t3⟩
  obtain ⟨r1, τ', b1, _, _⟩ := key r
  obtain ⟨a, aj, jl, dn, ed, go⟩ := b1.p
  have haj : a = es.length := by
    have := prt_len (s := a) jl
    rw [← ed, List.length_nil] at this
    omega
  have du := go [] (.fin (by omega))
  rw [List.append_nil] at du
  refine ⟨r1, du, b1.hl, b1.hit, b1.val, fun wh k => ?_, b1.kb⟩
  rw [← Bool.not_eq_true]
  intro z
  obtain ⟨p, hp, _⟩ := (b1.held k).mp z
  have := b1.kh p.1 (.inr (List.mem_map.mpr ⟨p, hp, rfl⟩))
  rw [List.take_length, wh] at this
  cases this
end
end K28

set_option Elab.async false
set_option linter.all false
set_option maxRecDepth 100000
set_option maxHeartbeats 8000000
namespace K28
open PySem PySem.Spec PyProof.Rows L2 Gd Rm La Cb Pl
section
variable {P : Program} {w : World} {K : PySem.W.Frag} {mg : Str → Option Value} {base : Heap}
def spIsR : Sp := fun vs H Q _ => ∃ (c : Addr) (es : List Ev), vs = [.ref c] ∧ Lst evV H c es ∧ Valid es ∧ es.length ≤ 400 ∧ ∀ H', Same H H' → Q (.bl true) H'
theorem ok_is_record (a : At K mg "is_record" s_is_record ["value"]) (c_check_record : ClD P w K mg base 4 "check_record" spCheckN [.non]) : Cl P w K mg base 5 "is_record" spIsR := by
  refine clG a sc_is_record (fun vs H Q E h => ?_) (fun f cdv A outer s H vs Q hg hr h => ?_)
  · obtain ⟨c, es, rfl, _⟩ := h
    rfl
  · obtain ⟨c, es, rfl, hL, hV, hl, q⟩ := h
    refine ⟨_, (pss_cons (ps_try_thru0 (pss_one (ps_expr (pe_clD c_check_record hg hr (by decide) (by rfl) (pa_cons (pv 0) pa_nil)))))
      (pss_one (ps_ret pe_bl))), ?_⟩
    exact ⟨_, rfl, c, es, rfl, hL, hV, hl, fun H1 s1 => q H1 s1⟩
theorem atI_end {xs : List V} {v : V} (h : xs[xs.length - 1]? = some v) : atI xs (-1) = some v := by
  have hn : xs ≠ [] := by
    intro e
    subst e
    simp at h
  have e := List.getLast?_eq_getElem? (l := xs)
  rw [h] at e
  have hz : xs.dropLast ++ [v] = xs := by
    have := List.dropLast_concat_getLast hn
    rw [List.getLast?_eq_some_getLast hn] at e
    rw [← Option.some.inj e]
    exact this
  rw [← hz]
  exact atI_last _ _
theorem two_HP {T : Prop} {C : Hp → Prop} (A : Hp → Prop) (f : (∀ H, A H → C H) → T) (g : ∀ H, A H → C H) : T := f g
theorem prt_i {es : List Ev} {a n t : Nat} (ht : t < n) : (prt es a (a + n))[t]? = es[a + t]? := by
  unfold prt
  rw [show a + n - a = n by omega, List.getElem?_take_of_lt ht, List.getElem?_drop]
theorem neV (x : V) : V.bl (!decide (x = x)) = V.bl false := by simp
theorem eqVt (x : V) : V.bl (decide (x = x)) = V.bl true := by simp
theorem not_rec (es : List Ev) : PyData.eqv (recD es) (recD es) = true := SeqAt.eqv_refl _ (lay_ev es).1
theorem flat_take {α : Type} (r : List (List α)) (i : Nat) : (r.take i).flatten.length ≤ r.flatten.length := by
  conv => rhs; rw [← List.take_append_drop i r]
  rw [List.flatten_append, List.length_append]
  omega
theorem dn_len (es : List Ev) (s n : Nat) : (dnN es s n).length ≤ n := by
  unfold dnN
  rw [List.length_map]
  exact Nat.le_trans (List.length_filter_le ..) (by rw [List.length_range']; exact Nat.le_refl _)
theorem dn_snoc {es : List Ev} {i : Nat} (h : i < es.length) : dnN es 0 (i + 1) = dnN es 0 i ++ if es[i].d = true then [((i : Nat) : Int)] else [] := by
  unfold dnN
  rw [List.range'_1_concat, List.filter_append, List.map_append, Nat.zero_add]
  congr 1
  have e : (es.getD i ⟨0, 0, false⟩).d = es[i].d := by rw [List.getD_eq_getElem?_getD, List.getElem?_eq_getElem h]; rfl
  by_cases z : es[i].d = true
  · rw [if_pos z, List.filter_cons_of_pos (by rw [e]; exact z)]
    rfl
  · rw [if_neg z, List.filter_cons_of_neg (by rw [e]; exact z)]
    rfl
def spLeft : Sp := fun vs H Q _ => ∃ (cc c : Addr) (cbs : List Cmb) (m : Int) (es : List Ev), vs = [.int m, .ref cc, .ref c] ∧ 1 ≤ m ∧ m ≤ 10 ∧ Cmbs H cc cbs ∧ CbsOk m cbs ∧ Rc H c m es ∧
  ∀ H', Same H H' → Q (.bl true) H'
theorem ok__law_left_right (bt : Bt mg) (a : At K mg "_law_left_right" s__law_left_right ["_law_many", "_law_combos_here", "_law_record"]) (c_gated : Cl P w K mg base 8 "gated" spGated) (c_pieces : Cl P w K mg base 8 "pieces" spPieces) (c_is_record : Cl P w K mg base 5 "is_record" spIsR) (c_is_whole : Cl P w K mg base 5 "is_whole" spWhole) : Cl P w K mg base 9 "_law_left_right" spLeft := by
  refine clG a sc__law_left_right (fun vs H Q E h => ?_) (fun f cdv A outer s H vs Q hg hr h => ?_)
  · obtain ⟨cc, c, cbs, m, es, rfl, _⟩ := h
    rfl
  · obtain ⟨cc, c, cbs, m, es, rfl, m1, m2, hC, ok, RC, q⟩ := h
    refine ⟨_, (pss_cons (ps_par (i := 3) (j := 4) rfl sc__law_left_right.nd rfl rfl (by decide) rfl rfl (pa_cons (pe_cl c_gated hg hr (by decide) (by rfl) (pa_cons (pv 0) (pa_cons (pv 1) (pa_cons (pv 2) pa_nil)))) (pa_cons (pe_cl c_pieces hg hr (by decide) (by rfl) (pa_cons (pv 0) (pa_cons (pv 1) (pa_cons (pv 2) pa_nil)))) pa_nil)) (by rfl))
      (pss_cons (ps_setLc (i := 5) (own := [("_law_event", 14)]) (g := (gName 14)) (by rfl) sc__law_left_right.nd rfl rfl (sw_true rfl rfl rfl (by decide +kernel)) (pi_list (pv 3)) (blkOk_by (N := n__law_left_right) (sc := defScope s__law_left_right) (by decide +kernel)) (fun _ _ _ _ _ => (pg_name (i := 14) sc__law_left_right.nd rfl (Or.inl rfl))) (fun _ _ _ _ _ => (pts_one (pt_cmpR op_eq (pe_ix (r := rIxT K) ix_tup (pv 14) pe_int (fun _ _ => rfl)) pe_str (nomark _)))) (fun _ _ _ _ _ => (pv 14)))
      (pss_cons (ps_set (i := 6) sc__law_left_right.nd rfl (Or.inl rfl) (pe_lst pa_nil))
      (pss_cons (ps_for PassesOwn.never rfl (pi_list (pv 4)) (pg_name (i := 7) sc__law_left_right.nd rfl (Or.inl rfl)) (pss_one (ps_expr (pe_bm PySem.F.plainAttrs_list PySem.F.slot_list_extend PySem.F.type_list_extend mt_extend (pv 6) (pa_cons (pv 7) pa_nil)))))
      (pss_cons (ps_if (PW.pt (pw_or (pt_cmpR (op_neD hr.units) (pv 6) (pe_lc (own := [("_law_spot", 15), ("_law_event", 14)]) (g := (gTup K 2 (gCons (gName 15) (gCons (gName 14) gNil)))) (by rfl) sc__law_left_right.nd (pi_enum (by rfl) bt.m_enumerate (pa_cons (pv 2) pa_nil)) (blkOk_by (N := n__law_left_right) (sc := defScope s__law_left_right) (by decide +kernel)) (fun _ _ _ _ _ => (pg_tup rfl (pgs_cons (pg_name (i := 15) sc__law_left_right.nd rfl (Or.inl rfl)) (pgs_cons (pg_name (i := 14) sc__law_left_right.nd rfl (Or.inl rfl)) pgs_nil)))) (fun _ _ _ _ _ => (pts_one (pt_cmpR op_eq (pe_ix (r := rIxT K) ix_tup (pv 14) pe_int (fun _ _ => rfl)) pe_str (nomark _)))) (fun _ _ _ _ _ => (pv 15))) (nomark _)) (pw_or1 (pt_cmpR op_ne (pe_callB call_len_seq (by rfl) bt.m_len (by decide +kernel) (pa_cons (pv 5) pa_nil)) (pe_callB call_len_seq (by rfl) bt.m_len (by decide +kernel) (pa_cons (pv 4) pa_nil)) (nomark _))))) (pss_one (ps_ret pe_bl)) pss_nil)
      (pss_cons (ps_set (i := 8) sc__law_left_right.nd rfl (Or.inl rfl) (pe_callB (cr_max rfl) (by rfl) bt.m_max (by decide +kernel) (pa_cons (pe_op op_cat (pe_lst (pa_cons pe_int pa_nil)) (pe_lc (own := [("_law_combo", 16)]) (g := (gName 16)) (by rfl) sc__law_left_right.nd (pi_list (pv 1)) (blkOk_by (N := n__law_left_right) (sc := defScope s__law_left_right) (by decide +kernel)) (fun _ _ _ _ _ => (pg_name (i := 16) sc__law_left_right.nd rfl (Or.inl rfl))) (fun _ _ _ _ _ => pts_nil) (fun _ _ _ _ _ => (pe_ix (r := rIxT K) ix_tup (pv 16) pe_int (fun _ _ => rfl))))) pa_nil)))
      (pss_cons (ps_for PassesOwn.never rfl (pi_zip (by rfl) bt.m_zip (pa_cons (pv 4) (pa_cons (pv 5) pa_nil))) (pg_tup rfl (pgs_cons (pg_name (i := 7) sc__law_left_right.nd rfl (Or.inl rfl)) (pgs_cons (pg_tup rfl (pgs_cons (pg_name (i := 9) sc__law_left_right.nd rfl (Or.inl rfl)) (pgs_cons (pg_name (i := 10) sc__law_left_right.nd rfl (Or.inl rfl)) (pgs_cons (pg_name (i := 11) sc__law_left_right.nd rfl (Or.inl rfl)) pgs_nil)))) pgs_nil))) (pss_cons (ps_setLc (i := 12) (own := [("_law_spot", 15)]) (g := (gName 15)) (by rfl) sc__law_left_right.nd rfl rfl (sw_true rfl rfl rfl (by decide +kernel)) (pi_list (pv 7)) (blkOk_by (N := n__law_left_right) (sc := defScope s__law_left_right) (by decide +kernel)) (fun _ _ _ _ _ => (pg_name (i := 15) sc__law_left_right.nd rfl (Or.inl rfl))) (fun _ _ _ _ _ => pts_nil) (fun _ _ _ _ _ => (pe_ix (r := rIxT K) ix_tup (pe_ix (r := rIxL K) ix_list (pv 2) (pv 15) (fun _ _ => rfl)) pe_int (fun _ _ => rfl))))
      (pss_cons (ps_if (pt_not (pt_chain op_le op_le (pe_ix ix_tup (pe_ix ix_list (pv 2) (pe_ix ix_list (pv 7) (pe_un un_neg pe_int) (fun _ _ => rfl)) (fun _ _ => rfl)) pe_int (fun _ _ => rfl)) (pv 9) (pe_op op_add (pe_ix ix_tup (pe_ix ix_list (pv 2) (pe_ix ix_list (pv 7) pe_int (fun _ _ => rfl)) (fun _ _ => rfl)) pe_int (fun _ _ => rfl)) (pv 8)))) (pss_one (ps_ret pe_bl)) pss_nil)
      (pss_cons (ps_set (i := 13) sc__law_left_right.nd rfl (Or.inl rfl) (pe_ifExp (pt_cmpR op_lt (pv 10) (pv 0) (nomark _)) (pv 10) (pe_ix ix_tup (pe_ix ix_list (pv 1) (pe_op op_sub (pv 10) (pv 0)) (fun _ _ => rfl)) pe_int (fun _ _ => rfl))))
      (pss_one (ps_if (pt_cmpR (op_neD hr.units) (pv 13) (pe_ifExp (pt_cmpR op_eq (pe_callB call_len_seq (by rfl) bt.m_len (by decide +kernel) (pa_cons (pv 12) pa_nil)) pe_int (nomark _)) (pe_ix ix_list (pv 12) pe_int (fun _ _ => rfl)) (pe_callTy call_tuple_of (by rfl) bt.m_tuple (by decide +kernel) (pa_cons (pe_callB cr_sortedI (by rfl) bt.m_sorted (by decide +kernel) (pa_cons (pv 12) pa_nil)) pa_nil))) (nomark _)) (pss_one (ps_ret pe_bl)) pss_nil))))))
      (pss_cons (ps_if (PW.pt (pw_or (pt_not (pt_val (pe_cl c_is_record hg hr (by decide) (by rfl) (pa_cons (pv 3) pa_nil)))) (pw_or1 (PW.pt (pw_and (pt_val (pe_cl c_is_whole hg hr (by decide) (by rfl) (pa_cons (pv 2) pa_nil))) (pw_and1 (pt_not (pt_val (pe_cl c_is_whole hg hr (by decide) (by rfl) (pa_cons (pv 3) pa_nil)))))))))) (pss_one (ps_ret pe_bl)) pss_nil)
      (pss_one (ps_ret (pe_cmpR (op_eqD hr.units) (pe_cl c_gated hg hr (by decide) (by rfl) (pa_cons (pv 0) (pa_cons (pe_lst pa_nil) (pa_cons (pv 2) pa_nil)))) (pv 2) (nomark _)))))))))))), ?_⟩
    have len := RC.len
    refine ⟨_, rfl, _, rfl, _, rfl, cc, c, cbs, m, es, rfl, m1, m2, hC, ok, RC, fun H1 F outs s1 nF gt hF => ?_⟩
    refine ⟨_, rfl, _, rfl, _, rfl, cc, c, cbs, m, es, rfl, m1, m2, hC.same s1, ok, RC.same s1, fun H2 Pt r as s2 nP ll du rl => ⟨_, _, rfl, ?_⟩⟩
    have s02 := s1.trans s2
    have hF2 := hF.same s2
    have gl : outs.length ≤ es.length := by
      obtain ⟨o1, o2, ds, sn, sn2, ga, gb, rfl⟩ := id gt
      have h1 := ga.len
      have h2 := gb.len
      rw [List.length_append]
      simp only [List.length_nil] at *
      omega
    obtain ⟨fs, hf, hT⟩ := id hF2
    have hfl := hT.1
    -- downs
    refine ⟨_, rfl, F, rfl, ⟨_, SqL.of hf⟩, fun D nD => lc_it (walk_list (xs := fs.map V.ref)) (fun i H' => Same H2 H' ∧ Lst evV H' D ((outs.take i).filter Ev.d)) ⟨same_upd nD, [], upd_same, Tups.nil⟩ (fun i H' _ p => SqL.of (p.1 _ _ hf)) (fun i v Hx Hy hi p y => ?_) (fun H3 p => ?_)⟩
    · obtain ⟨sx, bs, hD, hB⟩ := p
      obtain ⟨rfl, e3⟩ := y
      have hi' : i < outs.length := by rw [List.length_map] at hi; omega
      obtain ⟨b, hb, hbt⟩ := hT.at_ hi'
      have e3' : v = .ref b := Option.some.inj (e3.symm.trans (get_map_ref hb))
      subst e3'
      have bl := hB.1
      have fl := List.length_filter_le Ev.d (outs.take i)
      rw [List.length_take] at fl
      have ft := filt_take (p := Ev.d) hi'
      refine ⟨rfl, _, rfl, b, _, 2, _, rfl, rfl, SqT.of (sx _ _ hbt), atI_nat (j := 2) rfl, rfl, _, rfl, ?_⟩
      rw [wayS_down]
      refine ite2 (fun z => ?_) (fun z => ?_)
      · refine ⟨_, rfl, _, hD, small1000 (by rw [List.length_map]; omega), Same.off sx nD off_upd, ?_⟩
        rw [ft, if_pos z]
        exact lst_snoc hD hB (sx _ _ hbt)
      · refine ⟨sx, ?_⟩
        rw [ft, if_neg z, List.append_nil]
        exact ⟨bs, hD, hB⟩
    obtain ⟨s3, hD⟩ := p
    rw [List.length_map, hfl, List.take_length] at hD
    have s03 := s02.trans s3
    have ll3 := ll.same s3
    have hF3 := hF2.same s3
    refine ⟨Nat.zero_le _, fun N nN => ?_⟩
    have kN := same_upd (o := .lst []) nN
    have hN := upd_same (H := H3) (a := N) (o := .lst [])
    have nNH : H N = none := same_al s03 _ nN
    have ll4 := ll3.same kN
    have al := ll4.len
    have fln := due_flat du
    rw [Nat.sub_zero] at fln
    have fl4 : r.flatten.length ≤ 400 := by rw [fln]; have := dn_len es 0 es.length; omega
    refine ⟨_, rfl, Pt, rfl, ⟨_, SqL.of ll4.ls⟩, for_it (walk_list (xs := as.map V.ref)) (fun i σ H' => (∃ y7 y8 y9 y10 y11 y12 y13 y14 y15 y16 : Option V, σ = [some (.int m), some (.ref cc), some (.ref c), some (.ref F), some (.ref Pt), some (.ref D), some (.ref N), y7, y8, y9, y10, y11, y12, y13, y14, y15, y16]) ∧ Same H3 H' ∧ H' N = some (.lst ((r.take i).flatten.map V.int)))
      ⟨⟨_, _, _, _, _, _, _, _, _, _, rfl⟩, kN, hN⟩ (fun i σ H' _ p => SqL.of (p.2.1 _ _ ll3.ls)) (fun i x σ Hx Hy hi p y => ?_) (fun σ H4 p => ?_)⟩
    · obtain ⟨⟨y7, y8, y9, y10, y11, y12, y13, y14, y15, y16, rfl⟩, sx, hNx⟩ := p
      obtain ⟨rfl, hx⟩ := y
      have hi' : i < as.length := by rw [List.length_map] at hi; exact hi
      have hir : i < r.length := by omega
      have ex : V.ref as[i] = x := Option.some.inj ((get_map_ref (List.getElem?_eq_getElem hi')).symm.trans hx)
      subst ex
      have hb := sx _ _ (ll3.el i as[i] r[i] (List.getElem?_eq_getElem hi') (List.getElem?_eq_getElem hir))
      have et : (r.take (i + 1)).flatten = (r.take i).flatten ++ r[i] := by
        rw [List.take_add_one, List.getElem?_eq_getElem hir, List.flatten_append]
        show _ ++ [r[i]].flatten = _
        rw [List.flatten_singleton]
      have ft := flat_take r (i + 1)
      rw [et, List.length_append] at ft
      refine ⟨_, rfl, .inl ⟨rfl, _, SqL.of hNx⟩, _, rfl, N, as[i], _, _, rfl, rfl, hNx, hb, by rw [sizeLine_eq, List.length_map, List.length_map]; omega, ⟨_, _, _, _, _, _, _, _, _, _, rfl⟩, Same.off sx nN off_upd, ?_⟩
      rw [upd_same, et, List.map_append]
    obtain ⟨⟨y7, y8, y9, y10, y11, y12, y13, y14, y15, y16, rfl⟩, s4, hN4⟩ := p
    rw [List.length_map, al, List.take_length, fln] at hN4
    have s04 := s03.trans s4
    have RC4 := RC.same s04
    obtain ⟨cs, hca, hTc⟩ := id RC4.ls
    have hcl := hTc.1
    refine ⟨_, rfl, _, rfl, c, _, rfl, SqL.of hca, fun M nM => lc_it (walk_enum (xs := cs.map V.ref)) (fun i H' => Same H4 H' ∧ H' M = some (.lst ((dnN es 0 i).map V.int))) ⟨same_upd nM, upd_same⟩ (fun i H' _ p => SqL.of (p.1 _ _ hca)) (fun i v Hx Hy hi p y => ?_) (fun H5 p => ?_)⟩
    · obtain ⟨sx, hM⟩ := p
      obtain ⟨T, u, v, rfl, nT, rfl, e1, e3⟩ := y
      have hi' : i < es.length := by rw [List.length_map] at hi; omega
      obtain ⟨b, hb, hbt⟩ := hTc.at_ hi'
      have e1' : u = .int (i : Nat) := (Option.some.inj e1).symm
      subst e1'
      have e2' : v = .ref b := Option.some.inj ((show (cs.map V.ref)[i]? = some v from e3).symm.trans (get_map_ref hb))
      subst e2'
      have sT := same_upd (o := .tup [.int (i : Nat), .ref b]) nT
      have sx2 := sx.trans sT
      have hM2 := sT _ _ hM
      have dl := dn_len es 0 i
      refine ⟨T, _, rfl, SqT.of upd_same, rfl, _, _, rfl, _, _, rfl, rfl, rfl, _, rfl, b, _, 2, _, rfl, rfl, SqT.of (sx2 _ _ hbt), atI_nat (j := 2) rfl, rfl, _, rfl, ?_⟩
      rw [wayS_down]
      refine ite2 (fun z => ?_) (fun z => ?_)
      · refine ⟨_, rfl, _, hM2, small1000 (by rw [List.length_map]; omega), Same.off sx2 nM off_upd, ?_⟩
        rw [upd_same, dn_snoc hi', if_pos z, List.map_append]
        rfl
      · refine ⟨sx2, ?_⟩
        rw [dn_snoc hi', if_neg z, List.append_nil]
        exact hM2
    obtain ⟨s5, hM⟩ := p
    rw [List.length_map, hcl] at hM
    have hN5 := s5 _ _ hN4
    refine ⟨_, _, .lst (SqL.of hN5) (dpInts _), .lst (SqL.of hM) (dpInts _), shaped_ints _, shaped_ints _, ?_⟩
    rw [SeqAt.eqv_refl (.list ((dnN es 0 es.length).map PyData.int)) (lay_ints _).1]
    have ll5 := (ll4.same (Same.refl _))
    obtain ⟨ds, hDl, hDT⟩ := id hD
    have dtl := hDT.1
    have k35 := s4.trans s5
    have s05 := s03.trans k35
    have hcc5 := hC.same s05
    obtain ⟨vs, hvs, hvl, hvv⟩ := id hcc5
    have few := ok.few
    have hPt5 := k35 _ _ ll3.ls
    have hD5 := k35 _ _ hDl
    have hDT5 := hDT.same k35
    have RC5 := RC.same s05
    -- the greatest time
    have most : ∀ mx : Int, mx ∈ (0 : Int) :: cbs.map Cmb.t → (∀ y ∈ (0 : Int) :: cbs.map Cmb.t, y ≤ mx) → Env m cbs es mx := fun mx _ hub => ⟨ok, m1, RC.valid, RC.key, hub 0 List.mem_cons_self, fun c hc => hub _ (List.mem_cons_of_mem _ (List.mem_map.mpr ⟨c, hc, rfl⟩))⟩
    have good : ∀ mx : Int, Env m cbs es mx → r.length = (outs.filter Ev.d).length ∧ (∀ (i : Nat) (l : List Int) (o : Ev), r[i]? = some l → (outs.filter Ev.d)[i]? = some o → ∃ a n, Hit m cbs es mx a n l o) ∧ Valid outs ∧ ((∀ k, heldB es k = false) → ∀ k, heldB outs k = false) ∧ ∀ o ∈ outs, o.k < m + 6 := fun mx E => by
      obtain ⟨r', du', g⟩ := gtd_good E gt
      obtain rfl := du.uniq du'
      exact g
    have rlen : r.length = (outs.filter Ev.d).length := by
      obtain ⟨mx, hm, hub⟩ : ∃ mx : Int, mx ∈ (0 : Int) :: cbs.map Cmb.t ∧ ∀ y ∈ (0 : Int) :: cbs.map Cmb.t, y ≤ mx := by
        have := maxOr_mem (l := (0 : Int) :: cbs.map Cmb.t) (by intro z; cases z)
        exact ⟨_, this.1, this.2⟩
      exact (good mx (most mx hm hub)).1
    refine ⟨false, congrArg V.bl rfl, iteF ⟨_, rfl, D, _, rfl, .inl (SqL.of hD5), _, rfl, Pt, _, rfl, .inl (SqL.of hPt5), rfl, false, ?_, iteF ?_⟩⟩
    · rw [List.length_map, List.length_map, dtl, al, rlen]
      exact neV _
    refine ⟨(by show 1 ≤ sizeLine; decide), fun L1 nL1 => ?_⟩
    have k1 := same_upd (o := .lst [.int 0]) nL1
    have hL1 := upd_same (H := H5) (a := L1) (o := .lst [.int 0])
    generalize upd H5 L1 (.lst [.int 0]) = H6 at k1 hL1 ⊢
    have hvs6 := k1 _ _ hvs
    refine ⟨_, rfl, cc, rfl, ⟨_, SqL.of hvs6⟩, fun M2 nM2 => lc_it (walk_list (xs := vs)) (fun t H' => Same H6 H' ∧ H' M2 = some (.lst (((cbs.take t).map Cmb.t).map V.int))) ⟨same_upd nM2, upd_same⟩ (fun t H' _ z => SqL.of (z.1 _ _ hvs6)) (fun t x Hx Hy ht z y => ?_) (fun H7 z => ?_)⟩
    · obtain ⟨rfl, e2⟩ := y
      obtain ⟨z1, z2⟩ := z
      have ht' : t < cbs.length := by omega
      obtain ⟨ad, kk, hv, ha, hk⟩ := Cmbs.at_ ⟨hvl, hvv⟩ ht'
      have e2' : x = .ref ad := Option.some.inj (e2.symm.trans hv)
      subst e2'
      refine ⟨rfl, _, rfl, ad, _, _, _, rfl, rfl, SqT.of (z1 _ _ (k1 _ _ ha)), atI_nat (j := 1) rfl, _, z2, ?_, Same.off z1 nM2 off_upd, ?_⟩
      · rw [List.length_map, List.length_map, List.length_take]; exact small1000 (by omega)
      · rw [upd_same, take_map ht', List.map_append]; rfl
    obtain ⟨z1, z2⟩ := z
    rw [hvl, List.take_length] at z2
    refine ⟨L1, M2, _, _, rfl, rfl, z1 _ _ hL1, z2, by rw [List.length_map, List.length_map]; show 1 + cbs.length ≤ sizeLine; exact Nat.le_of_lt (small1000 (by omega)), fun U nU => ?_⟩
    have kU := same_upd (o := .lst ([.int 0] ++ (cbs.map Cmb.t).map V.int)) nU
    have hU : upd H7 U (.lst ([.int 0] ++ (cbs.map Cmb.t).map V.int)) U = some (.lst (((0 : Int) :: cbs.map Cmb.t).map V.int)) := upd_same
    have k8 := (k1.trans z1).trans kU
    generalize upd H7 U (.lst ([.int 0] ++ (cbs.map Cmb.t).map V.int)) = H8 at kU hU k8 ⊢
    refine ⟨U, (0 : Int) :: cbs.map Cmb.t, rfl, SqL.of hU, Nat.succ_pos _, fun mx hm hub => ?_⟩
    have E1 := most mx hm hub
    obtain ⟨_, hits, vo, who, _⟩ := good mx E1
    clear good most
    have s08 := s05.trans k8
    have hPt8 := k8 _ _ hPt5
    have hD8 := k8 _ _ hD5
    have hDT8 := hDT5.same k8
    have RC8 := RC.same s08
    refine ⟨_, rfl, _, rfl, Pt, D, _, _, rfl, SqL.of hPt8, SqL.of hD8, for_it (walk_zip (n := r.length) (xs := as.map V.ref) (ys := ds.map V.ref) (by rw [List.length_map, List.length_map]; omega)) (fun i σ H' => (∃ y7 y9 y10 y11 y12 y13 y14 y15 y16 : Option V, σ = [some (.int m), some (.ref cc), some (.ref c), some (.ref F), some (.ref Pt), some (.ref D), some (.ref N), y7, some (.int mx), y9, y10, y11, y12, y13, y14, y15, y16]) ∧ Same H8 H')
      ⟨⟨_, _, _, _, _, _, _, _, _, rfl⟩, Same.refl _⟩ (fun i σ H' _ p => ⟨SqL.of (p.2 _ _ hPt8), SqL.of (p.2 _ _ hD8)⟩) (fun i x σ Hx Hy hi p y => ?_) (fun σ H9 p => ?_)⟩
    · obtain ⟨⟨y7, y9, y10, y11, y12, y13, y14, y15, y16, rfl⟩, s9⟩ := p
      obtain ⟨T, u, v, rfl, nT, rfl, e1, e2⟩ := y
      have hi1 : i < as.length := by omega
      have hi2 : i < (outs.filter Ev.d).length := by omega
      obtain ⟨b, hb, hbt⟩ := hDT8.at_ hi2
      have eu : V.ref as[i] = u := Option.some.inj ((get_map_ref (List.getElem?_eq_getElem hi1)).symm.trans e1)
      subst eu
      have ev : V.ref b = v := Option.some.inj ((get_map_ref hb).symm.trans e2)
      subst ev
      have sT := same_upd (o := .tup [.ref as[i], .ref b]) nT
      have hT0 := upd_same (H := Hx) (a := T) (o := .tup [.ref as[i], .ref b])
      have s10 := s9.trans sT
      generalize upd Hx T (.tup [.ref as[i], .ref b]) = Hw at sT hT0 s10 ⊢
      have hbw := s10 _ _ hbt
      refine ⟨T, _, rfl, SqT.of hT0, rfl, _, _, rfl, _, _, rfl, b, _, rfl, SqT.of hbw, rfl, _, _, rfl, _, _, rfl, _, _, rfl, rfl, rfl, ?_⟩
      have hir : i < r.length := by omega
      obtain ⟨a, n, ht⟩ := hits i r[i] (outs.filter Ev.d)[i] (List.getElem?_eq_getElem hir) (List.getElem?_eq_getElem hi2)
      have hpw : Hw as[i] = some (.lst ((seg a (a + n)).map V.int)) := by
        have := ll3.el i as[i] r[i] (List.getElem?_eq_getElem hi1) (List.getElem?_eq_getElem hir)
        rw [ht.seg] at this
        exact s10 _ _ (k8 _ _ (k35 _ _ this))
      obtain ⟨hseg, npos, nle, odn, lo, hi0, hown⟩ := ht
      clear hseg hbw hbt
      generalize (outs.filter Ev.d)[i] = o at odn lo hi0 hown ⊢
      generalize as[i] = pa at hpw hT0 ⊢
      have sgl : (seg a (a + n)).length = n := by rw [seg_len]; omega
      have sga : ∀ t, t < n → ((seg a (a + n)).map V.int)[t]? = some (.int ((a + t : Nat) : Int)) := fun t h => get_map_int (seg_at (by omega))
      have pl : (prt es a (a + n)).length = n := by rw [prt_len nle]; omega
      have RCw := RC8.same s10
      obtain ⟨cw, hcw, hTw⟩ := id RCw.ls
      have hcwl := hTw.1
      refine ⟨_, rfl, pa, rfl, ⟨_, SqL.of hpw⟩, fun M3 nM3 => lc_it (walk_list (xs := (seg a (a + n)).map V.int)) (fun t H' => Same Hw H' ∧ H' M3 = some (.lst ((((prt es a (a + n)).take t).map Ev.k).map V.int))) ⟨same_upd nM3, upd_same⟩ (fun t H' _ p => SqL.of (p.1 _ _ hpw)) (fun t x Hz Hu ht p y => ?_) (fun H10 p => ?_)⟩
      · obtain ⟨sz, hM3⟩ := p
        obtain ⟨rfl, e3⟩ := y
        have ht' : t < n := by rw [List.length_map, sgl] at ht; exact ht
        have ex : x = .int ((a + t : Nat) : Int) := Option.some.inj (e3.symm.trans (sga t ht'))
        subst ex
        obtain ⟨bb, hbb, hbbt⟩ := hTw.at_ (i := a + t) (by omega)
        have ep : (prt es a (a + n))[t]'(by omega) = es[a + t]'(by omega) := by
          have := prt_i (es := es) (a := a) ht'
          rw [List.getElem?_eq_getElem (by omega), List.getElem?_eq_getElem (by omega)] at this
          exact Option.some.inj this
        refine ⟨rfl, _, rfl, _, rfl, c, _, _, .ref bb, rfl, rfl, SqL.of (sz _ _ hcw), atI_nat (get_map_ref hbb), bb, _, 1, _, rfl, rfl, SqT.of (sz _ _ hbbt), atI_nat (j := 1) rfl, _, hM3, ?_, Same.off sz nM3 off_upd, ?_⟩
        · rw [List.length_map, List.length_map, List.length_take]; exact small1000 (by omega)
        · rw [upd_same, take_map (show t < (prt es a (a + n)).length by omega), List.map_append, ep]; rfl
      obtain ⟨s11, hM3⟩ := p
      rw [List.length_map, sgl, List.take_of_length_le (by omega)] at hM3
      have hkl : ((prt es a (a + n)).map Ev.k).length = n := by rw [List.length_map]; exact pl
      have s12 := s10.trans s11
      have hpw2 := s11 _ _ hpw
      have hcw2 := s11 _ _ hcw
      obtain ⟨bl, hbl, hblt⟩ := hTw.at_ (i := a + (n - 1)) (by omega)
      obtain ⟨b0, hb0, hb0t⟩ := hTw.at_ (i := a) (by omega)
      have e0 : es[a]? = some es[a] := List.getElem?_eq_getElem (by omega)
      have elast : es[a + (n - 1)].t ≤ o.t := lo _ (by
        refine List.mem_of_getElem? (i := n - 1) ?_
        rw [prt_i (by omega), List.getElem?_eq_getElem (by omega)])
      have ehi := hi0 _ e0
      have at1 : atI ((seg a (a + n)).map V.int) (-1) = some (.int ((a + (n - 1) : Nat) : Int)) := atI_end (by rw [List.length_map, sgl]; exact sga (n - 1) (by omega))
      refine ⟨_, rfl, _, rfl, 1, rfl, pa, _, -1, .int ((a + (n - 1) : Nat) : Int), rfl, rfl, SqL.of hpw2, at1, c, _, _, .ref bl, rfl, rfl, SqL.of hcw2, atI_nat (get_map_ref hbl), bl, _, 0, _, rfl, rfl, SqT.of (s11 _ _ hblt), atI_nat (j := 0) rfl, ?_⟩
      refine ⟨_, rfl, _, _, rfl, rfl, true, congrArg V.bl (decide_eq_true elast), iteT ⟨_, rfl, _, rfl, pa, _, 0, .int ((a + 0 : Nat) : Int), rfl, rfl, SqL.of hpw2, atI_nat (j := 0) (sga 0 (by omega)), c, _, _, .ref b0, rfl, rfl, SqL.of hcw2, atI_nat (get_map_ref hb0), b0, _, 0, _, rfl, rfl, SqT.of (s11 _ _ hb0t), atI_nat (j := 0) rfl, ?_⟩⟩
      refine ⟨_, rfl, _, _, rfl, rfl, _, _, rfl, rfl, true, congrArg V.bl (decide_eq_true ehi), iteF ?_⟩
      rcases hown with ⟨n1, h⟩ | ⟨n2, ii, cb, hcb, h, hperm⟩
      · have hk := h _ e0
        have hlt := RC.key es[a] (List.getElem_mem _)
        refine ⟨_, rfl, _, rfl, _, _, rfl, rfl, true, congrArg V.bl (decide_eq_true (by rw [hk]; exact hlt)), iteT ⟨_, rfl, ?_⟩⟩
        have hk0 : (((prt es a (a + n)).map Ev.k).map V.int)[0]? = some (.int es[a].k) := by
          refine get_map_int ?_
          rw [List.getElem?_map, prt_i (by omega), Nat.add_zero, e0]
          rfl
        refine ⟨_, rfl, _, rfl, M3, _, rfl, .inl (SqL.of hM3), rfl, true, ?_, iteT ⟨_, rfl, M3, _, 0, .int es[a].k, rfl, rfl, SqL.of hM3, atI_nat (j := 0) hk0, ?_⟩⟩
        · rw [List.length_map, hkl, n1]
          rfl
        refine ⟨.int o.k, .int es[a].k, .int _, .int _, rfl, rfl, false, congrArg V.bl ?_, iteF ⟨⟨_, _, _, _, _, _, _, _, _, rfl⟩, s12⟩⟩
        rw [hk]
        simp [PyData.eqv]
      · have hle : ¬ o.k < m := by omega
        have iil := (List.getElem?_eq_some_iff.mp hcb).1
        obtain ⟨ad, kk, hv, ha, hkk⟩ := Cmbs.at_ ⟨hvl, hvv⟩ iil
        have ecb : cbs[ii] = cb := (List.getElem?_eq_some_iff.mp hcb).2
        rw [ecb] at ha hkk
        have kx := k8.trans s12
        refine ⟨_, rfl, _, rfl, _, _, rfl, rfl, false, congrArg V.bl (decide_eq_false hle), iteF ⟨_, rfl, _, rfl, _, rfl, _, _, rfl, rfl, cc, _, _, .ref ad, rfl, rfl, SqL.of (kx _ _ hvs), ?_, ad, _, 0, .ref kk, rfl, rfl, SqT.of (kx _ _ ha), atI_nat (j := 0) rfl, ?_⟩⟩
        · rw [show o.k - m = ((ii : Nat) : Int) by omega]
          exact atI_nat hv
        refine ⟨_, rfl, _, rfl, M3, _, rfl, .inl (SqL.of hM3), rfl, false, ?_, iteF ⟨_, rfl, M3, _, rfl, SqL.of hM3, fun ns' pk hpk hok npk => ?_⟩⟩
        · rw [List.length_map, hkl]
          exact congrArg V.bl (decide_eq_false (by intro z; have := V.int.inj z; omega))
        have kP := same_upd (o := .lst (ns'.map V.int)) npk
        refine ⟨pk, _, rfl, .inl ⟨SqL.of upd_same, fun kt nkt => ?_⟩⟩
        have kQ := same_upd (o := .tup (ns'.map V.int)) nkt
        have ocb := ok.all cb (List.mem_of_getElem? hcb)
        have ek : cb.ks = ns' := List.Perm.eq_of_pairwise (fun x y _ _ h1 h2 => Int.le_antisymm h1 h2) (ocb.asc.imp fun h => by omega) hok (hperm.trans hpk.symm)
        refine ⟨ksD cb.ks, ksD ns', .tup (SqT.of (kQ _ _ (kP _ _ (kx _ _ hkk)))) (dpInts _), .tup (SqT.of upd_same) (dpInts _), shaped_ks _, shaped_ks _, false, congrArg V.bl (by rw [eqv_ks, decide_eq_true ek]; rfl), iteF ⟨⟨_, _, _, _, _, _, _, _, _, rfl⟩, (s12.trans kP).trans kQ⟩⟩
    · obtain ⟨⟨y7, y9, y10, y11, y12, y13, y14, y15, y16, rfl⟩, s9⟩ := p
      have s09 := s08.trans s9
      have hF9 := (((hF3.same k35).same k8).same s9)
      have RC9 := RC.same s09
      obtain ⟨bw, hbw⟩ : ∃ bw : Bool, bw = true ↔ ∀ k, heldB es k = false := by
        classical
        exact ⟨decide (∀ k, heldB es k = false), decide_eq_true_iff⟩
      apply two_HP (fun H' => Same H9 H')
      · intro X
        refine ⟨_, rfl, F, outs, rfl, hF9, vo, by omega, fun H10 s10 => ⟨_, rfl, iteF ?_⟩⟩
        refine ⟨_, rfl, c, es, bw, rfl, RC9.ls.same s10, RC.valid, by omega, hbw, fun H11 s11 => ⟨_, rfl, ?_⟩⟩
        have t11 := s10.trans s11
        cases bw with
        | false => exact iteF (iteF (X H11 t11))
        | true => exact iteT ⟨_, rfl, F, outs, true, rfl, hF9.same t11, vo, by omega, ⟨fun _ => who (hbw.mp rfl), fun _ => rfl⟩, fun H12 s12 => ⟨_, rfl, iteF (X H12 (t11.trans s12))⟩⟩
      intro H10 s10
      have s010 := s09.trans s10
      refine ⟨_, rfl, Nat.zero_le _, fun E2 nE2 => ?_⟩
      have kE := same_upd (o := .lst []) nE2
      have hE := upd_same (H := H10) (a := E2) (o := .lst [])
      generalize upd H10 E2 (.lst []) = H11 at kE hE ⊢
      have s011 := s010.trans kE
      refine ⟨_, rfl, E2, c, [], m, es, rfl, m1, m2, ⟨[], hE, rfl, fun i v cb e => by cases e⟩, CbsOk.nil _, RC.same s011, fun H12 O outs2 s12 nO gt2 hO => ?_⟩
      have eo := gtd_nil RC.valid gt2
      subst eo
      have RC12 := RC.same (s011.trans s12)
      refine ⟨_, rfl, recD outs2, recD outs2, hO.dp, RC12.ls.dp, shaped_rec _, shaped_rec _, ?_⟩
      rw [not_rec]
      exact q _ (s011.trans s12)
end
end K28

set_option Elab.async false
set_option linter.all false
set_option maxRecDepth 100000
set_option maxHeartbeats 8000000
namespace K28
open PySem PySem.Spec PyProof.Rows L2 Gd Rm La Cb Pl
/-! ### records that are moved or renamed -/
theorem held_mv {σ : Int → Int} {s : Int} (inj : ∀ a b, σ a = σ b → a = b) : ∀ (es : List Ev) (h h' : Int → Bool), (∀ k, h' (σ k) = h k) → ∀ k, (es.map (mv σ s)).foldl after h' (σ k) = es.foldl after h k
  | [], _, _, e, k => e k
  | x :: es, h, h', e, k => held_mv inj es (after h x) (after h' (mv σ s x)) (fun k => by
    show (if σ k = σ x.k then x.d else h' (σ k)) = if k = x.k then x.d else h k
    by_cases z : k = x.k
    · rw [if_pos (congrArg σ z), if_pos z]
    · rw [if_neg (fun y => z (inj _ _ y)), if_neg z, e]) k
theorem valid_mv {σ : Int → Int} {s : Int} (inj : ∀ a b, σ a = σ b → a = b) {es : List Ev} (v : Valid es) (h0 : ∀ e ∈ es, 0 ≤ σ e.k) : Valid (es.map (mv σ s)) := fun i e he => by
  rw [List.getElem?_map] at he
  cases q : es[i]? with
  | none => rw [q] at he; cases he
  | some x =>
    rw [q] at he
    cases he
    refine ⟨h0 x (List.mem_of_getElem? q), ?_, fun j e' hj he' => ?_⟩
    · rw [← List.map_take]
      show ((es.take i).map (mv σ s)).foldl after (fun _ => false) (σ x.k) = !x.d
      rw [held_mv inj _ (fun _ => false) (fun _ => false) (fun _ => rfl)]
      exact (v i x q).2.1
    · rw [List.getElem?_map] at he'
      cases q2 : es[j]? with
      | none => rw [q2] at he'; cases he'
      | some y =>
        rw [q2] at he'
        cases he'
        have := (v i x q).2.2 j y hj q2
        show y.t + s ≤ x.t + s
        omega
theorem evV_mv (σ : Int → Int) (e : Ev) : evV (mv σ 0 e) = [.int e.t, .int (σ e.k), .str (wayS e.d)] := by
  show [V.int (e.t + 0), V.int (σ e.k), V.str (wayS e.d)] = _
  rw [Int.add_zero]
/-! ### sixteen names -/
def nmF (nm : List Int) (k : Int) : Int := if 0 ≤ k then (nm[k.toNat]?).getD k else k
structure Nms (m : Nat) (nm : List Int) : Prop where
  len : nm.length = 16
  nd : nm.Nodup
  rng : ∀ x ∈ nm, 0 ≤ x ∧ x < 16
  low : ∀ i x, i < m → nm[i]? = some x → x < (m : Int)
  hig : ∀ i, m ≤ i → i < 16 → nm[i]? = some ((i : Nat) : Int)
theorem Nms.at_ {m : Nat} {nm : List Int} (h : Nms m nm) {k : Int} (h0 : 0 ≤ k) (h1 : k < 16) : nm[k.toNat]? = some (nmF nm k) := by
  unfold nmF
  have hl := h.len
  rw [if_pos h0, List.getElem?_eq_getElem (by omega)]
  rfl
theorem Nms.ati {m : Nat} {nm : List Int} (h : Nms m nm) {k : Int} (h0 : 0 ≤ k) (h1 : k < 16) : atI (nm.map V.int) k = some (.int (nmF nm k)) := by
  have e := h.at_ h0 h1
  obtain ⟨n, rfl⟩ := Int.eq_ofNat_of_zero_le h0
  rw [Int.toNat_natCast] at e
  exact atI_nat (get_map_int e)
theorem Nms.out {m : Nat} {nm : List Int} (h : Nms m nm) {k : Int} (h1 : ¬ (0 ≤ k ∧ k < 16)) : nmF nm k = k := by
  unfold nmF
  have hl := h.len
  by_cases z : 0 ≤ k
  · rw [if_pos z, List.getElem?_eq_none (by omega)]
    rfl
  · rw [if_neg z]
theorem Nms.in_ {m : Nat} {nm : List Int} (h : Nms m nm) {k : Int} (h1 : 0 ≤ k ∧ k < 16) : 0 ≤ nmF nm k ∧ nmF nm k < 16 := h.rng _ (List.mem_of_getElem? (h.at_ h1.1 h1.2))
theorem Nms.inj {m : Nat} {nm : List Int} (h : Nms m nm) (a b : Int) (e : nmF nm a = nmF nm b) : a = b := by
  have hl := h.len
  by_cases ha : 0 ≤ a ∧ a < 16
  · by_cases hb : 0 ≤ b ∧ b < 16
    · have e1 := h.at_ ha.1 ha.2
      have e2 := h.at_ hb.1 hb.2
      obtain ⟨l1, g1⟩ := List.getElem?_eq_some_iff.mp e1
      obtain ⟨l2, g2⟩ := List.getElem?_eq_some_iff.mp e2
      have := (List.getElem_inj (h₀ := l1) (h₁ := l2) h.nd).mp (by rw [g1, g2, e])
      omega
    · have h1 := h.in_ ha
      rw [h.out hb] at e
      omega
  · by_cases hb : 0 ≤ b ∧ b < 16
    · have h1 := h.in_ hb
      rw [h.out ha] at e
      omega
    · rw [h.out ha, h.out hb] at e
      exact e
theorem Nms.low_ {m : Nat} {nm : List Int} (h : Nms m nm) (m10 : m ≤ 10) {k : Int} (h0 : 0 ≤ k) (h1 : k < (m : Int)) : 0 ≤ nmF nm k ∧ nmF nm k < (m : Int) := by
  have e := h.at_ h0 (by omega)
  exact ⟨(h.rng _ (List.mem_of_getElem? e)).1, h.low _ _ (by omega) e⟩
theorem Nms.own {m : Nat} {nm : List Int} (h : Nms m nm) (m10 : m ≤ 10) (i : Nat) (hi : i < 6) : nmF nm ((m : Int) + (i : Int)) = (m : Int) + (i : Int) := by
  have e := h.at_ (k := (m : Int) + (i : Int)) (by omega) (by omega)
  rw [show ((m : Int) + (i : Int)).toNat = m + i by omega, h.hig (m + i) (by omega) (by omega)] at e
  have := Option.some.inj e
  omega
theorem nms_mk {m : Nat} (m10 : m ≤ 10) {got : List Int} (gl : got.length = m) (nd : got.Nodup) (rg : ∀ x ∈ got, 0 ≤ x ∧ x < (m : Int)) : Nms m (got ++ seg m 16) := by
  have sl : (seg m 16).length = 16 - m := seg_len m 16
  have sm : ∀ x ∈ seg m 16, (m : Int) ≤ x ∧ x < 16 := fun x hx => by
    unfold seg at hx
    obtain ⟨i, hi, rfl⟩ := List.mem_map.mp hx
    rw [List.mem_range'_1] at hi
    omega
  refine ⟨by rw [List.length_append, gl, sl]; omega, List.nodup_append.mpr ⟨nd, ?_, fun a ha b hb e => ?_⟩, fun x hx => ?_, fun i x hi hx => ?_, fun i h1 h2 => ?_⟩
  · unfold seg
    refine List.pairwise_map.mpr ((List.nodup_range' (step := 1)).imp fun h e => h (by omega))
  · have := rg a ha
    have := sm b hb
    omega
  · rcases List.mem_append.mp hx with z | z
    · have := rg x z; omega
    · have := sm x z; omega
  · rw [List.getElem?_append_left (by omega)] at hx
    exact (rg x (List.mem_of_getElem? hx)).2
  · rw [List.getElem?_append_right (by omega), gl, seg_at (by omega), show m + (i - m) = i by omega]
theorem rgV_seg (a b : Nat) : rgV (a : Int) (b : Int) = (seg a b).map V.int := by
  refine List.ext_getElem? fun i => ?_
  unfold rgV
  rcases Nat.lt_or_ge i (b - a) with q | q
  · rw [List.getElem?_map, List.getElem?_map, seg_at q, List.getElem?_range (by omega)]
    show some (V.int ((a : Int) + (i : Nat))) = some (V.int ((a + i : Nat) : Int))
    rw [Int.natCast_add]
  · rw [List.getElem?_eq_none (by rw [List.length_map, List.length_range]; omega), List.getElem?_eq_none (by rw [List.length_map, seg_len]; omega)]
/-! ### combos with other names -/
def srt (l : List Int) : List Int := l.mergeSort fun a b => decide (a ≤ b)
theorem srt_perm (l : List Int) : (srt l).Perm l := List.mergeSort_perm l _
theorem srt_le (l : List Int) : (srt l).Pairwise (· ≤ ·) := (List.pairwise_mergeSort (le := fun a b : Int => decide (a ≤ b)) (fun a b c h1 h2 => decide_eq_true (Int.le_trans (of_decide_eq_true h1) (of_decide_eq_true h2))) (fun a b => by
  rcases Int.le_total a b with h | h
  · rw [decide_eq_true h]; rfl
  · rw [decide_eq_true h, Bool.or_true]) l).imp fun h => of_decide_eq_true h
theorem srt_eq {l l' : List Int} (h : l'.Perm l) (o : l'.Pairwise (· ≤ ·)) : l' = srt l := List.Perm.eq_of_pairwise (fun x y _ _ h1 h2 => Int.le_antisymm h1 h2) o (srt_le l) (h.trans (srt_perm l).symm)
def rnC (σ : Int → Int) (c : Cmb) : Cmb := ⟨srt (c.ks.map σ), c.t, c.c⟩
theorem rn_ok {m : Int} {σ : Int → Int} {cbs : List Cmb} (ok : CbsOk m cbs) (inj : ∀ a b, σ a = σ b → a = b) (rg : ∀ k, 0 ≤ k → k < m → 0 ≤ σ k ∧ σ k < m) : CbsOk m (cbs.map (rnC σ)) := by
  have nd : ∀ c ∈ cbs, c.ks.Nodup := fun c hc => (ok.all c hc).asc.imp fun h e => by omega
  refine ⟨fun cb h => ?_, by rw [List.length_map]; exact ok.few, ?_⟩
  · obtain ⟨c, hc, rfl⟩ := List.mem_map.mp h
    have o := ok.all c hc
    have pm := srt_perm (c.ks.map σ)
    have n1 : (srt (c.ks.map σ)).Nodup := pm.nodup_iff.mpr (List.pairwise_map.mpr ((nd c hc).imp fun h e => h (inj _ _ e)))
    refine ⟨((srt_le _).and n1).imp fun h => (by have := h.1; have := h.2; omega), ?_, fun k hk => ?_, o.time, o.code⟩
    · show (srt _).length = 2 ∨ (srt _).length = 3
      rw [pm.length_eq, List.length_map]
      exact o.len
    · obtain ⟨x, hx, rfl⟩ := List.mem_map.mp (pm.mem_iff.mp hk)
      have := o.key x hx
      exact rg x this.1 this.2
  · rw [List.map_map]
    have ap := ok.apart
    refine List.pairwise_map.mpr ((List.pairwise_map.mp ap).imp_of_mem fun {a b} ha hb h e => h ?_)
    have e : srt (a.ks.map σ) = srt (b.ks.map σ) := e
    have p1 : (a.ks.map σ).Perm (b.ks.map σ) := (srt_perm _).symm.trans (by rw [e]; exact srt_perm _)
    have p2 := perm_inj inj p1
    exact List.Perm.eq_of_pairwise (fun x y _ _ h1 h2 => Int.le_antisymm h1 h2) ((ok.all a ha).asc.imp fun h => by omega) ((ok.all b hb).asc.imp fun h => by omega) p2
theorem rn_hom {m : Int} {σ : Int → Int} {cbs : List Cmb} (ok : CbsOk m cbs) (inj : ∀ a b, σ a = σ b → a = b) (rg : ∀ k, 0 ≤ k → k < m → 0 ≤ σ k ∧ σ k < m) (own : ∀ i : Nat, i < 6 → σ (m + i) = m + i) (s : Int) : Hom m cbs (cbs.map (rnC σ)) σ s := by
  have few := ok.few
  refine ⟨List.length_map _, fun i c c' e e' => ?_, inj, fun i hi => own i (by omega), ok, rn_ok ok inj rg⟩
  rw [List.getElem?_map, e] at e'
  cases e'
  exact ⟨srt_perm _, rfl⟩
theorem id_hom {m : Int} {cbs : List Cmb} (ok : CbsOk m cbs) (s : Int) : Hom m cbs cbs id s := ⟨rfl, fun i c c' e e' => by rw [e] at e'; cases e'; rw [List.map_id]; exact ⟨List.Perm.refl _, rfl⟩, fun a b h => h, fun i _ => rfl, ok, ok⟩
theorem not_nil (ds : List Ev) : (!PyData.eqv (recD ds) (.list [])) = !ds.isEmpty := by cases ds <;> rfl
def rTupleOf (K : PySem.W.Frag) : List V → Hp → VK → Prop := fun xs H Q => ∃ p ys, xs = [.ref p] ∧ ((SqL K H p ys ∧ ∀ l, H l = none → Q (.ref l) (upd H l (.tup ys))) ∨ (SqT K H p ys ∧ Q (.ref p) H))
theorem two_SH {T : Prop} {C : Int → Hp → Prop} (A : Int → Hp → Prop) (f : (∀ s H, A s H → C s H) → T) (g : ∀ s H, A s H → C s H) : T := f g
section
variable {P : Program} {w : World} {K : PySem.W.Frag} {mg : Str → Option Value} {base : Heap}
def spMoved : Sp := fun vs H Q _ => ∃ (r cc c : Addr) (k m : Nat) (cbs : List Cmb) (es : List Ev), vs = [.ref r, .int (m : Int), .ref cc, .ref c] ∧ Reel H r k ∧ k + 100 < most ∧ 1 ≤ m ∧ m ≤ 10 ∧ Cmbs H cc cbs ∧ CbsOk m cbs ∧ Rc H c m es ∧ cc ≠ r ∧ c ≠ r ∧
  ∀ H', Off r H H' → Reel H' r (k + 10) → Q (.bl true) H'
theorem ok__law_moved_right (bt : Bt mg) (a : At K mg "_law_moved_right" s__law_moved_right ["_law_spring_here", "_law_many", "_law_combos_here", "_law_record"]) (c__law_take : Cl P w K mg base 1 "_law_take" spDraw) (c_gated : Cl P w K mg base 8 "gated" spGated) : Cl P w K mg base 9 "_law_moved_right" spMoved := by
  refine clG a sc__law_moved_right (fun vs H Q E h => ?_) (fun f cdv A outer s H vs Q hg hr h => ?_)
  · obtain ⟨r, cc, c, k, m, cbs, es, rfl, _⟩ := h
    rfl
  · obtain ⟨r, cc, c, k, m, cbs, es, rfl, R0, hk, m1, m2, hC, ok, RC, ccr, cr, q⟩ := h
    refine ⟨_, (pss_cons (ps_set (i := 4) sc__law_moved_right.nd rfl (Or.inr rfl) (pe_op op_mulW pe_int (pe_callTy call_int1 (by rfl) bt.m_int (by decide +kernel) (pa_cons (pe_and (pe_cmpR (op_neD hr.units) (pv 3) (pe_lst pa_nil) (nomark _)) (pe_one (pe_cmpR op_lt (pe_ix ix_tup (pe_ix ix_list (pv 3) pe_int (fun _ _ => rfl)) pe_int (fun _ _ => rfl)) (pe_op op_powW pe_int pe_int) (nomark _)))) pa_nil))))
      (pss_cons (ps_set (i := 5) sc__law_moved_right.nd rfl (Or.inl rfl) (pe_cl c_gated hg hr (by decide) (by rfl) (pa_cons (pv 1) (pa_cons (pv 2) (pa_cons (pv 3) pa_nil)))))
      (pss_cons (ps_setLc (i := 6) (own := [("_law_tick", 10), ("_law_key", 11), ("_law_way", 12)]) (g := (gTup K 3 (gCons (gName 10) (gCons (gName 11) (gCons (gName 12) gNil))))) (by rfl) sc__law_moved_right.nd rfl rfl (sw_true rfl rfl rfl (by decide +kernel)) (pi_list (pv 3)) (blkOk_by (N := n__law_moved_right) (sc := defScope s__law_moved_right) (by decide +kernel)) (fun _ _ _ _ _ => (pg_tup rfl (pgs_cons (pg_name (i := 10) sc__law_moved_right.nd rfl (Or.inl rfl)) (pgs_cons (pg_name (i := 11) sc__law_moved_right.nd rfl (Or.inl rfl)) (pgs_cons (pg_name (i := 12) sc__law_moved_right.nd rfl (Or.inl rfl)) pgs_nil))))) (fun _ _ _ _ _ => pts_nil) (fun _ _ _ _ _ => (pe_tup (pa_cons (pe_op op_add (pv 10) (pv 4)) (pa_cons (pv 11) (pa_cons (pv 12) pa_nil))))))
      (pss_cons (ps_if (pt_cmpR (op_neD hr.units) (pe_cl c_gated hg hr (by decide) (by rfl) (pa_cons (pv 1) (pa_cons (pv 2) (pa_cons (pv 6) pa_nil)))) (pe_lc (own := [("_law_tick", 10), ("_law_key", 11), ("_law_way", 12)]) (g := (gTup K 3 (gCons (gName 10) (gCons (gName 11) (gCons (gName 12) gNil))))) (by rfl) sc__law_moved_right.nd (pi_list (pv 5)) (blkOk_by (N := n__law_moved_right) (sc := defScope s__law_moved_right) (by decide +kernel)) (fun _ _ _ _ _ => (pg_tup rfl (pgs_cons (pg_name (i := 10) sc__law_moved_right.nd rfl (Or.inl rfl)) (pgs_cons (pg_name (i := 11) sc__law_moved_right.nd rfl (Or.inl rfl)) (pgs_cons (pg_name (i := 12) sc__law_moved_right.nd rfl (Or.inl rfl)) pgs_nil))))) (fun _ _ _ _ _ => pts_nil) (fun _ _ _ _ _ => (pe_tup (pa_cons (pe_op op_add (pv 10) (pv 4)) (pa_cons (pv 11) (pa_cons (pv 12) pa_nil)))))) (nomark _)) (pss_one (ps_ret pe_bl)) pss_nil)
      (pss_cons (ps_set (i := 7) sc__law_moved_right.nd rfl (Or.inr rfl) (pe_listRg rfl (by rfl) bt.m_list (prg_1 (by rfl) bt.m_range (pv 1))))
      (pss_cons (ps_set (i := 7) sc__law_moved_right.nd rfl (Or.inr rfl) (pe_op op_cat (pe_lc (own := [("_law_turn", 16)]) (g := (gName 16)) (by rfl) sc__law_moved_right.nd (pi_range1 (by rfl) bt.m_range (pa_cons (pv 1) pa_nil)) (blkOk_by (N := n__law_moved_right) (sc := defScope s__law_moved_right) (by decide +kernel)) (fun _ _ _ _ _ => (pg_name (i := 16) sc__law_moved_right.nd rfl (Or.inl rfl))) (fun _ _ _ _ _ => pts_nil) (fun _ _ _ _ _ => (pe_bmB (K0 := K) rfl PySem.F.plainAttrs_list PySem.F.slot_list_pop PySem.F.type_list_pop mt_popAt (pv 7) (pa_cons (pe_cl c__law_take hg hr (by decide) (by rfl) (pa_cons (pv 0) (pa_cons (pe_callB (r := rLenB K) call_len_seq (by rfl) bt.m_len (by decide +kernel) (pa_cons (pv 7) pa_nil)) pa_nil))) pa_nil)))) (pe_listRg rfl (by rfl) bt.m_list (prg_2 (by rfl) bt.m_range (pv 1) pe_int))))
      (pss_cons (ps_setLc (i := 8) (own := [("_law_keys", 13), ("_law_time", 14), ("_law_code", 15)]) (g := (gTup K 3 (gCons (gName 13) (gCons (gName 14) (gCons (gName 15) gNil))))) (by rfl) sc__law_moved_right.nd rfl rfl (sw_true rfl rfl rfl (by decide +kernel)) (pi_list (pv 2)) (blkOk_by (N := n__law_moved_right) (sc := defScope s__law_moved_right) (by decide +kernel)) (fun _ _ _ _ _ => (pg_tup rfl (pgs_cons (pg_name (i := 13) sc__law_moved_right.nd rfl (Or.inl rfl)) (pgs_cons (pg_name (i := 14) sc__law_moved_right.nd rfl (Or.inl rfl)) (pgs_cons (pg_name (i := 15) sc__law_moved_right.nd rfl (Or.inl rfl)) pgs_nil))))) (fun _ _ _ _ _ => pts_nil) (fun _ _ _ _ _ => (by exact (pe_tup (pa_cons (pe_callTy (r := rTupleOf K) call_tuple_of (by rfl) bt.m_tuple (by decide +kernel) (pa_cons (pe_callB (r := rSortedI K) cr_sortedI (by rfl) bt.m_sorted (by decide +kernel) (pa_cons (pe_lc (wi := iTup K (tVar 13)) (own := [("_law_key", 11)]) (g := (gName 11)) (by rfl) sc__law_moved_right.nd (pi_tup (pv 13)) (blkOk_by (N := n__law_moved_right) (by unfold blkC; rfl)) (fun _ _ _ _ _ => (pg_name (i := 11) sc__law_moved_right.nd rfl (Or.inl rfl))) (fun _ _ _ _ _ => pts_nil) (fun _ _ _ _ _ => (pe_ix (r := rIxL K) ix_list (pv 7) (pv 11) (fun _ _ => rfl)))) pa_nil)) pa_nil)) (pa_cons (pv 14) (pa_cons (pv 15) pa_nil)))))))
      (pss_cons (ps_set (i := 9) sc__law_moved_right.nd rfl (Or.inl rfl) (pe_cl c_gated hg hr (by decide) (by rfl) (pa_cons (pv 1) (pa_cons (pv 8) (pa_cons (pe_lc (own := [("_law_tick", 10), ("_law_key", 11), ("_law_way", 12)]) (g := (gTup K 3 (gCons (gName 10) (gCons (gName 11) (gCons (gName 12) gNil))))) (by rfl) sc__law_moved_right.nd (pi_list (pv 3)) (blkOk_by (N := n__law_moved_right) (sc := defScope s__law_moved_right) (by decide +kernel)) (fun _ _ _ _ _ => (pg_tup rfl (pgs_cons (pg_name (i := 10) sc__law_moved_right.nd rfl (Or.inl rfl)) (pgs_cons (pg_name (i := 11) sc__law_moved_right.nd rfl (Or.inl rfl)) (pgs_cons (pg_name (i := 12) sc__law_moved_right.nd rfl (Or.inl rfl)) pgs_nil))))) (fun _ _ _ _ _ => pts_nil) (fun _ _ _ _ _ => (pe_tup (pa_cons (pv 10) (pa_cons (pe_ix (r := rIxL K) ix_list (pv 7) (pv 11) (fun _ _ => rfl)) (pa_cons (pv 12) pa_nil)))))) pa_nil)))))
      (pss_one (ps_ret (pe_cmpR (op_eqD hr.units) (pv 9) (pe_lc (own := [("_law_tick", 10), ("_law_key", 11), ("_law_way", 12)]) (g := (gTup K 3 (gCons (gName 10) (gCons (gName 11) (gCons (gName 12) gNil))))) (by rfl) sc__law_moved_right.nd (pi_list (pv 5)) (blkOk_by (N := n__law_moved_right) (sc := defScope s__law_moved_right) (by decide +kernel)) (fun _ _ _ _ _ => (pg_tup rfl (pgs_cons (pg_name (i := 10) sc__law_moved_right.nd rfl (Or.inl rfl)) (pgs_cons (pg_name (i := 11) sc__law_moved_right.nd rfl (Or.inl rfl)) (pgs_cons (pg_name (i := 12) sc__law_moved_right.nd rfl (Or.inl rfl)) pgs_nil))))) (fun _ _ _ _ _ => pts_nil) (fun _ _ _ _ _ => (pe_tup (pa_cons (pv 10) (pa_cons (pe_ix (r := rIxL K) ix_list (pv 7) (pv 11) (fun _ _ => rfl)) (pa_cons (pv 12) pa_nil)))))) (nomark _)))))))))))), ?_⟩
    rw [show L2.start n__law_moved_right [V.ref r, V.int (m : Int), V.ref cc, V.ref c] = [some (V.ref r), some (V.int (m : Int)), some (V.ref cc), some (V.ref c), none, none, none, none, none, none, none, none, none, none, none, none, none] from rfl]
    have hk' : k + 100 < 1000000000 := hk
    have len := RC.len
    -- the shift
    apply two_SH (fun s H' => Same H H')
    · intro X
      refine ⟨_, rfl, Nat.zero_le _, fun E1 nE1 => ?_⟩
      have kE := same_upd (o := .lst []) nE1
      have hE := upd_same (H := H) (a := E1) (o := .lst [])
      generalize upd H E1 (.lst []) = H1 at kE hE ⊢
      have RC1 := RC.same kE
      refine ⟨recD es, .list [], RC1.ls.dp, .lst (SqL.of hE) .nil, shaped_rec _, shaped_nil, ?_⟩
      have hb : ∀ b : Bool, (if b = true then (1 : Int) else 0).natAbs < 2 ^ 40 := fun b => by cases b <;> decide
      by_cases hne : es = []
      · refine ⟨false, congrArg V.bl (by rw [not_nil, hne]; rfl), iteF (.inr ⟨false, rfl, _, _, rfl, rfl, wide_mul (a := 40) (b := 40) (by decide) (hb _) (by decide) (by decide) (by decide), ?_⟩)⟩
        dsimp only
        generalize (7 : Int) * (if false = true then (1 : Int) else 0) = sv
        exact X sv H1 kE
      · obtain ⟨as, hca, hT⟩ := id RC1.ls
        obtain ⟨b0, hb0, hb0t⟩ := hT.at_ (List.length_pos_iff.mpr hne)
        refine ⟨true, congrArg V.bl (by rw [not_nil]; cases es <;> first | rfl | exact absurd rfl hne), iteT ⟨_, rfl, c, _, 0, .ref b0, rfl, rfl, SqL.of hca, atI_nat (j := 0) (get_map_ref hb0), b0, _, 0, _, rfl, rfl, SqT.of hb0t, atI_nat (j := 0) rfl, _, _, rfl, rfl, powW (n := 40) (k := 14) (by decide) (by decide), _, _, rfl, rfl, .inr ⟨_, rfl, _, _, rfl, rfl, wide_mul (a := 40) (b := 40) (by decide) (hb _) (by decide) (by decide) (by decide), ?_⟩⟩⟩
        exact X _ H1 kE
    intro sh H1 s1
    refine ⟨_, rfl, _, rfl, _, rfl, cc, c, cbs, m, es, rfl, by omega, by omega, hC.same s1, ok, RC.same s1, fun H2 F outs s2 nF gt hF => ?_⟩
    have s02 := s1.trans s2
    have RC2 := RC.same s02
    obtain ⟨as, hca, hT⟩ := id RC2.ls
    have hal := hT.1
    have keyr : ∀ e ∈ es, 0 ≤ e.k ∧ e.k < (m : Int) := fun e he => by
      obtain ⟨i, hi⟩ := List.getElem?_of_mem he
      exact ⟨(RC.valid i e hi).1, RC.key e he⟩
    have E1 : Env (m : Int) cbs es (10 ^ 9) := ⟨ok, by omega, RC.valid, RC.key, by decide, fun c hc => (ok.all c hc).time.2⟩
    obtain ⟨_, _, _, _, vo, _, ob⟩ := gtd_good E1 gt
    have obd : ∀ o ∈ outs, 0 ≤ o.k ∧ o.k < 16 := fun o ho => by
      obtain ⟨i, hi⟩ := List.getElem?_of_mem ho
      have := ob o ho
      exact ⟨(vo i o hi).1, by omega⟩
    have gl : outs.length ≤ es.length := by
      obtain ⟨o1, o2, ds, sn, sn2, ga, gb, rfl⟩ := id gt
      have h1 := ga.len
      have h2 := gb.len
      rw [List.length_append]
      simp only [List.length_nil] at *
      omega
    clear E1 ob
    rw [show List.set [some (V.ref r), some (V.int (m : Int)), some (V.ref cc), some (V.ref c), none, none, none, none, none, none, none, none, none, none, none, none, none] 4 (some (V.int sh)) = [some (V.ref r), some (V.int (m : Int)), some (V.ref cc), some (V.ref c), some (V.int sh), none, none, none, none, none, none, none, none, none, none, none, none] from rfl]
    -- later
    refine ⟨_, rfl, c, rfl, ⟨_, SqL.of hca⟩, fun L nL => lc_it (walk_list (xs := as.map V.ref)) (fun i H' => Same H2 H' ∧ Lst evV H' L ((es.take i).map (mv id sh))) ⟨same_upd nL, [], upd_same, Tups.nil⟩ (fun i H' _ p => SqL.of (p.1 _ _ hca)) (fun i v Hx Hy hi p y => ?_) (fun H3 p => ?_)⟩
    · obtain ⟨sx, bs, hL, hB⟩ := p
      obtain ⟨rfl, e3⟩ := y
      have hi' : i < es.length := by rw [List.length_map] at hi; omega
      obtain ⟨b, hb, hbt⟩ := hT.at_ hi'
      have e3' : v = .ref b := Option.some.inj (e3.symm.trans (get_map_ref hb))
      subst e3'
      have bl := hB.1
      rw [List.length_map, List.length_take] at bl
      refine ⟨b, _, rfl, SqT.of (sx _ _ hbt), rfl, _, _, rfl, _, _, rfl, _, _, rfl, rfl, rfl, _, rfl, _, rfl, _, _, rfl, rfl, _, rfl, _, rfl, (by show 3 ≤ sizeLine; decide), fun T nT => ?_⟩
      have kT := same_upd (o := .tup (evV (mv id sh es[i]))) nT
      refine ⟨_, kT _ _ hL, small1000 (by rw [List.length_map]; omega), Same.off (sx.trans kT) nL off_upd, ?_⟩
      rw [take_map hi']
      exact lst_snoc (kT _ _ hL) (hB.same kT) upd_same
    obtain ⟨s3, hLs⟩ := p
    rw [List.length_map, hal, List.take_length] at hLs
    have s03 := s02.trans s3
    have RCl : Rc H3 L m (es.map (mv id sh)) := ⟨hLs, valid_mv (fun a b h => h) RC.valid (fun e he => (keyr e he).1), by rw [List.length_map]; exact len, fun e he => by
      obtain ⟨x, hx, rfl⟩ := List.mem_map.mp he
      exact (keyr x hx).2⟩
    refine ⟨_, rfl, _, rfl, _, rfl, cc, L, cbs, m, _, rfl, by omega, by omega, hC.same s03, ok, RCl, fun H4 F2 outs2 s4 nF2 gt2 hF2 => ?_⟩
    have e2 := gt2.uniq (gt.mv (id_hom ok sh))
    subst e2
    have s04 := s03.trans s4
    obtain ⟨fs, hf, hTf⟩ := id ((hF.same s3).same s4)
    have hfl := hTf.1
    refine ⟨_, rfl, F, rfl, ⟨_, SqL.of hf⟩, fun G nG => lc_it (walk_list (xs := fs.map V.ref)) (fun i H' => Same H4 H' ∧ Lst evV H' G ((outs.take i).map (mv id sh))) ⟨same_upd nG, [], upd_same, Tups.nil⟩ (fun i H' _ p => SqL.of (p.1 _ _ hf)) (fun i v Hx Hy hi p y => ?_) (fun H5 p => ?_)⟩
    · obtain ⟨sx, bs, hL, hB⟩ := p
      obtain ⟨rfl, e3⟩ := y
      have hi' : i < outs.length := by rw [List.length_map] at hi; omega
      obtain ⟨b, hb, hbt⟩ := hTf.at_ hi'
      have e3' : v = .ref b := Option.some.inj (e3.symm.trans (get_map_ref hb))
      subst e3'
      have bl := hB.1
      rw [List.length_map, List.length_take] at bl
      refine ⟨b, _, rfl, SqT.of (sx _ _ hbt), rfl, _, _, rfl, _, _, rfl, _, _, rfl, rfl, rfl, _, rfl, _, rfl, _, _, rfl, rfl, _, rfl, _, rfl, (by show 3 ≤ sizeLine; decide), fun T nT => ?_⟩
      have kT := same_upd (o := .tup (evV (mv id sh outs[i]))) nT
      refine ⟨_, kT _ _ hL, small1000 (by rw [List.length_map]; omega), Same.off (sx.trans kT) nG off_upd, ?_⟩
      rw [take_map hi']
      exact lst_snoc (kT _ _ hL) (hB.same kT) upd_same
    obtain ⟨s5, hGs⟩ := p
    rw [List.length_map, hfl, List.take_length] at hGs
    refine ⟨_, _, (hF2.same s5).dp, hGs.dp, shaped_rec _, shaped_rec _, ?_⟩
    rw [not_rec]
    refine ⟨false, rfl, iteF ?_⟩
    have s05 := s04.trans s5
    clear hGs hF2 gt2 RCl hLs
    -- the names
    refine ⟨_, rfl, _, rfl, ⟨by omega, by omega, by omega, by omega, by omega⟩, fun Sm nSm => ?_⟩
    rw [rgV_nI]
    rw [show List.set (List.set [some (V.ref r), some (V.int (m : Int)), some (V.ref cc), some (V.ref c), some (V.int sh), none, none, none, none, none, none, none, none, none, none, none, none] 5 (some (V.ref F))) 6 (some (V.ref L)) = [some (V.ref r), some (V.int (m : Int)), some (V.ref cc), some (V.ref c), some (V.int sh), some (V.ref F), some (V.ref L), none, none, none, none, none, none, none, none, none, none] from rfl]
    have kS := same_upd (o := .lst ((nI m).map V.int)) nSm
    have hS := upd_same (H := H5) (a := Sm) (o := .lst ((nI m).map V.int))
    have R5 := R0.same s05
    have Smr : Sm ≠ r := R5.new nSm
    have R6 := R5.same kS
    have s06 := s05.trans kS
    have nSmH : H Sm = none := same_al s05 _ nSm
    have hF6 : Lst evV _ F outs := ((((hF.same s3).same s4).same s5).same kS)
    have FSm : F ≠ Sm := by
      obtain ⟨zs, hz, _⟩ := ((hF.same s3).same s4).same s5
      exact ne_of_none hz nSm
    generalize upd H5 Sm (.lst ((nI m).map V.int)) = H6 at hS R6 s06 hF6 ⊢
    clear kS
    have Fr : F ≠ r := by
      obtain ⟨_, _, _, hr0, _⟩ := id R0
      exact (ne_of_none (s1 _ _ hr0) nF).symm
    refine ⟨_, rfl, _, rfl, by omega, by omega, ?_⟩
    rw [Int.toNat_natCast]
    refine fun Pp nPp => lc_it walk_range (fun j H' => Off2 r Sm H6 H' ∧ Reel H' r (k + j) ∧ ∃ rem got : List Int, H' Sm = some (.lst (rem.map V.int)) ∧ H' Pp = some (.lst (got.map V.int)) ∧ rem.Nodup ∧ got.Nodup ∧ got.length = j ∧ rem.length + j = m ∧ (∀ x ∈ rem, 0 ≤ x ∧ x < (m : Int)) ∧ (∀ x ∈ got, (0 ≤ x ∧ x < (m : Int)) ∧ ¬ x ∈ rem))
      ⟨fun b o h _ _ => same_upd nPp _ _ h, R6.same (same_upd nPp), nI m, [], (same_upd nPp) _ _ hS, upd_same, nI_nd m, List.nodup_nil, rfl, nI_len m, fun x hx => by have := nI_mem.mp hx; omega, fun x h => by simp at h⟩ (fun _ _ _ _ => True.intro) (fun j x H7 H8 hj p y => ?_) (fun H7 p => ?_)
    · obtain ⟨o7, R7, rem, got, hS7, hP7, nd1, nd2, hgl, hrl, hr1, hg1⟩ := p
      obtain ⟨rfl, rfl⟩ := y
      have PpS : Pp ≠ Sm := (ne_of_none hS nPp).symm
      have Ppr : Pp ≠ r := R6.new nPp
      refine ⟨rfl, _, rfl, .inl ⟨rfl, _, SqL.of hS7⟩, ?_⟩
      refine ⟨_, rfl, _, rfl, Sm, _, rfl, .inl (SqL.of hS7), r, _, k + j, rfl, by rw [List.length_map]; omega, by rw [List.length_map]; omega, by show _ < 1000000000; omega, R7, fun e H9 e0 e1 R9 o9 => ?_⟩
      rw [List.length_map] at e1
      have hS9 := o9 _ _ hS7 Smr
      have hP9 := o9 _ _ hP7 Ppr
      obtain ⟨ej, rfl⟩ := Int.eq_ofNat_of_zero_le e0
      have hej : ej < rem.length := by omega
      have hix := seqIndex_of (k := (ej : Int)) (n := (rem.map V.int).length) (by omega) (by rw [List.length_map]; omega)
      rw [Int.toNat_natCast] at hix
      have gx : rem[ej]? = some rem[ej] := List.getElem?_eq_getElem hej
      refine ⟨Sm, _, _, ej, .int rem[ej], rfl, rfl, hS9, by omega, by omega, hix, get_map_int gx, ?_⟩
      rw [eraseMap]
      have hP10 : upd H9 Sm (.lst ((rem.eraseIdx ej).map V.int)) Pp = some (.lst (got.map V.int)) := by rw [upd_ne PpS]; exact hP9
      refine ⟨_, hP10, by rw [List.length_map]; exact small1000 (by omega), ((o7.off o9).at_).new nPp, (R9.upd Smr).upd Ppr, rem.eraseIdx ej, got ++ [rem[ej]], by rw [upd_ne PpS.symm, upd_same], by rw [upd_same, List.map_append]; rfl, nd1.eraseIdx ej, nd_snoc nd2 (fun h => (hg1 _ h).2 (List.getElem_mem hej)), by rw [List.length_append, hgl]; rfl, by rw [List.length_eraseIdx, if_pos hej]; omega, fun x hx => hr1 x (List.mem_of_mem_eraseIdx hx), fun x hx => ?_⟩
      rcases List.mem_append.mp hx with h | h
      · exact ⟨(hg1 x h).1, fun z => (hg1 x h).2 (List.mem_of_mem_eraseIdx z)⟩
      · rw [List.mem_singleton.mp h]
        exact ⟨hr1 _ (List.getElem_mem hej), fun z => ((mem_eraseIdx nd1 gx _).mp z).1 rfl⟩
    obtain ⟨o7, R7, rem, got, hS7, hP7, nd1, nd2, hgl, hrl, hr1, hg1⟩ := p
    have N0 := nms_mk m2 hgl nd2 fun x hx => (hg1 x hx).1
    refine ⟨_, rfl, _, _, rfl, rfl, ⟨by omega, by omega, by omega, by omega⟩, fun W nW => ?_⟩
    rw [show rgV (m : Int) 16 = (seg m 16).map V.int from rgV_seg m 16]
    rw [show List.set [some (V.ref r), some (V.int (m : Int)), some (V.ref cc), some (V.ref c), some (V.int sh), some (V.ref F), some (V.ref L), none, none, none, none, none, none, none, none, none, none] 7 (some (V.ref Sm)) = [some (V.ref r), some (V.int (m : Int)), some (V.ref cc), some (V.ref c), some (V.int sh), some (V.ref F), some (V.ref L), some (V.ref Sm), none, none, none, none, none, none, none, none, none] from rfl]
    have hgl2 : (got ++ seg m 16).length = 16 := N0.len
    have kW := same_upd (o := .lst ((seg m 16).map V.int)) nW
    have hW := upd_same (H := H7) (a := W) (o := .lst ((seg m 16).map V.int))
    refine ⟨Pp, W, _, _, rfl, rfl, kW _ _ hP7, hW, by rw [sizeLine_eq, List.length_map, List.length_map, ← List.length_append, hgl2]; omega, fun NL nNL => ?_⟩
    have kN := same_upd (o := .lst (got.map V.int ++ (seg m 16).map V.int)) nNL
    have hNL : upd (upd H7 W (.lst ((seg m 16).map V.int))) NL (.lst (got.map V.int ++ (seg m 16).map V.int)) NL = some (.lst ((got ++ seg m 16).map V.int)) := by rw [upd_same, List.map_append]
    have o9 : Off2 r Sm H6 (upd (upd H7 W (.lst ((seg m 16).map V.int))) NL (.lst (got.map V.int ++ (seg m 16).map V.int))) := fun b o hb n1 n2 => (kW.trans kN) _ _ (o7 _ _ hb n1 n2)
    have R9 := (R7.same kW).same kN
    generalize upd (upd H7 W (.lst ((seg m 16).map V.int))) NL (.lst (got.map V.int ++ (seg m 16).map V.int)) = H9 at hNL o9 R9 ⊢
    generalize got ++ seg m 16 = nm at N0 hNL
    clear o7 hP7 hS7 hg1 hr1 hrl nd1 nd2 hgl hgl2 kW hW kN R7 nW nNL
    have tk9 : Tk H6 H9 := fun b xs hb => by
      obtain ⟨_, _, _, hr6, _⟩ := id R6
      exact o9 _ _ hb (ne_of hb hr6 (by intro z; cases z)) (ne_of hb hS (by intro z; cases z))
    have notS : ∀ {b : Addr} {o : HO}, H b = some o → b ≠ Sm := fun hb => ne_of_none hb nSmH
    have hC9 : Cmbs H9 cc cbs := (hC.same s06).go tk9 (fun vs h => o9 _ _ h ccr (by obtain ⟨vs0, h0, _⟩ := hC; exact notS h0))
    have lst9 : ∀ {O : Addr} {xs : List Ev}, Lst evV H6 O xs → O ≠ r → O ≠ Sm → Lst evV H9 O xs := fun {O xs} h n1 n2 => by
      obtain ⟨gs, h1, h2⟩ := h
      exact ⟨gs, o9 _ _ h1 n1 n2, h2.1, fun i a e u2 v2 => tk9 _ _ (h2.2 i a e u2 v2)⟩
    have hca9 : Lst evV H9 c es := lst9 (RC.ls.same s06) cr (by obtain ⟨gs, h1, _⟩ := RC.ls; exact notS h1)
    have hF9 : Lst evV H9 F outs := lst9 hF6 Fr FSm
    have off9 : Off r H H9 := fun b o hb n => o9 _ _ (s06 _ _ hb) n (notS hb)
    have inj := N0.inj
    have rg : ∀ k, 0 ≤ k → k < (m : Int) → 0 ≤ nmF nm k ∧ nmF nm k < (m : Int) := fun k a b => N0.low_ m2 a b
    -- the combos
    obtain ⟨cs, hcs, hcl, hcv⟩ := id hC9
    have few := ok.few
    refine ⟨_, rfl, cc, rfl, ⟨_, SqL.of hcs⟩, fun Mn nMn => lc_it (walk_list (xs := cs)) (fun i H' => Same H9 H' ∧ Cmbs H' Mn ((cbs.take i).map (rnC (nmF nm)))) ⟨same_upd nMn, ⟨[], upd_same, rfl, fun i v cb e => by cases e⟩⟩ (fun i H' _ p => SqL.of (p.1 _ _ hcs)) (fun i x Hx Hy hi p y => ?_) (fun H10 p => ?_)⟩
    · obtain ⟨sx, hM⟩ := p
      obtain ⟨rfl, hx⟩ := y
      have hi' : i < cbs.length := by omega
      obtain ⟨ad, kk, hv, ha, hkk⟩ := Cmbs.at_ ⟨hcl, hcv⟩ hi'
      have ex : x = .ref ad := Option.some.inj (hx.symm.trans hv)
      subst ex
      have ocb := ok.all _ (List.getElem_mem hi')
      obtain ⟨vs, hv0, hv1, hv2⟩ := hM
      rw [List.length_map, List.length_take] at hv1
      refine ⟨ad, _, rfl, SqT.of (sx _ _ ha), rfl, _, _, rfl, _, _, rfl, _, _, rfl, rfl, rfl, ?_⟩
      have kkv := sx _ _ hkk
      refine ⟨_, rfl, kk, rfl, ⟨_, SqT.of kkv⟩, fun M nM => lc_it (walk_tup (xs := cbs[i].ks.map V.int)) (fun t H' => Same Hy H' ∧ H' M = some (.lst (((cbs[i].ks.take t).map (nmF nm)).map V.int))) ⟨same_upd nM, upd_same⟩ (fun t H' _ p => SqT.of (p.1 _ _ kkv)) (fun t u Hz Hu ht p y => ?_) (fun H11 p => ?_)⟩
      · obtain ⟨sz, hMz⟩ := p
        obtain ⟨rfl, e3⟩ := y
        have ht' : t < cbs[i].ks.length := by rw [List.length_map] at ht; exact ht
        have eu : u = .int cbs[i].ks[t] := Option.some.inj (e3.symm.trans (at_int ht'))
        subst eu
        have kb := ocb.key _ (List.getElem_mem ht')
        have hnm := N0.ati kb.1 (Int.lt_of_lt_of_le kb.2 (by omega))
        have l3 := ocb.len
        refine ⟨rfl, _, rfl, _, rfl, NL, _, _, .int (nmF nm cbs[i].ks[t]), rfl, rfl, SqL.of (sz _ _ (sx _ _ hNL)), hnm, _, hMz, ?_, Same.off sz nM off_upd, ?_⟩
        · rw [List.length_map, List.length_map, List.length_take]; exact small1000 (by omega)
        · rw [upd_same, take_map ht', List.map_append]; rfl
      obtain ⟨sz, hMz⟩ := p
      rw [List.length_map, List.take_length] at hMz
      refine ⟨M, _, rfl, SqL.of hMz, fun ns' pk hpk hok npk => ?_⟩
      have kP := same_upd (o := .lst (ns'.map V.int)) npk
      refine ⟨pk, _, rfl, .inl ⟨SqL.of upd_same, fun kt nkt => ?_⟩⟩
      have kQ := same_upd (o := .tup (ns'.map V.int)) nkt
      have hkt := upd_same (H := upd H11 pk (.lst (ns'.map V.int))) (a := kt) (o := .tup (ns'.map V.int))
      have sQ := ((sz.trans kP).trans kQ)
      generalize upd (upd H11 pk (.lst (ns'.map V.int))) kt (.tup (ns'.map V.int)) = H12 at hkt sQ ⊢
      obtain rfl := srt_eq hpk hok
      refine ⟨_, rfl, _, rfl, (by show 3 ≤ sizeLine; decide), fun T nT => ?_⟩
      have kT := same_upd (o := .tup [.ref kt, .int cbs[i].t, .str cbs[i].c]) nT
      have st := sQ.trans kT
      refine ⟨_, st _ _ hv0, small1000 (by omega), Same.off (sx.trans st) nMn off_upd, ?_⟩
      rw [take_map hi']
      have hl1 : vs.length = ((cbs.take i).map (rnC (nmF nm))).length := by rw [List.length_map, List.length_take]; exact hv1
      exact cmbs_push (st _ _ hv0) hl1 (fun i v cb e1 e2 => (hv2 i v cb e1 e2).tk (Tk.of st)) ⟨T, kt, rfl, upd_same, kT _ _ hkt⟩
    obtain ⟨s10, hMn⟩ := p
    rw [hcl, List.take_length] at hMn
    rw [show List.set [some (V.ref r), some (V.int (m : Int)), some (V.ref cc), some (V.ref c), some (V.int sh), some (V.ref F), some (V.ref L), some (V.ref Sm), none, none, none, none, none, none, none, none, none] 7 (some (V.ref NL)) = [some (V.ref r), some (V.int (m : Int)), some (V.ref cc), some (V.ref c), some (V.int sh), some (V.ref F), some (V.ref L), some (V.ref NL), none, none, none, none, none, none, none, none, none] from rfl]
    -- the record
    obtain ⟨bs, hb10, hB10⟩ := id (hca9.same s10)
    have hbl := hB10.1
    refine ⟨_, rfl, _, rfl, _, rfl, c, rfl, ⟨_, SqL.of hb10⟩, fun L3 nL3 => lc_it (walk_list (xs := bs.map V.ref)) (fun i H' => Same H10 H' ∧ Lst evV H' L3 ((es.take i).map (mv (nmF nm) 0))) ⟨same_upd nL3, [], upd_same, Tups.nil⟩ (fun i H' _ p => SqL.of (p.1 _ _ hb10)) (fun i v Hx Hy hi p y => ?_) (fun H11 p => ?_)⟩
    · obtain ⟨sx, ls, hL, hB⟩ := p
      obtain ⟨rfl, e3⟩ := y
      have hi' : i < es.length := by rw [List.length_map] at hi; omega
      obtain ⟨b, hb, hbt⟩ := hB10.at_ hi'
      have e3' : v = .ref b := Option.some.inj (e3.symm.trans (get_map_ref hb))
      subst e3'
      have bl := hB.1
      rw [List.length_map, List.length_take] at bl
      have kb := keyr _ (List.getElem_mem hi')
      have hnm := N0.ati kb.1 (Int.lt_of_lt_of_le kb.2 (by omega))
      refine ⟨b, _, rfl, SqT.of (sx _ _ hbt), rfl, _, _, rfl, _, _, rfl, _, _, rfl, rfl, rfl, _, rfl, _, rfl, _, rfl, NL, _, _, .int (nmF nm es[i].k), rfl, rfl, SqL.of (sx _ _ (s10 _ _ hNL)), hnm, _, rfl, (by show 3 ≤ sizeLine; decide), fun T nT => ?_⟩
      have kT := same_upd (o := .tup [.int es[i].t, .int (nmF nm es[i].k), .str (wayS es[i].d)]) nT
      have hTT : upd Hy T (.tup [.int es[i].t, .int (nmF nm es[i].k), .str (wayS es[i].d)]) T = some (.tup (evV (mv (nmF nm) 0 es[i]))) := by rw [upd_same, evV_mv]
      refine ⟨_, kT _ _ hL, small1000 (by rw [List.length_map]; omega), Same.off (sx.trans kT) nL3 off_upd, ?_⟩
      rw [take_map hi']
      exact lst_snoc (kT _ _ hL) (hB.same kT) hTT
    obtain ⟨s11, hL3⟩ := p
    rw [List.length_map, hbl, List.take_length] at hL3
    have RCn : Rc H11 L3 m (es.map (mv (nmF nm) 0)) := ⟨hL3, valid_mv inj RC.valid (fun e he => (rg _ (keyr e he).1 (keyr e he).2).1), by rw [List.length_map]; exact len, fun e he => by
      obtain ⟨x, hx, rfl⟩ := List.mem_map.mp he
      exact (rg _ (keyr x hx).1 (keyr x hx).2).2⟩
    refine ⟨Mn, L3, cbs.map (rnC (nmF nm)), m, _, rfl, by omega, by omega, hMn.same s11, rn_ok ok inj rg, RCn, fun H12 F3 outs3 s12 nF3 gt3 hF3 => ?_⟩
    have e3 := gt3.uniq (gt.mv (rn_hom ok inj rg (fun i hi => N0.own m2 i hi) 0))
    subst e3
    have s912 := (s10.trans s11).trans s12
    obtain ⟨fs2, hf2, hTf2⟩ := id (hF9.same s912)
    have hfl2 := hTf2.1
    refine ⟨_, rfl, _, rfl, F, rfl, ⟨_, SqL.of hf2⟩, fun G nG => lc_it (walk_list (xs := fs2.map V.ref)) (fun i H' => Same H12 H' ∧ Lst evV H' G ((outs.take i).map (mv (nmF nm) 0))) ⟨same_upd nG, [], upd_same, Tups.nil⟩ (fun i H' _ p => SqL.of (p.1 _ _ hf2)) (fun i v Hx Hy hi p y => ?_) (fun H13 p => ?_)⟩
    · obtain ⟨sx, ls, hL, hB⟩ := p
      obtain ⟨rfl, e3⟩ := y
      have hi' : i < outs.length := by rw [List.length_map] at hi; omega
      obtain ⟨b, hb, hbt⟩ := hTf2.at_ hi'
      have e3' : v = .ref b := Option.some.inj (e3.symm.trans (get_map_ref hb))
      subst e3'
      have bl := hB.1
      rw [List.length_map, List.length_take] at bl
      have kb := obd _ (List.getElem_mem hi')
      have hnm := N0.ati kb.1 kb.2
      refine ⟨b, _, rfl, SqT.of (sx _ _ hbt), rfl, _, _, rfl, _, _, rfl, _, _, rfl, rfl, rfl, _, rfl, _, rfl, _, rfl, NL, _, _, .int (nmF nm outs[i].k), rfl, rfl, SqL.of (sx _ _ (s912 _ _ hNL)), hnm, _, rfl, (by show 3 ≤ sizeLine; decide), fun T nT => ?_⟩
      have kT := same_upd (o := .tup [.int outs[i].t, .int (nmF nm outs[i].k), .str (wayS outs[i].d)]) nT
      have hTT : upd Hy T (.tup [.int outs[i].t, .int (nmF nm outs[i].k), .str (wayS outs[i].d)]) T = some (.tup (evV (mv (nmF nm) 0 outs[i]))) := by rw [upd_same, evV_mv]
      refine ⟨_, kT _ _ hL, small1000 (by rw [List.length_map]; omega), Same.off (sx.trans kT) nG off_upd, ?_⟩
      rw [take_map hi']
      exact lst_snoc (kT _ _ hL) (hB.same kT) hTT
    obtain ⟨s13, hG⟩ := p
    rw [List.length_map, hfl2, List.take_length] at hG
    refine ⟨_, _, (hF3.same s13).dp, hG.dp, shaped_rec _, shaped_rec _, ?_⟩
    rw [not_rec]
    have s913 := s912.trans s13
    exact q _ (off9.sameTrans s913) ((R9.same s913).mono (by omega))
end
end K28

set_option Elab.async false
set_option linter.all false
set_option maxRecDepth 100000
set_option maxHeartbeats 16000000
namespace K28
open PySem PySem.Spec PyProof.Rows L2 Gd Rm La Cb Pl
/-! ### lists of lists as data -/
def lisD (ns : List Int) : PyData := .list (ns.map PyData.int)
def rowsD (r : List (List Int)) : PyData := .list (r.map lisD)
theorem rows_dp {K : PySem.W.Frag} {H : Hp} {p : Addr} {r : List (List Int)} {as : List Addr} (hp : H p = some (.lst (as.map V.ref))) (hl : as.length = r.length) (el : ∀ (i : Nat) (a : Addr) (ns : List Int), as[i]? = some a → r[i]? = some ns → H a = some (.lst (ns.map V.int))) : Dp K H (.ref p) (rowsD r) := by
  refine .lst (SqL.of hp) (dpAll_idx (R := fun ns v => ∃ a, v = .ref a ∧ H a = some (.lst (ns.map V.int))) (fun ns v hv => ?_) _ r (by rw [List.length_map, hl]) fun i v ns x y => ?_)
  · obtain ⟨a, rfl, ha⟩ := hv
    exact .lst (SqL.of ha) (dpInts _)
  · rw [List.getElem?_map] at x
    cases hx : as[i]? with
    | none => rw [hx] at x; cases x
    | some a =>
      rw [hx] at x
      exact ⟨a, (Option.some.inj x).symm, el i a ns hx y⟩
theorem lay_rows : ∀ r : List (List Int), PyData.canLayAll0 (r.map lisD) = true ∧ PyData.depthAll (r.map lisD) ≤ 1
  | [] => ⟨rfl, by decide⟩
  | ks :: kss => by
    obtain ⟨a, b⟩ := lay_rows kss
    obtain ⟨x, y⟩ := lay_ints ks
    refine ⟨?_, ?_⟩
    · show (PyData.canLayAll0 (ks.map PyData.int) && PyData.canLayAll0 (kss.map lisD)) = true
      rw [x, a]; rfl
    · show max (PyData.depthAll (ks.map PyData.int) + 1) (PyData.depthAll (kss.map lisD)) ≤ 1
      omega
theorem shaped_rows (r : List (List Int)) : SeqAt.shaped (rowsD r) = true := by
  obtain ⟨a, b⟩ := lay_rows r
  unfold SeqAt.shaped
  rw [Bool.and_eq_true]
  exact ⟨a, decide_eq_true (by show PyData.depthAll _ + 1 ≤ _; omega)⟩
/-! ### a wide record -/
def wdE (i : Nat) (e : Ev) : Ev := ⟨(i : Int) * 10 ^ Int.toNat 9, e.k, e.d⟩
def wdL (es : List Ev) (n : Nat) : List Ev := (List.range n).map fun i => wdE i (es.getD i ⟨0, 0, true⟩)
theorem wd_snoc {es : List Ev} {i : Nat} (h : i < es.length) : wdL es (i + 1) = wdL es i ++ [wdE i es[i]] := by
  unfold wdL
  rw [List.range_succ, List.map_append, List.map_cons, List.map_nil, List.getD_eq_getElem?_getD, List.getElem?_eq_getElem h]
  rfl
theorem wd_len (es : List Ev) (n : Nat) : (wdL es n).length = n := by unfold wdL; rw [List.length_map, List.length_range]
theorem wd_at {es : List Ev} {n i : Nat} {e : Ev} (h : (wdL es n)[i]? = some e) : i < n ∧ e = wdE i (es.getD i ⟨0, 0, true⟩) := by
  have hl := (List.getElem?_eq_some_iff.mp h).1
  rw [wd_len] at hl
  unfold wdL at h
  rw [List.getElem?_map, List.getElem?_range hl] at h
  exact ⟨hl, (Option.some.inj h).symm⟩
theorem wd_kd (es : List Ev) : ∀ n, n ≤ es.length → (wdL es n).map kd = (es.take n).map kd
  | 0, _ => rfl
  | n + 1, h => by
    rw [wd_snoc h, take_map h, List.map_append, wd_kd es n (by omega)]
    rfl
theorem held_kd : ∀ (xs ys : List Ev) (h : Int → Bool), xs.map kd = ys.map kd → xs.foldl after h = ys.foldl after h
  | [], [], _, _ => rfl
  | [], _ :: _, _, e => by cases e
  | _ :: _, [], _, e => by cases e
  | x :: xs, y :: ys, h, e => by
    rw [List.map_cons, List.map_cons] at e
    injection e with e1 e2
    have k1 : x.k = y.k := congrArg Prod.fst e1
    have d1 : x.d = y.d := congrArg Prod.snd e1
    have : after h x = after h y := by
      funext k
      show (if k = x.k then x.d else h k) = if k = y.k then y.d else h k
      rw [k1, d1]
    show xs.foldl after (after h x) = ys.foldl after (after h y)
    rw [this]
    exact held_kd xs ys _ e2
theorem wd_valid {es : List Ev} (v : Valid es) : Valid (wdL es es.length) := fun i e he => by
  obtain ⟨hi, ee⟩ := wd_at he
  have hg : es[i]? = some es[i] := List.getElem?_eq_getElem hi
  have e1 : es.getD i ⟨0, 0, true⟩ = es[i] := by rw [List.getD_eq_getElem?_getD, hg]; rfl
  rw [e1] at ee
  subst ee
  obtain ⟨h1, h2, _⟩ := v i es[i] hg
  refine ⟨h1, ?_, fun j e' hj he' => ?_⟩
  · have et : (wdL es es.length).take i = wdL es i := by
      unfold wdL
      rw [← List.map_take, List.take_range, Nat.min_eq_left (by omega)]
    rw [et]
    show (wdL es i).foldl after (fun _ => false) es[i].k = !es[i].d
    rw [held_kd _ (es.take i) _ (wd_kd es i (by omega))]
    exact h2
  · obtain ⟨_, e2⟩ := wd_at he'
    rw [e2]
    show (j : Int) * 10 ^ Int.toNat 9 ≤ (i : Int) * 10 ^ Int.toNat 9
    have : (10 : Int) ^ Int.toNat 9 = 1000000000 := rfl
    rw [this]
    omega
theorem wd_far {es : List Ev} (j : Nat) (a b : Ev) (ha : (wdL es es.length)[j]? = some a) (hb : (wdL es es.length)[j + 1]? = some b) : a.t + 10 ^ 9 ≤ b.t := by
  obtain ⟨_, e1⟩ := wd_at ha
  obtain ⟨_, e2⟩ := wd_at hb
  rw [e1, e2]
  show (j : Int) * 10 ^ Int.toNat 9 + 10 ^ 9 ≤ ((j + 1 : Nat) : Int) * 10 ^ Int.toNat 9
  have : (10 : Int) ^ Int.toNat 9 = 1000000000 := rfl
  rw [this]
  omega
theorem ord_kd {xs ys : List Ev} (h : xs.map kd = ys.map kd) : ordD xs = ordD ys := by
  have e : ∀ zs : List Ev, zs.map stD = (zs.map kd).map fun p => PyData.tuple [.int p.1, .str (wayS p.2)] := fun zs => by rw [List.map_map]; rfl
  show PyData.list (xs.map stD) = .list (ys.map stD)
  rw [e, e, h]
theorem lst_push {f : Ev → List V} {H : Hp} {O T : Addr} {outs : List Ev} {e : Ev} {as : List Addr} (h : H O = some (.lst (as.map V.ref))) (t : Tups H f as outs) (hT : H T = some (.tup (f e))) : Lst f (upd H O (.lst (as.map V.ref ++ [.ref T]))) O (outs ++ [e]) := by
  refine ⟨as ++ [T], by rw [upd_same, List.map_append]; rfl, ?_⟩
  have t1 := t.snoc (a := T) (e := e) hT
  exact ⟨t1.1, fun i a e u v => tk_upd h _ _ (t1.2 i a e u v)⟩
section
variable {P : Program} {w : World} {K : PySem.W.Frag} {mg : Str → Option Value} {base : Heap}
def spLaw (K : PySem.W.Frag) : Sp := fun vs H Q _ => ∃ (a : Addr) (ns : List Int), vs = [.ref a] ∧ SqL K H a (ns.map V.int) ∧ ns.length ≤ 63 ∧ ∀ H', Q (.bl true) H'
theorem ok_law {f : Addr} {fd : FuncData} (bt : Bt mg) (a : Fun K "law" "law" s_law f fd) (c__law_spring : Cl P w K mg base 1 "_law_spring" (spPool K)) (c__law_take : Cl P w K mg base 1 "_law_take" spDraw) (c__law_combos : Cl P w K mg base 2 "_law_combos" spLCombos)
    (c__law_presses : Cl P w K mg base 3 "_law_presses" spPresses) (c__law_left_right : Cl P w K mg base 9 "_law_left_right" spLeft) (c__law_moved_right : Cl P w K mg base 9 "_law_moved_right" spMoved) (c_gated : Cl P w K mg base 8 "gated" spGated) (c_pieces : Cl P w K mg base 8 "pieces" spPieces) : FnG P w K mg base 10 f fd ["_law_script"] (spLaw K) := by
  refine fnG a sc_law (fun vs H Q E h => ?_) (fun cdv A outer s H vs Q hg hr h => ?_)
  · obtain ⟨a, e, rfl, _⟩ := h
    rfl
  · obtain ⟨sc, ns, rfl, hS, hl, q⟩ := h
    refine ⟨_, (pss_cons (ps_for PassesOwn.never rfl (pi_range1 (by rfl) bt.m_range (pa_cons (pe_callB (call_max2 rfl) (by rfl) bt.m_max (by decide +kernel) (pa_cons pe_int (pa_cons (pe_callB (call_min2 rfl) (by rfl) bt.m_min (by decide +kernel) (pa_cons pe_int (pa_cons (pe_callB call_len_seq (by rfl) bt.m_len (by decide +kernel) (pa_cons (pv 0) pa_nil)) pa_nil))) pa_nil))) pa_nil)) (pg_name (i := 1) sc_law.nd rfl (Or.inl rfl)) (pss_cons (ps_set (i := 2) sc_law.nd rfl (Or.inl rfl) (pe_cl c__law_spring hg hr (by decide) (by rfl) (pa_cons (pv 0) (pa_cons (pv 1) pa_nil))))
      (pss_cons (ps_set (i := 3) sc_law.nd rfl (Or.inl rfl) (pe_op op_add pe_int (pe_cl c__law_take hg hr (by decide) (by rfl) (pa_cons (pv 2) (pa_cons pe_int pa_nil)))))
      (pss_cons (ps_set (i := 4) sc_law.nd rfl (Or.inl rfl) (pe_cl c__law_combos hg hr (by decide) (by rfl) (pa_cons (pv 2) (pa_cons (pv 3) (pa_cons (pe_op op_powW pe_int pe_int) pa_nil)))))
      (pss_cons (ps_set (i := 5) sc_law.nd rfl (Or.inl rfl) (pe_cl c__law_presses hg hr (by decide) (by rfl) (pa_cons (pv 2) (pa_cons (pv 3) (pa_cons (pe_cl c__law_take hg hr (by decide) (by rfl) (pa_cons (pv 2) (pa_cons pe_int pa_nil))) (pa_cons (pe_op op_cat (pe_lst (pa_cons pe_int pa_nil)) (pe_lc (own := [("_law_combo", 15)]) (g := (gName 15)) (by rfl) sc_law.nd (pi_list (pv 4)) (blkOk_by (N := n_law) (sc := defScope s_law) (by decide +kernel)) (fun _ _ _ _ _ => (pg_name (i := 15) sc_law.nd rfl (Or.inl rfl))) (fun _ _ _ _ _ => pts_nil) (fun _ _ _ _ _ => (pe_ix (r := rIxT K) ix_tup (pv 15) pe_int (fun _ _ => rfl))))) pa_nil))))))
      (pss_cons (ps_if (PW.pt (pw_or (pt_not (pt_val (pe_cl c__law_left_right hg hr (by decide) (by rfl) (pa_cons (pv 3) (pa_cons (pv 4) (pa_cons (pv 5) pa_nil)))))) (pw_or1 (pt_not (pt_val (pe_cl c__law_moved_right hg hr (by decide) (by rfl) (pa_cons (pv 2) (pa_cons (pv 3) (pa_cons (pv 4) (pa_cons (pv 5) pa_nil)))))))))) (pss_one (ps_ret pe_bl)) pss_nil)
      (pss_cons (ps_setLc (i := 6) (own := [("_law_spot", 10), ("_law_event", 11)]) (g := (gTup K 2 (gCons (gName 10) (gCons (gName 11) gNil)))) (by rfl) sc_law.nd rfl rfl (sw_true rfl rfl rfl (by decide +kernel)) (pi_enum (by rfl) bt.m_enumerate (pa_cons (pv 5) pa_nil)) (blkOk_by (N := n_law) (sc := defScope s_law) (by decide +kernel)) (fun _ _ _ _ _ => (pg_tup rfl (pgs_cons (pg_name (i := 10) sc_law.nd rfl (Or.inl rfl)) (pgs_cons (pg_name (i := 11) sc_law.nd rfl (Or.inl rfl)) pgs_nil)))) (fun _ _ _ _ _ => (pts_one (pt_cmpR op_eq (pe_ix (r := rIxT K) ix_tup (pv 11) pe_int (fun _ _ => rfl)) pe_str (nomark _)))) (fun _ _ _ _ _ => (pv 10)))
      (pss_cons (ps_set (i := 7) sc_law.nd rfl (Or.inl rfl) (pe_ix ix_list (pe_op op_cat (pv 6) (pe_lst (pa_cons (pe_callB call_len_seq (by rfl) bt.m_len (by decide +kernel) (pa_cons (pv 5) pa_nil)) pa_nil))) (pe_cl c__law_take hg hr (by decide) (by rfl) (pa_cons (pv 2) (pa_cons (pe_op op_add (pe_callB call_len_seq (by rfl) bt.m_len (by decide +kernel) (pa_cons (pv 6) pa_nil)) pe_int) pa_nil))) (fun _ _ => rfl)))
      (pss_cons (ps_set (i := 8) sc_law.nd rfl (Or.inl rfl) (pe_cl c_pieces hg hr (by decide) (by rfl) (pa_cons (pv 3) (pa_cons (pv 4) (pa_cons (pe_slice sl_list (pv 5) po_none (po_some (pv 7))) pa_nil)))))
      (pss_cons (ps_if (pt_cmpR (op_neD hr.units) (pe_slice sl_list (pe_cl c_pieces hg hr (by decide) (by rfl) (pa_cons (pv 3) (pa_cons (pv 4) (pa_cons (pv 5) pa_nil)))) po_none (po_some (pe_callB call_len_seq (by rfl) bt.m_len (by decide +kernel) (pa_cons (pv 8) pa_nil)))) (pv 8) (nomark _)) (pss_one (ps_ret pe_bl)) pss_nil)
      (pss_cons (ps_setLc (i := 9) (own := [("_law_spot", 10), ("_law_tick", 12), ("_law_key", 13), ("_law_way", 14)]) (g := (gTup K 2 (gCons (gName 10) (gCons (gTup K 3 (gCons (gName 12) (gCons (gName 13) (gCons (gName 14) gNil)))) gNil)))) (by rfl) sc_law.nd rfl rfl (sw_true rfl rfl rfl (by decide +kernel)) (pi_enum (by rfl) bt.m_enumerate (pa_cons (pv 5) pa_nil)) (blkOk_by (N := n_law) (sc := defScope s_law) (by decide +kernel)) (fun _ _ _ _ _ => (pg_tup rfl (pgs_cons (pg_name (i := 10) sc_law.nd rfl (Or.inl rfl)) (pgs_cons (pg_tup rfl (pgs_cons (pg_name (i := 12) sc_law.nd rfl (Or.inl rfl)) (pgs_cons (pg_name (i := 13) sc_law.nd rfl (Or.inl rfl)) (pgs_cons (pg_name (i := 14) sc_law.nd rfl (Or.inl rfl)) pgs_nil)))) pgs_nil)))) (fun _ _ _ _ _ => pts_nil) (fun _ _ _ _ _ => (pe_tup (pa_cons (pe_op op_mulW (pv 10) (pe_op op_powW pe_int pe_int)) (pa_cons (pv 13) (pa_cons (pv 14) pa_nil))))))
      (pss_one (ps_if (pt_cmpR (op_neD hr.units) (pe_lc (own := [("_law_event", 11)]) (g := (gName 11)) (by rfl) sc_law.nd (pi_list (pe_cl c_gated hg hr (by decide) (by rfl) (pa_cons (pv 3) (pa_cons (pv 4) (pa_cons (pv 9) pa_nil))))) (blkOk_by (N := n_law) (sc := defScope s_law) (by decide +kernel)) (fun _ _ _ _ _ => (pg_name (i := 11) sc_law.nd rfl (Or.inl rfl))) (fun _ _ _ _ _ => pts_nil) (fun _ _ _ _ _ => (pe_slice (r := rSlT K) sl_tup (pv 11) (po_some pe_int) po_none))) (pe_lc (own := [("_law_event", 11)]) (g := (gName 11)) (by rfl) sc_law.nd (pi_list (pv 5)) (blkOk_by (N := n_law) (sc := defScope s_law) (by decide +kernel)) (fun _ _ _ _ _ => (pg_name (i := 11) sc_law.nd rfl (Or.inl rfl))) (fun _ _ _ _ _ => pts_nil) (fun _ _ _ _ _ => (pe_slice (r := rSlT K) sl_tup (pv 11) (po_some pe_int) po_none))) (nomark _)) (pss_one (ps_ret pe_bl)) pss_nil)))))))))))))
      (pss_one (ps_ret pe_bl))), ?_⟩
    refine ⟨_, rfl, sc, _, rfl, .inl hS, _, _, rfl, ?_⟩
    refine ⟨1, _, rfl, _, rfl, ?_, ?_, ?_⟩
    · (repeat' split) <;> omega
    · (repeat' split) <;> omega
    refine for_it walk_range (fun i σ H' => Same H H' ∧ ∃ y1 y2 y3 y4 y5 y6 y7 y8 y9 y10 y11 y12 y13 y14 y15, σ = [some (.ref sc), y1, y2, y3, y4, y5, y6, y7, y8, y9, y10, y11, y12, y13, y14, y15]) ⟨Same.refl _, _, _, _, _, _, _, _, _, _, _, _, _, _, _, _, rfl⟩ (fun _ _ _ _ _ => True.intro) (fun i x σ Hx H1 hi p y => ?_) (fun σ H1 p => ?_)
    · obtain ⟨s1, y1, y2, y3, y4, y5, y6, y7, y8, y9, y10, y11, y12, y13, y14, y15, rfl⟩ := p
      obtain ⟨rfl, hx⟩ := y
      have hx : x = .int (0 + (i : Int)) := hx
      have e0 : (0 : Int) + (i : Int) = ((i : Nat) : Int) := Int.zero_add _
      rw [e0] at hx
      subst hx
      have hi4 : i < 60 := by
        refine Nat.lt_of_lt_of_le hi ?_
        (repeat' split) <;> omega
      have hS1 : SqL K H1 sc (ns.map V.int) := s1.seq hS
      refine ⟨_, rfl, _, rfl, sc, ns, i, rfl, hS1, hl, hi4, fun r H2 s2 nr R2 => ?_⟩
      refine ⟨_, rfl, r, 10, 0, rfl, by decide, by decide, by decide, R2, fun d1 H3 d10 d11 R3 o3 => ⟨_, _, rfl, rfl, ?_⟩⟩
      obtain ⟨k, rfl⟩ := Int.eq_ofNat_of_zero_le d10
      refine ⟨_, rfl, _, rfl, _, _, rfl, rfl, powW (n := 40) (k := 9) (by decide) (by decide), r, 1, 1 + k, _, rfl, R3, by decide, by omega, by omega, by decide, by decide, fun H4 p cbs o4 np R4 hC4 ok => ?_⟩
      have pr : p ≠ r := R3.new np
      have o24 := o3.trans o4
      have few := ok.few
      have big : (10 : Int) ^ 40 > 1000 := by decide
      -- the record
      refine ⟨_, rfl, _, rfl, _, rfl, r, 61, 101, rfl, by decide, by decide, by decide, R4, fun d2 H5 d20 d21 R5 o5 => ?_⟩
      obtain ⟨size, rfl⟩ := Int.eq_ofNat_of_zero_le d20
      have hC5 : Cmbs H5 p cbs := hC4.go (R4.tk o5) (fun vs h => o5 _ _ h pr)
      have o25 := o24.trans o5
      obtain ⟨vs, hp, hCv⟩ := id hC5
      have hvl := hCv.1
      refine ⟨(by show 1 ≤ sizeLine; decide), fun L1 nL1 => ?_⟩
      have k1 := same_upd (o := .lst [.int 1]) nL1
      have hL1 := upd_same (H := H5) (a := L1) (o := .lst [.int 1])
      refine ⟨_, rfl, p, rfl, ⟨_, SqL.of (k1 _ _ hp)⟩, fun M nM => lc_it (walk_list (xs := vs)) (fun t H' => Same (upd H5 L1 (.lst [.int 1])) H' ∧ H' M = some (.lst (((cbs.take t).map Cmb.t).map V.int))) ⟨same_upd nM, upd_same⟩ (fun t H' _ z => SqL.of (z.1 _ _ (k1 _ _ hp))) (fun t x H6 H7 ht z y => ?_) (fun H6 z => ?_)⟩
      · obtain ⟨rfl, e2⟩ := y
        obtain ⟨z1, z2⟩ := z
        have ht' : t < cbs.length := by omega
        obtain ⟨ad, kk, hv, ha, hk⟩ := Cmbs.at_ hCv ht'
        have e2' : x = .ref ad := Option.some.inj (e2.symm.trans hv)
        subst e2'
        refine ⟨rfl, _, rfl, ad, _, _, _, rfl, rfl, SqT.of (z1 _ _ (k1 _ _ ha)), atI_nat (j := 1) rfl, _, z2, ?_, Same.off z1 nM off_upd, ?_⟩
        · rw [List.length_map, List.length_map, List.length_take]; exact small1000 (by omega)
        · rw [upd_same, List.take_add_one, List.getElem?_eq_getElem ht', List.map_append, List.map_append]; rfl
      obtain ⟨z1, z2⟩ := z
      rw [hvl, List.take_length] at z2
      refine ⟨L1, M, _, _, rfl, rfl, z1 _ _ hL1, z2, by rw [List.length_map, List.length_map]; show 1 + cbs.length ≤ sizeLine; exact Nat.le_of_lt (small1000 (by omega)), fun U nU => ?_⟩
      have s6 := (k1.trans z1).trans (same_upd (o := .lst ([.int 1] ++ (cbs.map Cmb.t).map V.int)) nU)
      have R6 := R5.same s6
      have hU : upd H6 U (.lst ([.int 1] ++ (cbs.map Cmb.t).map V.int)) U = some (.lst (((1 : Int) :: cbs.map Cmb.t).map V.int)) := upd_same
      have Ur : U ≠ r := (R5.same (k1.trans z1)).new nU
      refine ⟨r, U, 102, 1 + k, size, 1 :: cbs.map Cmb.t, rfl, R6, by decide, by omega, by omega, by omega, hU, Ur, Nat.succ_pos _, by rw [List.length_cons, List.length_map]; omega, fun t ht => ?_, fun H7 c es o7 nc R7 hL rc => ?_⟩
      · rcases List.mem_cons.mp ht with rfl | ht
        · decide
        · obtain ⟨cb, hc, rfl⟩ := List.mem_map.mp ht
          exact (ok.all cb hc).time
      have hC7 := (hC5.same s6).go (R6.tk o7) (fun vs h => o7 _ _ h pr)
      have cr : c ≠ r := R6.new nc
      have cp : c ≠ p := (ne_of_none (s6 _ _ hp) nc).symm
      have o27 := (o25.sameTrans s6).trans o7
      have RC7 : Rc H7 c ((1 + k : Nat) : Int) es := ⟨hL, rc.valid, by rw [rc.len]; omega, fun e he => (rc.key e he).2⟩
      clear hL1 k1 z1 z2 hU s6 R6 R5 R4 R3 o3 o4 o5 o24 o25 hC4 hC5 o7 hCv hp hvl
      refine ⟨_, rfl, _, rfl, _, rfl, p, c, cbs, ((1 + k : Nat) : Int), es, rfl, by omega, by omega, hC7, ok, RC7, fun H8 s8 => ⟨_, rfl, iteF ?_⟩⟩
      refine ⟨_, rfl, _, rfl, _, rfl, _, rfl, r, p, c, 4102, 1 + k, cbs, es, rfl, R7.same s8, by decide, by omega, by omega, hC7.same s8, ok, RC7.same s8, pr, cr, fun H9 o9 R9 => ⟨_, rfl, iteF ?_⟩⟩
      have hC9 : Cmbs H9 p cbs := (hC7.same s8).go ((R7.same s8).tk o9) (fun vs h => o9 _ _ h pr)
      have RC9 : Rc H9 c ((1 + k : Nat) : Int) es := { RC7 with ls := (R7.same s8).lst (hL.same s8) cr o9 }
      have o29 := (o27.sameTrans s8).trans o9
      rw [show List.set (List.set (List.set (List.set (List.set [some (V.ref sc), y1, y2, y3, y4, y5, y6, y7, y8, y9, y10, y11, y12, y13, y14, y15] 1 (some (V.int (i : Int)))) 2 (some (V.ref r))) 3 (some ((fun i j => V.int (i + j)) 1 (k : Int)))) 4 (some (V.ref p))) 5 (some (V.ref c)) = [some (V.ref sc), some (V.int (i : Int)), some (V.ref r), some (V.int ((1 + k : Nat) : Int)), some (V.ref p), some (V.ref c), y6, y7, y8, y9, y10, y11, y12, y13, y14, y15] from rfl]
      have len : es.length ≤ 60 := by rw [rc.len]; omega
      obtain ⟨cs, hca, hTc⟩ := id RC9.ls
      have hcl := hTc.1
      -- ups
      refine ⟨_, rfl, c, _, rfl, SqL.of hca, fun M nM => lc_it (walk_enum (xs := cs.map V.ref)) (fun j H' => Same H9 H' ∧ ∃ us : List Nat, H' M = some (.lst ((us.map fun u : Nat => (u : Int)).map V.int)) ∧ us.length ≤ j ∧ ∀ u ∈ us, ∃ e, es[u]? = some e ∧ e.d = false) ⟨same_upd nM, [], upd_same, Nat.le_refl _, fun u h => by cases h⟩ (fun j H' _ p => SqL.of (p.1 _ _ hca)) (fun j v Hx Hy hj p y => ?_) (fun H10 p => ?_)⟩
      · obtain ⟨sx, us, hM, hul, hup⟩ := p
        obtain ⟨T, u, v, rfl, nT, rfl, e1, e3⟩ := y
        have hj' : j < es.length := by rw [List.length_map] at hj; omega
        obtain ⟨b, hb, hbt⟩ := hTc.at_ hj'
        have e1' : u = .int (j : Nat) := (Option.some.inj e1).symm
        subst e1'
        have e2' : v = .ref b := Option.some.inj ((show (cs.map V.ref)[j]? = some v from e3).symm.trans (get_map_ref hb))
        subst e2'
        have sT := same_upd (o := .tup [.int (j : Nat), .ref b]) nT
        have sx2 := sx.trans sT
        have hM2 := sT _ _ hM
        have hw : decide (V.str (wayS es[j].d) = V.str "up") = !es[j].d := by cases es[j].d <;> decide +kernel
        refine ⟨T, _, rfl, SqT.of upd_same, rfl, _, _, rfl, _, _, rfl, rfl, rfl, _, rfl, b, _, 2, _, rfl, rfl, SqT.of (sx2 _ _ hbt), atI_nat (j := 2) rfl, rfl, _, rfl, ?_⟩
        rw [hw]
        refine ite2 (fun z => ?_) (fun z => ?_)
        · refine ⟨_, rfl, _, hM2, small1000 (by rw [List.length_map, List.length_map]; omega), Same.off sx2 nM off_upd, us ++ [j], ?_, by rw [List.length_append]; exact Nat.succ_le_succ hul, fun u hu => ?_⟩
          · rw [upd_same, List.map_append, List.map_append]; rfl
          · rcases List.mem_append.mp hu with y | y
            · exact hup u y
            · rw [List.mem_singleton.mp y]
              exact ⟨es[j], List.getElem?_eq_getElem hj', by simpa using z⟩
        · exact ⟨sx2, us, hM2, by omega, hup⟩
      obtain ⟨s10, us, hM, hul, hup⟩ := p
      rw [List.length_map, hcl] at hul
      -- the cut
      have hca10 := s10 _ _ hca
      refine ⟨_, rfl, _, rfl, c, _, rfl, .inl (SqL.of hca10), (by show 1 ≤ sizeLine; decide), fun p1 np1 => ?_⟩
      have kp1 := same_upd (o := .lst [.int ((cs.map V.ref).length : Nat)]) np1
      have hp1 := upd_same (H := H10) (a := p1) (o := .lst [.int ((cs.map V.ref).length : Nat)])
      refine ⟨M, p1, _, _, rfl, rfl, kp1 _ _ hM, hp1, by rw [sizeLine_eq, List.length_map, List.length_map]; show _ + 1 ≤ _; omega, fun U2 nU2 => ?_⟩
      have kU2 := same_upd (o := .lst ((us.map fun u : Nat => (u : Int)).map V.int ++ [.int ((cs.map V.ref).length : Nat)])) nU2
      have hU2 : upd (upd H10 p1 (.lst [.int ((cs.map V.ref).length : Nat)])) U2 (.lst ((us.map fun u : Nat => (u : Int)).map V.int ++ [.int ((cs.map V.ref).length : Nat)])) U2 = some (.lst (((us ++ [es.length]).map fun u : Nat => (u : Int)).map V.int)) := by
        rw [upd_same, List.map_append, List.map_append, List.length_map, hcl]
        rfl
      have k1011 := kp1.trans kU2
      generalize upd (upd H10 p1 (.lst [.int ((cs.map V.ref).length : Nat)])) U2 (.lst ((us.map fun u : Nat => (u : Int)).map V.int ++ [.int ((cs.map V.ref).length : Nat)])) = H11 at hU2 k1011 ⊢
      have s11 := s10.trans k1011
      have R11 := R9.same s11
      have U2r : U2 ≠ r := by
        obtain ⟨_, _, _, hr9, _⟩ := id R9
        exact (ne_of_none (kp1 _ _ (s10 _ _ hr9)) nU2).symm
      have hM11 := k1011 _ _ hM
      refine ⟨_, rfl, _, rfl, M, _, rfl, .inl (SqL.of hM11), _, _, rfl, rfl, r, _, 4112, rfl, by omega, by rw [List.length_map, List.length_map]; omega, by decide, R11, fun d3 H12 d30 d31 R12 o12 => ?_⟩
      rw [List.length_map, List.length_map] at d31
      have hU12 := o12 _ _ hU2 U2r
      have hug : ∃ cv : Nat, atI (((us ++ [es.length]).map fun u : Nat => (u : Int)).map V.int) d3 = some (.int (cv : Int)) ∧ cv ≤ es.length ∧ Stops es cv := by
        obtain ⟨d, rfl⟩ := Int.eq_ofNat_of_zero_le d30
        have hd : d < (us ++ [es.length]).length := by rw [List.length_append, List.length_singleton]; omega
        refine ⟨(us ++ [es.length])[d], atI_nat (get_map_int ?_), ?_⟩
        · rw [List.getElem?_map, List.getElem?_eq_getElem hd]
          rfl
        · rcases List.mem_append.mp (List.getElem_mem hd) with y | y
          · obtain ⟨e, he, hed⟩ := hup _ y
            have := (List.getElem?_eq_some_iff.mp he).1
            exact ⟨by omega, .inr ⟨e, he, hed⟩⟩
          · have y := List.mem_singleton.mp y
            rw [y]
            exact ⟨Nat.le_refl _, .inl rfl⟩
      obtain ⟨cv, hcv, cvl, cvs⟩ := hug
      refine ⟨U2, _, d3, _, rfl, rfl, SqL.of hU12, hcv, ?_⟩
      have hC12 : Cmbs H12 p cbs := (hC9.same s11).go (R11.tk o12) (fun vs h => o12 _ _ h pr)
      have RC12 : Rc H12 c ((1 + k : Nat) : Int) es := { RC9 with ls := R11.lst (RC9.ls.same s11) cr o12 }
      have o212 := (o29.sameTrans s11).trans o12
      clear hU12 hM11 R11 U2r k1011 hU2 kU2 kp1 hp1 hca10 hM hul hup s10 hC9 RC9 o29 hca hTc hcl s11 R9 o12
      obtain ⟨cs, hca, hTc⟩ := id RC12.ls
      have hcl := hTc.1
      refine ⟨_, rfl, _, rfl, _, rfl, _, rfl, _, rfl, c, _, rfl, SqL.of hca, fun S nS => ?_⟩
      rw [cutTake, ← List.map_take]
      have kS := same_upd (o := .lst ((cs.take cv).map V.ref)) nS
      have RCS : Rc (upd H12 S (.lst ((cs.take cv).map V.ref))) S ((1 + k : Nat) : Int) (es.take cv) := ⟨⟨_, upd_same, (hTc.same kS).take cv⟩, rc.valid.take cv, by rw [List.length_take]; omega, fun e he => RC12.key e (List.mem_of_mem_take he)⟩
      generalize upd H12 S (.lst ((cs.take cv).map V.ref)) = H13 at kS RCS ⊢
      refine ⟨p, S, cbs, ((1 + k : Nat) : Int), _, rfl, by omega, by omega, hC12.same kS, ok, RCS, fun H14 P1 q1 as1 s14 nP1 ll1 du1 rl1 => ?_⟩
      have t14 := kS.trans s14
      refine ⟨_, rfl, _, rfl, _, rfl, p, c, cbs, ((1 + k : Nat) : Int), es, rfl, by omega, by omega, hC12.same t14, ok, RC12.same t14, fun H15 P2 q2 as2 s15 nP2 ll2 du2 rl2 => ?_⟩
      obtain ⟨r2, e2⟩ := due_cut cvl cvs du1 (Nat.zero_le _) du2
      have ll1' := ll1.same s15
      have al1 := ll1.len
      have al2 := ll2.len
      refine ⟨_, rfl, P1, _, rfl, .inl (SqL.of ll1'.ls), _, rfl, P2, _, rfl, SqL.of ll2.ls, fun S2 nS2 => ?_⟩
      rw [List.length_map, cutTake, ← List.map_take]
      have kS2 := same_upd (o := .lst ((as2.take as1.length).map V.ref)) nS2
      have hS2 := upd_same (H := H15) (a := S2) (o := .lst ((as2.take as1.length).map V.ref))
      generalize upd H15 S2 (.lst ((as2.take as1.length).map V.ref)) = H16 at kS2 hS2 ⊢
      have l12 : q1.length ≤ q2.length := by rw [e2, List.length_append]; omega
      have et : q2.take as1.length = q1 := by rw [al1, e2, List.take_left]
      have dp2 : ∀ {K' : PySem.W.Frag}, Dp K' H16 (.ref S2) (rowsD (q2.take as1.length)) := rows_dp hS2 (by rw [List.length_take, List.length_take]; omega) fun i a ns x y => by
        have il := (List.getElem?_eq_some_iff.mp x).1
        rw [List.length_take] at il
        rw [List.getElem?_take_of_lt (by omega)] at x y
        exact kS2 _ _ (ll2.el i a ns x y)
      have dp1 : ∀ {K' : PySem.W.Frag}, Dp K' H16 (.ref P1) (rowsD q1) := rows_dp (kS2 _ _ ll1'.ls) al1 fun i a ns x y => kS2 _ _ (ll1'.el i a ns x y)
      rw [et] at dp2
      refine ⟨_, rfl, rowsD q1, rowsD q1, dp2, dp1, shaped_rows _, shaped_rows _, false, congrArg V.bl (by rw [SeqAt.eqv_refl (rowsD q1) (lay_rows q1).1]; rfl), iteF ?_⟩
      have s1216 := (t14.trans s15).trans kS2
      have RC16 := RC12.same s1216
      have hC16 := hC12.same s1216
      have o216 := o212.sameTrans s1216
      clear dp1 dp2 hS2 kS2 ll1' ll1 ll2 du1 du2 RCS kS s14 s15 t14 hca hTc hcl
      rw [show List.set (List.set (List.set [some (V.ref sc), some (V.int (i : Int)), some (V.ref r), some (V.int ((1 + k : Nat) : Int)), some (V.ref p), some (V.ref c), y6, y7, y8, y9, y10, y11, y12, y13, y14, y15] 6 (some (V.ref M))) 7 (some (V.int (cv : Int)))) 8 (some (V.ref P1)) = [some (V.ref sc), some (V.int (i : Int)), some (V.ref r), some (V.int ((1 + k : Nat) : Int)), some (V.ref p), some (V.ref c), some (V.ref M), some (V.int (cv : Int)), some (V.ref P1), y9, y10, y11, y12, y13, y14, y15] from rfl]
      obtain ⟨cs, hca, hTc⟩ := id RC16.ls
      have hcl := hTc.1
      -- the wide record
      refine ⟨_, rfl, c, _, rfl, SqL.of hca, fun W nW => lc_it (walk_enum (xs := cs.map V.ref)) (fun j H' => Same H16 H' ∧ Lst evV H' W (wdL es j)) ⟨same_upd nW, [], upd_same, Tups.nil⟩ (fun j H' _ p => SqL.of (p.1 _ _ hca)) (fun j v Hx Hy hj p y => ?_) (fun H17 p => ?_)⟩
      · obtain ⟨sx, ws, hW, hB⟩ := p
        obtain ⟨T, u, v, rfl, nT, rfl, e1, e3⟩ := y
        have hj' : j < es.length := by rw [List.length_map] at hj; omega
        obtain ⟨b, hb, hbt⟩ := hTc.at_ hj'
        have e1' : u = .int (j : Nat) := (Option.some.inj e1).symm
        subst e1'
        have e2' : v = .ref b := Option.some.inj ((show (cs.map V.ref)[j]? = some v from e3).symm.trans (get_map_ref hb))
        subst e2'
        have sT := same_upd (o := .tup [.int (j : Nat), .ref b]) nT
        have sx2 := sx.trans sT
        have hW2 := sT _ _ hW
        have bl := hB.1
        rw [wd_len] at bl
        refine ⟨T, _, rfl, SqT.of upd_same, rfl, _, _, rfl, _, _, rfl, b, _, rfl, SqT.of (sx2 _ _ hbt), rfl, _, _, rfl, _, _, rfl, _, _, rfl, rfl, rfl, rfl, ?_⟩
        refine ⟨_, rfl, _, _, rfl, rfl, powW (n := 40) (k := 9) (by decide) (by decide), _, _, rfl, rfl, wide_mul (a := 40) (b := 40) (by omega) (by decide) (by decide) (by decide) (by decide), _, rfl, _, rfl, (by show 3 ≤ sizeLine; decide), fun T2 nT2 => ?_⟩
        have kT2 := same_upd (o := .tup (evV (wdE j es[j]))) nT2
        refine ⟨_, kT2 _ _ hW2, small1000 (by rw [List.length_map]; omega), Same.off (sx2.trans kT2) nW off_upd, ?_⟩
        rw [wd_snoc hj']
        exact lst_push (kT2 _ _ hW2) ((hB.same sT).same kT2) upd_same
      obtain ⟨s17, hW⟩ := p
      rw [List.length_map, hcl] at hW
      have wl := wd_len es es.length
      have wk := wd_kd es es.length (Nat.le_refl _)
      rw [List.take_length] at wk
      have RCw : Rc H17 W ((1 + k : Nat) : Int) (wdL es es.length) := ⟨hW, wd_valid rc.valid, by omega, fun e he => by
        obtain ⟨j, hj⟩ := List.getElem?_of_mem he
        obtain ⟨hj2, e2⟩ := wd_at hj
        rw [e2]
        show (es.getD j _).k < _
        rw [List.getD_eq_getElem?_getD, List.getElem?_eq_getElem hj2]
        exact RC16.key _ (List.getElem_mem _)⟩
      refine ⟨_, rfl, _, rfl, _, rfl, p, W, cbs, ((1 + k : Nat) : Int), _, rfl, by omega, by omega, hC16.same s17, ok, RCw, fun H18 F outs s18 nF gt hF => ?_⟩
      have ek := gtd_wide ok (wd_valid rc.valid) wd_far gt
      rw [wk] at ek
      have ol : outs.length = es.length := by have := congrArg List.length ek; rw [List.length_map, List.length_map] at this; exact this
      obtain ⟨fs, hf, hTf⟩ := id hF
      have hfl := hTf.1
      refine ⟨F, rfl, ⟨_, SqL.of hf⟩, fun G nG => lc_it (walk_list (xs := fs.map V.ref)) (fun j H' => Same H18 H' ∧ Lst stV H' G (outs.take j)) ⟨same_upd nG, [], upd_same, Tups.nil⟩ (fun j H' _ p => SqL.of (p.1 _ _ hf)) (fun j v Hx Hy hj p y => ?_) (fun H19 p => ?_)⟩
      · obtain ⟨sx, gs, hG, hB⟩ := p
        obtain ⟨rfl, e3⟩ := y
        have hj' : j < outs.length := by rw [List.length_map] at hj; omega
        obtain ⟨b, hb, hbt⟩ := hTf.at_ hj'
        have e3' : v = .ref b := Option.some.inj (e3.symm.trans (get_map_ref hb))
        subst e3'
        have bl := hB.1
        rw [List.length_take] at bl
        refine ⟨rfl, ⟨_, rfl, 1, rfl, b, _, rfl, SqT.of (sx _ _ hbt), (fun z => absurd z.1 (show ¬ HT.sIx 3 0 (some 1) = 0 by decide)), fun p' np => ?_⟩⟩
        have kT := same_upd (o := .tup (stV outs[j])) np
        refine ⟨_, kT _ _ hG, small1000 (by rw [List.length_map]; omega), Same.off (sx.trans kT) nG off_upd, ?_⟩
        rw [List.take_add_one, List.getElem?_eq_getElem hj']
        exact lst_push (kT _ _ hG) (hB.same kT) upd_same
      obtain ⟨s19, hG⟩ := p
      rw [List.length_map, hfl, List.take_length] at hG
      have s1619 := (s17.trans s18).trans s19
      have hca19 := s1619 _ _ hca
      refine ⟨_, rfl, c, rfl, ⟨_, SqL.of hca19⟩, fun G2 nG2 => lc_it (walk_list (xs := cs.map V.ref)) (fun j H' => Same H19 H' ∧ Lst stV H' G2 (es.take j)) ⟨same_upd nG2, [], upd_same, Tups.nil⟩ (fun j H' _ p => SqL.of (p.1 _ _ hca19)) (fun j v Hx Hy hj p y => ?_) (fun H20 p => ?_)⟩
      · obtain ⟨sx, gs, hG3, hB⟩ := p
        obtain ⟨rfl, e3⟩ := y
        have hj' : j < es.length := by rw [List.length_map] at hj; omega
        obtain ⟨b, hb, hbt⟩ := hTc.at_ hj'
        have e3' : v = .ref b := Option.some.inj (e3.symm.trans (get_map_ref hb))
        subst e3'
        have bl := hB.1
        rw [List.length_take] at bl
        refine ⟨rfl, ⟨_, rfl, 1, rfl, b, _, rfl, SqT.of (sx _ _ (s1619 _ _ hbt)), (fun z => absurd z.1 (show ¬ HT.sIx 3 0 (some 1) = 0 by decide)), fun p' np => ?_⟩⟩
        have kT := same_upd (o := .tup (stV es[j])) np
        refine ⟨_, kT _ _ hG3, small1000 (by rw [List.length_map]; omega), Same.off (sx.trans kT) nG2 off_upd, ?_⟩
        rw [List.take_add_one, List.getElem?_eq_getElem hj']
        exact lst_push (kT _ _ hG3) (hB.same kT) upd_same
      obtain ⟨s20, hG3⟩ := p
      rw [List.length_map, hcl, List.take_length] at hG3
      refine ⟨ordD outs, ordD es, (hG.same s20).dpO, hG3.dpO, shaped_ord _, shaped_ord _, ?_⟩
      rw [ord_kd ek, SeqAt.eqv_refl (ordD es) (lay_st es).1]
      have fin := s1.trans (Same.off s2 nr (o216.sameTrans (s1619.trans s20)))
      exact ⟨false, rfl, iteF ⟨fin, _, _, _, _, _, _, _, _, _, _, _, _, _, _, _, rfl⟩⟩
    · obtain ⟨s1, y1, y2, y3, y4, y5, y6, y7, y8, y9, y10, y11, y12, y13, y14, y15, rfl⟩ := p
      exact q _
end
end K28

set_option Elab.async false
set_option linter.all false
set_option maxRecDepth 100000
set_option maxHeartbeats 8000000
namespace K28
open PySem PySem.Spec PyProof.Rows L2 Gd Rm
theorem at_mk {K : PySem.W.Frag} {h : Heap} {mg : Str → Option Value} {x : Str} {st : Stmt} {ps : List Str} {f : Addr} {od an : Option Addr} {sl : Array (Option Value)} {oc kV dc pm cd ct : Value} (X : K.In h) (G : h.Ns mainGlobals mg)
    (a : PySem.W.nsIn K mainGlobals x = some (some (.ref f))) (l : K.lookup f = some ⟨oc, od, .func (PySem.W.fnOf x x (defArgs st) (defBody st) (defScope st) .none kV dc pm an cd ct), sl⟩) (c : PySem.W.codeIn K cd x = true) (k : PySem.W.keepIn K (.ref f) = true)
    (hb : ∀ (kV doc pm : Value) (an : Option Addr) (cdv ct : Value) (us : List Value), us.length = ps.length → bindArgs (PySem.W.fnOf x x (defArgs st) (defBody st) (defScope st) .none kV doc pm an cdv ct) ⟨us, []⟩ = pure (ps.zip us)) : At K mg x st ps :=
  ⟨_, _, fun_mk l c k, PySem.W.mg_of X G a, (fun_mk l c k).binds hb⟩
theorem all_mk {l : PySem.W.OpenLaw} {w : World} {K : PySem.W.Frag} {h : Heap} {mg : Str → Option Value} {fa : Addr} (X : K.In h) (G : h.Ns mainGlobals mg) (hfa : mg "law" = some (.ref fa))
    {f0 : Addr} {od0 an0 : Option Addr} {sl0 : Array (Option Value)} {oc0 kV0 dc0 pm0 cd0 ct0 : Value}
    {f1 : Addr} {od1 an1 : Option Addr} {sl1 : Array (Option Value)} {oc1 kV1 dc1 pm1 cd1 ct1 : Value}
    {f2 : Addr} {od2 an2 : Option Addr} {sl2 : Array (Option Value)} {oc2 kV2 dc2 pm2 cd2 ct2 : Value}
    {f3 : Addr} {od3 an3 : Option Addr} {sl3 : Array (Option Value)} {oc3 kV3 dc3 pm3 cd3 ct3 : Value}
    {f4 : Addr} {od4 an4 : Option Addr} {sl4 : Array (Option Value)} {oc4 kV4 dc4 pm4 cd4 ct4 : Value}
    {f5 : Addr} {od5 an5 : Option Addr} {sl5 : Array (Option Value)} {oc5 kV5 dc5 pm5 cd5 ct5 : Value}
    {f6 : Addr} {od6 an6 : Option Addr} {sl6 : Array (Option Value)} {oc6 kV6 dc6 pm6 cd6 ct6 : Value}
    {f7 : Addr} {od7 an7 : Option Addr} {sl7 : Array (Option Value)} {oc7 kV7 dc7 pm7 cd7 ct7 : Value}
    {f8 : Addr} {od8 an8 : Option Addr} {sl8 : Array (Option Value)} {oc8 kV8 dc8 pm8 cd8 ct8 : Value}
    {T8 : Addr} {td8 : Option Addr} {ts8 : Array (Option Value)} {tn8 : Nat}
    {f9 : Addr} {od9 an9 : Option Addr} {sl9 : Array (Option Value)} {oc9 kV9 dc9 pm9 cd9 ct9 : Value}
    {f10 : Addr} {od10 an10 : Option Addr} {sl10 : Array (Option Value)} {oc10 kV10 dc10 pm10 cd10 ct10 : Value}
    {f11 : Addr} {od11 an11 : Option Addr} {sl11 : Array (Option Value)} {oc11 kV11 dc11 pm11 cd11 ct11 : Value}
    {f12 : Addr} {od12 an12 : Option Addr} {sl12 : Array (Option Value)} {oc12 kV12 dc12 pm12 cd12 ct12 : Value}
    {f13 : Addr} {od13 an13 : Option Addr} {sl13 : Array (Option Value)} {oc13 kV13 dc13 pm13 cd13 ct13 : Value}
    {f14 : Addr} {od14 an14 : Option Addr} {sl14 : Array (Option Value)} {oc14 kV14 dc14 pm14 cd14 ct14 : Value}
    {f15 : Addr} {od15 an15 : Option Addr} {sl15 : Array (Option Value)} {oc15 kV15 dc15 pm15 cd15 ct15 : Value}
    {f16 : Addr} {od16 an16 : Option Addr} {sl16 : Array (Option Value)} {oc16 kV16 dc16 pm16 cd16 ct16 : Value}
    {f17 : Addr} {od17 an17 : Option Addr} {sl17 : Array (Option Value)} {oc17 kV17 dc17 pm17 cd17 ct17 : Value}
    {f18 : Addr} {od18 an18 : Option Addr} {sl18 : Array (Option Value)} {oc18 kV18 dc18 pm18 cd18 ct18 : Value}
    {f19 : Addr} {od19 an19 : Option Addr} {sl19 : Array (Option Value)} {oc19 kV19 dc19 pm19 cd19 ct19 : Value}
    {f20 : Addr} {od20 an20 : Option Addr} {sl20 : Array (Option Value)} {oc20 kV20 dc20 pm20 cd20 ct20 : Value}
    {f21 : Addr} {od21 an21 : Option Addr} {sl21 : Array (Option Value)} {oc21 kV21 dc21 pm21 cd21 ct21 : Value}
    {f22 : Addr} {od22 an22 : Option Addr} {sl22 : Array (Option Value)} {oc22 kV22 dc22 pm22 cd22 ct22 : Value}
    {f23 : Addr} {od23 an23 : Option Addr} {sl23 : Array (Option Value)} {oc23 kV23 dc23 pm23 cd23 ct23 : Value}
    {f24 : Addr} {od24 an24 : Option Addr} {sl24 : Array (Option Value)} {oc24 kV24 dc24 pm24 cd24 ct24 : Value}
    {f25 : Addr} {od25 an25 : Option Addr} {sl25 : Array (Option Value)} {oc25 kV25 dc25 pm25 cd25 ct25 : Value}
    {f26 : Addr} {od26 an26 : Option Addr} {sl26 : Array (Option Value)} {oc26 kV26 dc26 pm26 cd26 ct26 : Value}
    {f27 : Addr} {od27 an27 : Option Addr} {sl27 : Array (Option Value)} {oc27 kV27 dc27 pm27 cd27 ct27 : Value}
    {f28 : Addr} {od28 an28 : Option Addr} {sl28 : Array (Option Value)} {oc28 kV28 dc28 pm28 cd28 ct28 : Value}
    {f29 : Addr} {od29 an29 : Option Addr} {sl29 : Array (Option Value)} {oc29 kV29 dc29 pm29 cd29 ct29 : Value}
    {f30 : Addr} {od30 an30 : Option Addr} {sl30 : Array (Option Value)} {oc30 kV30 dc30 pm30 cd30 ct30 : Value}
    {f31 : Addr} {od31 an31 : Option Addr} {sl31 : Array (Option Value)} {oc31 kV31 dc31 pm31 cd31 ct31 : Value}
    {f32 : Addr} {od32 an32 : Option Addr} {sl32 : Array (Option Value)} {oc32 kV32 dc32 pm32 cd32 ct32 : Value}
    {f33 : Addr} {od33 an33 : Option Addr} {sl33 : Array (Option Value)} {oc33 kV33 dc33 pm33 cd33 ct33 : Value}
    {tk0 : Tok}
    {tk1 : Tok}
    {tk2 : Tok}
    {tk3 : Tok}
    {tk4 : Tok}
    {tk5 : Tok}
    {C : Addr}
    {mf0 : Addr} {mod0 man0 : Option Addr} {msl0 : Array (Option Value)} {moc0 mkV0 mdc0 mpm0 mcd0 mct0 : Value}
    {mf1 : Addr} {mod1 man1 : Option Addr} {msl1 : Array (Option Value)} {moc1 mkV1 mdc1 mpm1 mcd1 mct1 : Value}
    {mf2 : Addr} {mod2 man2 : Option Addr} {msl2 : Array (Option Value)} {moc2 mkV2 mdc2 mpm2 mcd2 mct2 : Value}
    {mf3 : Addr} {mod3 man3 : Option Addr} {msl3 : Array (Option Value)} {moc3 mkV3 mdc3 mpm3 mcd3 mct3 : Value}
    {mf4 : Addr} {mod4 man4 : Option Addr} {msl4 : Array (Option Value)} {moc4 mkV4 mdc4 mpm4 mcd4 mct4 : Value}
    {mf5 : Addr} {mod5 man5 : Option Addr} {msl5 : Array (Option Value)} {moc5 mkV5 mdc5 mpm5 mcd5 mct5 : Value}
    {mf6 : Addr} {mod6 man6 : Option Addr} {msl6 : Array (Option Value)} {moc6 mkV6 mdc6 mpm6 mcd6 mct6 : Value}
    (a0 : PySem.W.nsIn K mainGlobals "is_an_integer" = some (some (.ref f0))) (l0 : K.lookup f0 = some ⟨oc0, od0, .func (PySem.W.fnOf "is_an_integer" "is_an_integer" (defArgs s_is_an_integer) (defBody s_is_an_integer) (defScope s_is_an_integer) .none kV0 dc0 pm0 an0 cd0 ct0), sl0⟩) (c0 : PySem.W.codeIn K cd0 "is_an_integer" = true) (k0 : PySem.W.keepIn K (.ref f0) = true)
    (a1 : PySem.W.nsIn K mainGlobals "is_between" = some (some (.ref f1))) (l1 : K.lookup f1 = some ⟨oc1, od1, .func (PySem.W.fnOf "is_between" "is_between" (defArgs s_is_between) (defBody s_is_between) (defScope s_is_between) .none kV1 dc1 pm1 an1 cd1 ct1), sl1⟩) (c1 : PySem.W.codeIn K cd1 "is_between" = true) (k1 : PySem.W.keepIn K (.ref f1) = true)
    (a2 : PySem.W.nsIn K mainGlobals "is_step" = some (some (.ref f2))) (l2 : K.lookup f2 = some ⟨oc2, od2, .func (PySem.W.fnOf "is_step" "is_step" (defArgs s_is_step) (defBody s_is_step) (defScope s_is_step) .none kV2 dc2 pm2 an2 cd2 ct2), sl2⟩) (c2 : PySem.W.codeIn K cd2 "is_step" = true) (k2 : PySem.W.keepIn K (.ref f2) = true)
    (a3 : PySem.W.nsIn K mainGlobals "is_event" = some (some (.ref f3))) (l3 : K.lookup f3 = some ⟨oc3, od3, .func (PySem.W.fnOf "is_event" "is_event" (defArgs s_is_event) (defBody s_is_event) (defScope s_is_event) .none kV3 dc3 pm3 an3 cd3 ct3), sl3⟩) (c3 : PySem.W.codeIn K cd3 "is_event" = true) (k3 : PySem.W.keepIn K (.ref f3) = true)
    (a4 : PySem.W.nsIn K mainGlobals "is_short_list" = some (some (.ref f4))) (l4 : K.lookup f4 = some ⟨oc4, od4, .func (PySem.W.fnOf "is_short_list" "is_short_list" (defArgs s_is_short_list) (defBody s_is_short_list) (defScope s_is_short_list) .none kV4 dc4 pm4 an4 cd4 ct4), sl4⟩) (c4 : PySem.W.codeIn K cd4 "is_short_list" = true) (k4 : PySem.W.keepIn K (.ref f4) = true)
    (a5 : PySem.W.nsIn K mainGlobals "takes_turn" = some (some (.ref f5))) (l5 : K.lookup f5 = some ⟨oc5, od5, .func (PySem.W.fnOf "takes_turn" "takes_turn" (defArgs s_takes_turn) (defBody s_takes_turn) (defScope s_takes_turn) .none kV5 dc5 pm5 an5 cd5 ct5), sl5⟩) (c5 : PySem.W.codeIn K cd5 "takes_turn" = true) (k5 : PySem.W.keepIn K (.ref f5) = true)
    (a6 : PySem.W.nsIn K mainGlobals "can_follow" = some (some (.ref f6))) (l6 : K.lookup f6 = some ⟨oc6, od6, .func (PySem.W.fnOf "can_follow" "can_follow" (defArgs s_can_follow) (defBody s_can_follow) (defScope s_can_follow) .none kV6 dc6 pm6 an6 cd6 ct6), sl6⟩) (c6 : PySem.W.codeIn K cd6 "can_follow" = true) (k6 : PySem.W.keepIn K (.ref f6) = true)
    (a7 : PySem.W.nsIn K mainGlobals "is_below" = some (some (.ref f7))) (l7 : K.lookup f7 = some ⟨oc7, od7, .func (PySem.W.fnOf "is_below" "is_below" (defArgs s_is_below) (defBody s_is_below) (defScope s_is_below) .none kV7 dc7 pm7 an7 cd7 ct7), sl7⟩) (c7 : PySem.W.codeIn K cd7 "is_below" = true) (k7 : PySem.W.keepIn K (.ref f7) = true)
    (a8 : PySem.W.nsIn K mainGlobals "check_record" = some (some (.ref f8))) (l8 : K.lookup f8 = some ⟨oc8, od8, .func (PySem.W.fnOf "check_record" "check_record" (defArgs s_check_record) (defBody s_check_record) (defScope s_check_record) (.ref T8) kV8 dc8 pm8 an8 cd8 ct8), sl8⟩) (c8 : PySem.W.codeIn K cd8 "check_record" = true) (k8 : PySem.W.keepIn K (.ref f8) = true) (u_8 : K.lookup T8 = some ⟨.type "tuple", td8, .seq #[.none] tn8, ts8⟩)
    (a9 : PySem.W.nsIn K mainGlobals "is_code" = some (some (.ref f9))) (l9 : K.lookup f9 = some ⟨oc9, od9, .func (PySem.W.fnOf "is_code" "is_code" (defArgs s_is_code) (defBody s_is_code) (defScope s_is_code) .none kV9 dc9 pm9 an9 cd9 ct9), sl9⟩) (c9 : PySem.W.codeIn K cd9 "is_code" = true) (k9 : PySem.W.keepIn K (.ref f9) = true)
    (a10 : PySem.W.nsIn K mainGlobals "are_ascending" = some (some (.ref f10))) (l10 : K.lookup f10 = some ⟨oc10, od10, .func (PySem.W.fnOf "are_ascending" "are_ascending" (defArgs s_are_ascending) (defBody s_are_ascending) (defScope s_are_ascending) .none kV10 dc10 pm10 an10 cd10 ct10), sl10⟩) (c10 : PySem.W.codeIn K cd10 "are_ascending" = true) (k10 : PySem.W.keepIn K (.ref f10) = true)
    (a11 : PySem.W.nsIn K mainGlobals "are_combo_keys" = some (some (.ref f11))) (l11 : K.lookup f11 = some ⟨oc11, od11, .func (PySem.W.fnOf "are_combo_keys" "are_combo_keys" (defArgs s_are_combo_keys) (defBody s_are_combo_keys) (defScope s_are_combo_keys) .none kV11 dc11 pm11 an11 cd11 ct11), sl11⟩) (c11 : PySem.W.codeIn K cd11 "are_combo_keys" = true) (k11 : PySem.W.keepIn K (.ref f11) = true)
    (a12 : PySem.W.nsIn K mainGlobals "is_combo" = some (some (.ref f12))) (l12 : K.lookup f12 = some ⟨oc12, od12, .func (PySem.W.fnOf "is_combo" "is_combo" (defArgs s_is_combo) (defBody s_is_combo) (defScope s_is_combo) .none kV12 dc12 pm12 an12 cd12 ct12), sl12⟩) (c12 : PySem.W.codeIn K cd12 "is_combo" = true) (k12 : PySem.W.keepIn K (.ref f12) = true)
    (a13 : PySem.W.nsIn K mainGlobals "check_combos" = some (some (.ref f13))) (l13 : K.lookup f13 = some ⟨oc13, od13, .func (PySem.W.fnOf "check_combos" "check_combos" (defArgs s_check_combos) (defBody s_check_combos) (defScope s_check_combos) .none kV13 dc13 pm13 an13 cd13 ct13), sl13⟩) (c13 : PySem.W.codeIn K cd13 "check_combos" = true) (k13 : PySem.W.keepIn K (.ref f13) = true)
    (a14 : PySem.W.nsIn K mainGlobals "check_many" = some (some (.ref f14))) (l14 : K.lookup f14 = some ⟨oc14, od14, .func (PySem.W.fnOf "check_many" "check_many" (defArgs s_check_many) (defBody s_check_many) (defScope s_check_many) .none kV14 dc14 pm14 an14 cd14 ct14), sl14⟩) (c14 : PySem.W.codeIn K cd14 "check_many" = true) (k14 : PySem.W.keepIn K (.ref f14) = true)
    (a15 : PySem.W.nsIn K mainGlobals "check_gate" = some (some (.ref f15))) (l15 : K.lookup f15 = some ⟨oc15, od15, .func (PySem.W.fnOf "check_gate" "check_gate" (defArgs s_check_gate) (defBody s_check_gate) (defScope s_check_gate) .none kV15 dc15 pm15 an15 cd15 ct15), sl15⟩) (c15 : PySem.W.codeIn K cd15 "check_gate" = true) (k15 : PySem.W.keepIn K (.ref f15) = true)
    (a16 : PySem.W.nsIn K mainGlobals "first_piece" = some (some (.ref f16))) (l16 : K.lookup f16 = some ⟨oc16, od16, .func (PySem.W.fnOf "first_piece" "first_piece" (defArgs s_first_piece) (defBody s_first_piece) (defScope s_first_piece) .none kV16 dc16 pm16 an16 cd16 ct16), sl16⟩) (c16 : PySem.W.codeIn K cd16 "first_piece" = true) (k16 : PySem.W.keepIn K (.ref f16) = true)
    (a17 : PySem.W.nsIn K mainGlobals "has_all" = some (some (.ref f17))) (l17 : K.lookup f17 = some ⟨oc17, od17, .func (PySem.W.fnOf "has_all" "has_all" (defArgs s_has_all) (defBody s_has_all) (defScope s_has_all) .none kV17 dc17 pm17 an17 cd17 ct17), sl17⟩) (c17 : PySem.W.codeIn K cd17 "has_all" = true) (k17 : PySem.W.keepIn K (.ref f17) = true)
    (a18 : PySem.W.nsIn K mainGlobals "come_all" = some (some (.ref f18))) (l18 : K.lookup f18 = some ⟨oc18, od18, .func (PySem.W.fnOf "come_all" "come_all" (defArgs s_come_all) (defBody s_come_all) (defScope s_come_all) .none kV18 dc18 pm18 an18 cd18 ct18), sl18⟩) (c18 : PySem.W.codeIn K cd18 "come_all" = true) (k18 : PySem.W.keepIn K (.ref f18) = true)
    (a19 : PySem.W.nsIn K mainGlobals "run_out" = some (some (.ref f19))) (l19 : K.lookup f19 = some ⟨oc19, od19, .func (PySem.W.fnOf "run_out" "run_out" (defArgs s_run_out) (defBody s_run_out) (defScope s_run_out) .none kV19 dc19 pm19 an19 cd19 ct19), sl19⟩) (c19 : PySem.W.codeIn K cd19 "run_out" = true) (k19 : PySem.W.keepIn K (.ref f19) = true)
    (a20 : PySem.W.nsIn K mainGlobals "gated" = some (some (.ref f20))) (l20 : K.lookup f20 = some ⟨oc20, od20, .func (PySem.W.fnOf "gated" "gated" (defArgs s_gated) (defBody s_gated) (defScope s_gated) .none kV20 dc20 pm20 an20 cd20 ct20), sl20⟩) (c20 : PySem.W.codeIn K cd20 "gated" = true) (k20 : PySem.W.keepIn K (.ref f20) = true)
    (a21 : PySem.W.nsIn K mainGlobals "cut" = some (some (.ref f21))) (l21 : K.lookup f21 = some ⟨oc21, od21, .func (PySem.W.fnOf "cut" "cut" (defArgs s_cut) (defBody s_cut) (defScope s_cut) .none kV21 dc21 pm21 an21 cd21 ct21), sl21⟩) (c21 : PySem.W.codeIn K cd21 "cut" = true) (k21 : PySem.W.keepIn K (.ref f21) = true)
    (a22 : PySem.W.nsIn K mainGlobals "pieces" = some (some (.ref f22))) (l22 : K.lookup f22 = some ⟨oc22, od22, .func (PySem.W.fnOf "pieces" "pieces" (defArgs s_pieces) (defBody s_pieces) (defScope s_pieces) .none kV22 dc22 pm22 an22 cd22 ct22), sl22⟩) (c22 : PySem.W.codeIn K cd22 "pieces" = true) (k22 : PySem.W.keepIn K (.ref f22) = true)
    (a23 : PySem.W.nsIn K mainGlobals "held_keys" = some (some (.ref f23))) (l23 : K.lookup f23 = some ⟨oc23, od23, .func (PySem.W.fnOf "held_keys" "held_keys" (defArgs s_held_keys) (defBody s_held_keys) (defScope s_held_keys) .none kV23 dc23 pm23 an23 cd23 ct23), sl23⟩) (c23 : PySem.W.codeIn K cd23 "held_keys" = true) (k23 : PySem.W.keepIn K (.ref f23) = true)
    (a24 : PySem.W.nsIn K mainGlobals "is_whole" = some (some (.ref f24))) (l24 : K.lookup f24 = some ⟨oc24, od24, .func (PySem.W.fnOf "is_whole" "is_whole" (defArgs s_is_whole) (defBody s_is_whole) (defScope s_is_whole) .none kV24 dc24 pm24 an24 cd24 ct24), sl24⟩) (c24 : PySem.W.codeIn K cd24 "is_whole" = true) (k24 : PySem.W.keepIn K (.ref f24) = true)
    (a25 : PySem.W.nsIn K mainGlobals "is_record" = some (some (.ref f25))) (l25 : K.lookup f25 = some ⟨oc25, od25, .func (PySem.W.fnOf "is_record" "is_record" (defArgs s_is_record) (defBody s_is_record) (defScope s_is_record) .none kV25 dc25 pm25 an25 cd25 ct25), sl25⟩) (c25 : PySem.W.codeIn K cd25 "is_record" = true) (k25 : PySem.W.keepIn K (.ref f25) = true)
    (a26 : PySem.W.nsIn K mainGlobals "_law_spring" = some (some (.ref f26))) (l26 : K.lookup f26 = some ⟨oc26, od26, .func (PySem.W.fnOf "_law_spring" "_law_spring" (defArgs s__law_spring) (defBody s__law_spring) (defScope s__law_spring) .none kV26 dc26 pm26 an26 cd26 ct26), sl26⟩) (c26 : PySem.W.codeIn K cd26 "_law_spring" = true) (k26 : PySem.W.keepIn K (.ref f26) = true)
    (a27 : PySem.W.nsIn K mainGlobals "_law_take" = some (some (.ref f27))) (l27 : K.lookup f27 = some ⟨oc27, od27, .func (PySem.W.fnOf "_law_take" "_law_take" (defArgs s__law_take) (defBody s__law_take) (defScope s__law_take) .none kV27 dc27 pm27 an27 cd27 ct27), sl27⟩) (c27 : PySem.W.codeIn K cd27 "_law_take" = true) (k27 : PySem.W.keepIn K (.ref f27) = true)
    (a28 : PySem.W.nsIn K mainGlobals "_law_combos" = some (some (.ref f28))) (l28 : K.lookup f28 = some ⟨oc28, od28, .func (PySem.W.fnOf "_law_combos" "_law_combos" (defArgs s__law_combos) (defBody s__law_combos) (defScope s__law_combos) .none kV28 dc28 pm28 an28 cd28 ct28), sl28⟩) (c28 : PySem.W.codeIn K cd28 "_law_combos" = true) (k28 : PySem.W.keepIn K (.ref f28) = true)
    (a29 : PySem.W.nsIn K mainGlobals "_law_space" = some (some (.ref f29))) (l29 : K.lookup f29 = some ⟨oc29, od29, .func (PySem.W.fnOf "_law_space" "_law_space" (defArgs s__law_space) (defBody s__law_space) (defScope s__law_space) .none kV29 dc29 pm29 an29 cd29 ct29), sl29⟩) (c29 : PySem.W.codeIn K cd29 "_law_space" = true) (k29 : PySem.W.keepIn K (.ref f29) = true)
    (a30 : PySem.W.nsIn K mainGlobals "_law_presses" = some (some (.ref f30))) (l30 : K.lookup f30 = some ⟨oc30, od30, .func (PySem.W.fnOf "_law_presses" "_law_presses" (defArgs s__law_presses) (defBody s__law_presses) (defScope s__law_presses) .none kV30 dc30 pm30 an30 cd30 ct30), sl30⟩) (c30 : PySem.W.codeIn K cd30 "_law_presses" = true) (k30 : PySem.W.keepIn K (.ref f30) = true)
    (a31 : PySem.W.nsIn K mainGlobals "_law_left_right" = some (some (.ref f31))) (l31 : K.lookup f31 = some ⟨oc31, od31, .func (PySem.W.fnOf "_law_left_right" "_law_left_right" (defArgs s__law_left_right) (defBody s__law_left_right) (defScope s__law_left_right) .none kV31 dc31 pm31 an31 cd31 ct31), sl31⟩) (c31 : PySem.W.codeIn K cd31 "_law_left_right" = true) (k31 : PySem.W.keepIn K (.ref f31) = true)
    (a32 : PySem.W.nsIn K mainGlobals "_law_moved_right" = some (some (.ref f32))) (l32 : K.lookup f32 = some ⟨oc32, od32, .func (PySem.W.fnOf "_law_moved_right" "_law_moved_right" (defArgs s__law_moved_right) (defBody s__law_moved_right) (defScope s__law_moved_right) .none kV32 dc32 pm32 an32 cd32 ct32), sl32⟩) (c32 : PySem.W.codeIn K cd32 "_law_moved_right" = true) (k32 : PySem.W.keepIn K (.ref f32) = true)
    (a33 : PySem.W.nsIn K mainGlobals "law" = some (some (.ref f33))) (l33 : K.lookup f33 = some ⟨oc33, od33, .func (PySem.W.fnOf "law" "law" (defArgs s_law) (defBody s_law) (defScope s_law) .none kV33 dc33 pm33 an33 cd33 ct33), sl33⟩) (c33 : PySem.W.codeIn K cd33 "law" = true) (k33 : PySem.W.keepIn K (.ref f33) = true)
    (v0 : PySem.W.nsIn K mainGlobals "MOST_EVENTS" = some (some (.int 400 tk0)))
    (v1 : PySem.W.nsIn K mainGlobals "MOST_SIGNS" = some (some (.int 8 tk1)))
    (v2 : PySem.W.nsIn K mainGlobals "CODE_SIGNS" = some (some (.str "abcdefghijklmnopqrstuvwxyz0123456789" tk2)))
    (v3 : PySem.W.nsIn K mainGlobals "GREATEST_COMBO_TIME" = some (some (.int 1000000000 tk3)))
    (v4 : PySem.W.nsIn K mainGlobals "MOST_COMBOS" = some (some (.int 6 tk4)))
    (v5 : PySem.W.nsIn K mainGlobals "MOST_BOARD_KEYS" = some (some (.int 10 tk5)))
    (z0 : PySem.W.nsIn K mainGlobals "len" = some none)
    (z1 : PySem.W.nsIn K mainGlobals "max" = some none)
    (z2 : PySem.W.nsIn K mainGlobals "min" = some none)
    (z3 : PySem.W.nsIn K mainGlobals "repr" = some none)
    (z4 : PySem.W.nsIn K mainGlobals "isinstance" = some none)
    (z5 : PySem.W.nsIn K mainGlobals "all" = some none)
    (z6 : PySem.W.nsIn K mainGlobals "list" = some none)
    (z7 : PySem.W.nsIn K mainGlobals "tuple" = some none)
    (z8 : PySem.W.nsIn K mainGlobals "int" = some none)
    (z9 : PySem.W.nsIn K mainGlobals "bool" = some none)
    (z10 : PySem.W.nsIn K mainGlobals "str" = some none)
    (z11 : PySem.W.nsIn K mainGlobals "range" = some none)
    (z12 : PySem.W.nsIn K mainGlobals "enumerate" = some none)
    (z13 : PySem.W.nsIn K mainGlobals "sorted" = some none)
    (z14 : PySem.W.nsIn K mainGlobals "zip" = some none)
    (aC : PySem.W.nsIn K mainGlobals "Gate" = some (some (.ref C)))
    (ma0 : PySem.W.findIn K (.ref C) "__init__" = some (some (.ref mf0))) (mi0 : PySem.W.isFn K (.ref mf0) = true) (ml0 : K.lookup mf0 = some ⟨moc0, mod0, .func (PySem.W.fnOf "__init__" "Gate.__init__" (defArgs s_Gate_init) (defBody s_Gate_init) (defScope s_Gate_init) .none mkV0 mdc0 mpm0 man0 mcd0 mct0), msl0⟩) (mc0 : PySem.W.codeIn K mcd0 "Gate.__init__" = true) (mk0 : PySem.W.keepIn K (.ref mf0) = true)
    (ma1 : PySem.W.findIn K (.ref C) "due" = some (some (.ref mf1))) (mi1 : PySem.W.isFn K (.ref mf1) = true) (ml1 : K.lookup mf1 = some ⟨moc1, mod1, .func (PySem.W.fnOf "due" "Gate.due" (defArgs s_due) (defBody s_due) (defScope s_due) .none mkV1 mdc1 mpm1 man1 mcd1 mct1), msl1⟩) (mc1 : PySem.W.codeIn K mcd1 "Gate.due" = true) (mk1 : PySem.W.keepIn K (.ref mf1) = true)
    (ma2 : PySem.W.findIn K (.ref C) "clock" = some (some (.ref mf2))) (mi2 : PySem.W.isFn K (.ref mf2) = true) (ml2 : K.lookup mf2 = some ⟨moc2, mod2, .func (PySem.W.fnOf "clock" "Gate.clock" (defArgs s_clock) (defBody s_clock) (defScope s_clock) .none mkV2 mdc2 mpm2 man2 mcd2 mct2), msl2⟩) (mc2 : PySem.W.codeIn K mcd2 "Gate.clock" = true) (mk2 : PySem.W.keepIn K (.ref mf2) = true)
    (ma3 : PySem.W.findIn K (.ref C) "come" = some (some (.ref mf3))) (mi3 : PySem.W.isFn K (.ref mf3) = true) (ml3 : K.lookup mf3 = some ⟨moc3, mod3, .func (PySem.W.fnOf "come" "Gate.come" (defArgs s_come) (defBody s_come) (defScope s_come) .none mkV3 mdc3 mpm3 man3 mcd3 mct3), msl3⟩) (mc3 : PySem.W.codeIn K mcd3 "Gate.come" = true) (mk3 : PySem.W.keepIn K (.ref mf3) = true)
    (ma4 : PySem.W.findIn K (.ref C) "come_up" = some (some (.ref mf4))) (mi4 : PySem.W.isFn K (.ref mf4) = true) (ml4 : K.lookup mf4 = some ⟨moc4, mod4, .func (PySem.W.fnOf "come_up" "Gate.come_up" (defArgs s_come_up) (defBody s_come_up) (defScope s_come_up) .none mkV4 mdc4 mpm4 man4 mcd4 mct4), msl4⟩) (mc4 : PySem.W.codeIn K mcd4 "Gate.come_up" = true) (mk4 : PySem.W.keepIn K (.ref mf4) = true)
    (ma5 : PySem.W.findIn K (.ref C) "let_leave" = some (some (.ref mf5))) (mi5 : PySem.W.isFn K (.ref mf5) = true) (ml5 : K.lookup mf5 = some ⟨moc5, mod5, .func (PySem.W.fnOf "let_leave" "Gate.let_leave" (defArgs s_let_leave) (defBody s_let_leave) (defScope s_let_leave) .none mkV5 mdc5 mpm5 man5 mcd5 mct5), msl5⟩) (mc5 : PySem.W.codeIn K mcd5 "Gate.let_leave" = true) (mk5 : PySem.W.keepIn K (.ref mf5) = true)
    (ma6 : PySem.W.findIn K (.ref C) "send_piece" = some (some (.ref mf6))) (mi6 : PySem.W.isFn K (.ref mf6) = true) (ml6 : K.lookup mf6 = some ⟨moc6, mod6, .func (PySem.W.fnOf "send_piece" "Gate.send_piece" (defArgs s_send_piece) (defBody s_send_piece) (defScope s_send_piece) .none mkV6 mdc6 mpm6 man6 mcd6 mct6), msl6⟩) (mc6 : PySem.W.codeIn K mcd6 "Gate.send_piece" = true) (mk6 : PySem.W.keepIn K (.ref mf6) = true)
    (pg : PySem.W.plainGet K C Str.empty = true) (hd : PySem.W.hasDictIn K C = true) (po : PySem.W.plainOver K C = true) (sa : PySem.W.findIn K (.ref C) "__setattr__" = some (some (.builtin "object.__setattr__"))) (mkC : PySem.W.makesIn K C = true) (kc : PySem.W.keepIn K (.ref C) = true)
    (nn0 : PySem.W.findIn K (.ref C) "many" = some none)
    (nn1 : PySem.W.findIn K (.ref C) "combos" = some none)
    (nn2 : PySem.W.findIn K (.ref C) "downs" = some none)
    (nn3 : PySem.W.findIn K (.ref C) "sent" = some none) :
    ∃ fd : FuncData, (∀ (s : Shared) (u : Value), BindsTo s fd ⟨[u], []⟩ [("_law_script", u)]) ∧ ∀ base : Heap, K.In base → base.Ns mainGlobals mg → FnG l.prog w K mg base 10 fa fd ["_law_script"] (spLaw K) := by
  have e := hfa.symm.trans (PySem.W.mg_of X G a33)
  cases e
  have A_is_an_integer : At K mg "is_an_integer" s_is_an_integer ["value"] := at_mk X G a0 l0 c0 k0 fun _ _ _ _ _ _ us hl => match us, hl with | [_], _ => rfl
  have A_is_between : At K mg "is_between" s_is_between ["value", "low", "high"] := at_mk X G a1 l1 c1 k1 fun _ _ _ _ _ _ us hl => match us, hl with | [_, _, _], _ => rfl
  have A_is_step : At K mg "is_step" s_is_step ["value"] := at_mk X G a2 l2 c2 k2 fun _ _ _ _ _ _ us hl => match us, hl with | [_], _ => rfl
  have A_is_event : At K mg "is_event" s_is_event ["value"] := at_mk X G a3 l3 c3 k3 fun _ _ _ _ _ _ us hl => match us, hl with | [_], _ => rfl
  have A_is_short_list : At K mg "is_short_list" s_is_short_list ["value"] := at_mk X G a4 l4 c4 k4 fun _ _ _ _ _ _ us hl => match us, hl with | [_], _ => rfl
  have A_takes_turn : At K mg "takes_turn" s_takes_turn ["held", "key", "way"] := at_mk X G a5 l5 c5 k5 fun _ _ _ _ _ _ us hl => match us, hl with | [_, _, _], _ => rfl
  have A_can_follow : At K mg "can_follow" s_can_follow ["event", "last", "held"] := at_mk X G a6 l6 c6 k6 fun _ _ _ _ _ _ us hl => match us, hl with | [_, _, _], _ => rfl
  have A_is_below : At K mg "is_below" s_is_below ["key", "many"] := at_mk X G a7 l7 c7 k7 fun _ _ _ _ _ _ us hl => match us, hl with | [_, _], _ => rfl
  have A_check_recordN : AtX K mg "check_record" s_check_record ["value", "many"] [.none] := atX_less X G a8 l8 c8 k8 u_8 fun _ _ _ _ _ _ _ us its hl hi => match us, its, hl, hi with | [_], [_], _, _ => ⟨_, rfl, rfl⟩
  have A_check_record : AtX K mg "check_record" s_check_record ["value", "many"] [] := atX_all X G a8 l8 c8 k8 u_8 fun _ _ _ _ _ _ _ us its hl hi => match us, its, hl, hi with | [_, _], [_], _, _ => ⟨_, rfl, rfl⟩
  have A_is_code : At K mg "is_code" s_is_code ["value"] := at_mk X G a9 l9 c9 k9 fun _ _ _ _ _ _ us hl => match us, hl with | [_], _ => rfl
  have A_are_ascending : At K mg "are_ascending" s_are_ascending ["values", "many"] := at_mk X G a10 l10 c10 k10 fun _ _ _ _ _ _ us hl => match us, hl with | [_, _], _ => rfl
  have A_are_combo_keys : At K mg "are_combo_keys" s_are_combo_keys ["value", "many"] := at_mk X G a11 l11 c11 k11 fun _ _ _ _ _ _ us hl => match us, hl with | [_, _], _ => rfl
  have A_is_combo : At K mg "is_combo" s_is_combo ["value", "many"] := at_mk X G a12 l12 c12 k12 fun _ _ _ _ _ _ us hl => match us, hl with | [_, _], _ => rfl
  have A_check_combos : At K mg "check_combos" s_check_combos ["value", "many"] := at_mk X G a13 l13 c13 k13 fun _ _ _ _ _ _ us hl => match us, hl with | [_, _], _ => rfl
  have A_check_many : At K mg "check_many" s_check_many ["many"] := at_mk X G a14 l14 c14 k14 fun _ _ _ _ _ _ us hl => match us, hl with | [_], _ => rfl
  have A_check_gate : At K mg "check_gate" s_check_gate ["many", "combos", "record"] := at_mk X G a15 l15 c15 k15 fun _ _ _ _ _ _ us hl => match us, hl with | [_, _, _], _ => rfl
  have A_first_piece : At K mg "first_piece" s_first_piece ["downs", "combos"] := at_mk X G a16 l16 c16 k16 fun _ _ _ _ _ _ us hl => match us, hl with | [_, _], _ => rfl
  have A_has_all : At K mg "has_all" s_has_all ["combo", "keys"] := at_mk X G a17 l17 c17 k17 fun _ _ _ _ _ _ us hl => match us, hl with | [_, _], _ => rfl
  have A_come_all : At K mg "come_all" s_come_all ["machine", "events"] := at_mk X G a18 l18 c18 k18 fun _ _ _ _ _ _ us hl => match us, hl with | [_, _], _ => rfl
  have A_run_out : At K mg "run_out" s_run_out ["machine"] := at_mk X G a19 l19 c19 k19 fun _ _ _ _ _ _ us hl => match us, hl with | [_], _ => rfl
  have A_gated : At K mg "gated" s_gated ["many", "combos", "record"] := at_mk X G a20 l20 c20 k20 fun _ _ _ _ _ _ us hl => match us, hl with | [_, _, _], _ => rfl
  have A_cut : At K mg "cut" s_cut ["record", "numbers", "combos"] := at_mk X G a21 l21 c21 k21 fun _ _ _ _ _ _ us hl => match us, hl with | [_, _, _], _ => rfl
  have A_pieces : At K mg "pieces" s_pieces ["many", "combos", "record"] := at_mk X G a22 l22 c22 k22 fun _ _ _ _ _ _ us hl => match us, hl with | [_, _, _], _ => rfl
  have A_held_keys : At K mg "held_keys" s_held_keys ["record"] := at_mk X G a23 l23 c23 k23 fun _ _ _ _ _ _ us hl => match us, hl with | [_], _ => rfl
  have A_is_whole : At K mg "is_whole" s_is_whole ["record"] := at_mk X G a24 l24 c24 k24 fun _ _ _ _ _ _ us hl => match us, hl with | [_], _ => rfl
  have A_is_record : At K mg "is_record" s_is_record ["value"] := at_mk X G a25 l25 c25 k25 fun _ _ _ _ _ _ us hl => match us, hl with | [_], _ => rfl
  have A__law_spring : At K mg "_law_spring" s__law_spring ["_law_script", "_law_k"] := at_mk X G a26 l26 c26 k26 fun _ _ _ _ _ _ us hl => match us, hl with | [_, _], _ => rfl
  have A__law_take : At K mg "_law_take" s__law_take ["_law_spring_here", "_law_many"] := at_mk X G a27 l27 c27 k27 fun _ _ _ _ _ _ us hl => match us, hl with | [_, _], _ => rfl
  have A__law_combos : At K mg "_law_combos" s__law_combos ["_law_spring_here", "_law_many", "_law_top"] := at_mk X G a28 l28 c28 k28 fun _ _ _ _ _ _ us hl => match us, hl with | [_, _, _], _ => rfl
  have A__law_space : At K mg "_law_space" s__law_space ["_law_spring_here", "_law_times"] := at_mk X G a29 l29 c29 k29 fun _ _ _ _ _ _ us hl => match us, hl with | [_, _], _ => rfl
  have A__law_presses : At K mg "_law_presses" s__law_presses ["_law_spring_here", "_law_many", "_law_events", "_law_times"] := at_mk X G a30 l30 c30 k30 fun _ _ _ _ _ _ us hl => match us, hl with | [_, _, _, _], _ => rfl
  have A__law_left_right : At K mg "_law_left_right" s__law_left_right ["_law_many", "_law_combos_here", "_law_record"] := at_mk X G a31 l31 c31 k31 fun _ _ _ _ _ _ us hl => match us, hl with | [_, _, _], _ => rfl
  have A__law_moved_right : At K mg "_law_moved_right" s__law_moved_right ["_law_spring_here", "_law_many", "_law_combos_here", "_law_record"] := at_mk X G a32 l32 c32 k32 fun _ _ _ _ _ _ us hl => match us, hl with | [_, _, _, _], _ => rfl
  have A_law : At K mg "law" s_law ["_law_script"] := at_mk X G a33 l33 c33 k33 fun _ _ _ _ _ _ us hl => match us, hl with | [_], _ => rfl
  have m_MOST_EVENTS := PySem.W.mg_of X G v0
  have m_MOST_SIGNS := PySem.W.mg_of X G v1
  have m_CODE_SIGNS := PySem.W.mg_of X G v2
  have m_GREATEST_COMBO_TIME := PySem.W.mg_of X G v3
  have m_MOST_COMBOS := PySem.W.mg_of X G v4
  have m_MOST_BOARD_KEYS := PySem.W.mg_of X G v5
  have bt : Bt mg := ⟨PySem.W.mg_none_of X G z0, PySem.W.mg_none_of X G z1, PySem.W.mg_none_of X G z2, PySem.W.mg_none_of X G z3, PySem.W.mg_none_of X G z4, PySem.W.mg_none_of X G z5, PySem.W.mg_none_of X G z6, PySem.W.mg_none_of X G z7, PySem.W.mg_none_of X G z8, PySem.W.mg_none_of X G z9, PySem.W.mg_none_of X G z10, PySem.W.mg_none_of X G z11, PySem.W.mg_none_of X G z12, PySem.W.mg_none_of X G z13, PySem.W.mg_none_of X G z14⟩
  have cp : Gp K C := ⟨⟨pg, hd, po, sa⟩, nn0, nn1, nn2, nn3⟩
  have A_Gate : AtI K mg C "Gate" "Gate.__init__" s_Gate_init ["self", "many", "combos"] := ⟨⟨_, _, fun_mk ml0 mc0 mk0, ⟨mkC, ma0, mi0, kc⟩, PySem.W.mg_of X G aC, (fun_mk ml0 mc0 mk0).binds (ps := ["self", "many", "combos"]) fun _ _ _ _ _ _ us hl => match us, hl with | [_, _, _], _ => rfl⟩⟩
  have A_due : AtM K C "due" "Gate.due" s_due ["self"] := ⟨⟨_, _, fun_mk ml1 mc1 mk1, ⟨ma1, mi1, mk1⟩, (fun_mk ml1 mc1 mk1).binds (ps := ["self"]) fun _ _ _ _ _ _ us hl => match us, hl with | [_], _ => rfl⟩⟩
  have A_clock : AtM K C "clock" "Gate.clock" s_clock ["self", "tick"] := ⟨⟨_, _, fun_mk ml2 mc2 mk2, ⟨ma2, mi2, mk2⟩, (fun_mk ml2 mc2 mk2).binds (ps := ["self", "tick"]) fun _ _ _ _ _ _ us hl => match us, hl with | [_, _], _ => rfl⟩⟩
  have A_come : AtM K C "come" "Gate.come" s_come ["self", "event"] := ⟨⟨_, _, fun_mk ml3 mc3 mk3, ⟨ma3, mi3, mk3⟩, (fun_mk ml3 mc3 mk3).binds (ps := ["self", "event"]) fun _ _ _ _ _ _ us hl => match us, hl with | [_, _], _ => rfl⟩⟩
  have A_come_up : AtM K C "come_up" "Gate.come_up" s_come_up ["self", "tick", "key"] := ⟨⟨_, _, fun_mk ml4 mc4 mk4, ⟨ma4, mi4, mk4⟩, (fun_mk ml4 mc4 mk4).binds (ps := ["self", "tick", "key"]) fun _ _ _ _ _ _ us hl => match us, hl with | [_, _, _], _ => rfl⟩⟩
  have A_let_leave : AtM K C "let_leave" "Gate.let_leave" s_let_leave ["self", "now"] := ⟨⟨_, _, fun_mk ml5 mc5 mk5, ⟨ma5, mi5, mk5⟩, (fun_mk ml5 mc5 mk5).binds (ps := ["self", "now"]) fun _ _ _ _ _ _ us hl => match us, hl with | [_, _], _ => rfl⟩⟩
  have A_send_piece : AtM K C "send_piece" "Gate.send_piece" s_send_piece ["self", "now"] := ⟨⟨_, _, fun_mk ml6 mc6 mk6, ⟨ma6, mi6, mk6⟩, (fun_mk ml6 mc6 mk6).binds (ps := ["self", "now"]) fun _ _ _ _ _ _ us hl => match us, hl with | [_, _], _ => rfl⟩⟩
  refine ⟨PySem.W.fnOf "law" "law" (defArgs s_law) (defBody s_law) (defScope s_law) .none kV33 dc33 pm33 an33 cd33 ct33, fun s u => .of_eq rfl, fun base _ _ => ?_⟩
  have C1 := ok_is_an_integer (P := l.prog) (w := w) (base := base) bt A_is_an_integer
  have C2 := ok_is_between A_is_between C1
  have C3 := ok_is_step bt A_is_step C1
  have C4 := ok_is_event bt A_is_event C1 C3
  have C5 := ok_is_short_list (P := l.prog) (w := w) (base := base) bt _ m_MOST_EVENTS A_is_short_list
  have C6 := ok_takes_turn (P := l.prog) (w := w) (base := base) A_takes_turn
  have C7 := ok_is_below (P := l.prog) (w := w) (base := base) A_is_below
  have C6b := ok_can_follow A_can_follow C6
  have C8 := ok_check_record bt A_check_record C5 C4 C6b C7
  have C9 := ok_is_code (P := l.prog) (w := w) (base := base) bt m_MOST_SIGNS m_CODE_SIGNS A_is_code
  have C10a := ok_are_ascending bt A_are_ascending C2
  have C10 := ok_are_combo_keys bt A_are_combo_keys C10a
  have C11 := ok_is_combo bt m_GREATEST_COMBO_TIME A_is_combo C2 C9 C10
  have C12 := ok_check_combos bt m_MOST_COMBOS A_check_combos C11
  have C13 := ok_check_many m_MOST_BOARD_KEYS A_check_many C2
  have C14 := ok_check_gate A_check_gate C13 C12 C8
  have C15 := ok_first_piece (P := l.prog) (w := w) (base := base) bt A_first_piece
  have G0 := ok_has_all (P := l.prog) (w := w) (base := base) bt A_has_all
  have G1 := ok_Gate_init (P := l.prog) (w := w) (base := base) bt cp A_Gate
  have G2 := ok_due bt cp A_due G0
  have G3 := ok_send_piece bt cp A_send_piece C15
  have G4 := ok_let_leave bt cp A_let_leave G2 G3
  have G5 := ok_clock bt cp A_clock G2 G4
  have G6 := ok_come_up bt cp A_come_up G3
  have G7 := ok_come bt cp A_come G4 G6
  have G8 := ok_come_all bt cp A_come_all G5 G7
  have G9 := ok_run_out bt cp A_run_out G2 G5
  have G10 := ok_gated bt cp A_gated C14 G1 G8 G9
  have C16 := ok_cut bt A_cut C15
  have C17 := ok_pieces bt A_pieces C14 C16
  have N1 := ok_is_belowN (P := l.prog) (w := w) (base := base) A_is_below
  have N2 := ok_check_recordN bt A_check_recordN C5 C4 C6b N1
  have N3 := ok_held_keys (P := l.prog) (w := w) (base := base) bt A_held_keys
  have N4 := ok_is_whole bt A_is_whole N2 N3
  have N5 := ok_is_record A_is_record N2
  have D1 := ok__law_take (P := l.prog) (w := w) (base := base) A__law_take
  have D2 := ok__law_spring (P := l.prog) (w := w) (base := base) bt A__law_spring
  have D3 := ok__law_combos bt A__law_combos D1
  have D4 := ok__law_space bt A__law_space D1
  have D5 := ok__law_presses bt A__law_presses D1 D4
  have D6 := ok__law_left_right bt A__law_left_right G10 C17 N5 N4
  have D7 := ok__law_moved_right bt A__law_moved_right D1 G10
  exact ok_law bt (fun_mk l33 c33 k33) D2 D1 D3 D5 D6 D7 G10 C17
end K28
open PySem PySem.W PyProof.Rows
set_option maxHeartbeats 0 in
theorem PySem.Challenge.cw_holdtap_k28_whole_each_down_leaves_once_holds : PySem.Challenge.rw_holdtap_k28_whole_each_down_leaves_once.Holds := by
  w_on; o_law; k_head; (case hw => w_witness2)
  k_fill
  refine Gd.walkG (l := PySem.Challenge.rw_holdtap_k28_whole_each_down_leaves_once) (n := 63) (k := 10) (x := "_law_script") (sp := fun K => K28.spLaw K) rfl (by decide) rfl ⟨rfl, by decide, by decide⟩ (fun w h Y => PySem.W.kIn_of Y) ?F (fun _ _ a ns hl hS => ⟨a, ns, rfl, hS, hl, fun _ => rfl⟩)
  case F =>
    intro w mg fa h KX G hmg
    refine' K28.all_mk KX G hmg ?a0 ?l0 ?c0 ?k0 ?a1 ?l1 ?c1 ?k1 ?a2 ?l2 ?c2 ?k2 ?a3 ?l3 ?c3 ?k3 ?a4 ?l4 ?c4 ?k4 ?a5 ?l5 ?c5 ?k5 ?a6 ?l6 ?c6 ?k6 ?a7 ?l7 ?c7 ?k7 ?a8 ?l8 ?c8 ?k8 ?u_8 ?a9 ?l9 ?c9 ?k9 ?a10 ?l10 ?c10 ?k10 ?a11 ?l11 ?c11 ?k11 ?a12 ?l12 ?c12 ?k12 ?a13 ?l13 ?c13 ?k13 ?a14 ?l14 ?c14 ?k14 ?a15 ?l15 ?c15 ?k15 ?a16 ?l16 ?c16 ?k16 ?a17 ?l17 ?c17 ?k17 ?a18 ?l18 ?c18 ?k18 ?a19 ?l19 ?c19 ?k19 ?a20 ?l20 ?c20 ?k20 ?a21 ?l21 ?c21 ?k21 ?a22 ?l22 ?c22 ?k22 ?a23 ?l23 ?c23 ?k23 ?a24 ?l24 ?c24 ?k24 ?a25 ?l25 ?c25 ?k25 ?a26 ?l26 ?c26 ?k26 ?a27 ?l27 ?c27 ?k27 ?a28 ?l28 ?c28 ?k28 ?a29 ?l29 ?c29 ?k29 ?a30 ?l30 ?c30 ?k30 ?a31 ?l31 ?c31 ?k31 ?a32 ?l32 ?c32 ?k32 ?a33 ?l33 ?c33 ?k33 ?v0 ?v1 ?v2 ?v3 ?v4 ?v5 ?z0 ?z1 ?z2 ?z3 ?z4 ?z5 ?z6 ?z7 ?z8 ?z9 ?z10 ?z11 ?z12 ?z13 ?z14 ?aC ?ma0 ?mi0 ?ml0 ?mc0 ?mk0 ?ma1 ?mi1 ?ml1 ?mc1 ?mk1 ?ma2 ?mi2 ?ml2 ?mc2 ?mk2 ?ma3 ?mi3 ?ml3 ?mc3 ?mk3 ?ma4 ?mi4 ?ml4 ?mc4 ?mk4 ?ma5 ?mi5 ?ml5 ?mc5 ?mk5 ?ma6 ?mi6 ?ml6 ?mc6 ?mk6 ?pg ?hd ?po ?sa ?mkC ?kc ?nn0 ?nn1 ?nn2 ?nn3
    (case a0 => k_is); (case l0 => k_is); (case c0 => k_is); (case k0 => k_is); (case a1 => k_is); (case l1 => k_is); (case c1 => k_is); (case k1 => k_is); (case a2 => k_is); (case l2 => k_is); (case c2 => k_is); (case k2 => k_is); (case a3 => k_is); (case l3 => k_is); (case c3 => k_is); (case k3 => k_is); (case a4 => k_is); (case l4 => k_is); (case c4 => k_is); (case k4 => k_is); (case a5 => k_is); (case l5 => k_is); (case c5 => k_is); (case k5 => k_is); (case a6 => k_is); (case l6 => k_is); (case c6 => k_is); (case k6 => k_is); (case a7 => k_is); (case l7 => k_is); (case c7 => k_is); (case k7 => k_is); (case a8 => k_is); (case l8 => k_is); (case c8 => k_is); (case k8 => k_is); (case u_8 => k_is); (case a9 => k_is); (case l9 => k_is); (case c9 => k_is); (case k9 => k_is); (case a10 => k_is); (case l10 => k_is); (case c10 => k_is); (case k10 => k_is); (case a11 => k_is); (case l11 => k_is); (case c11 => k_is); (case k11 => k_is); (case a12 => k_is); (case l12 => k_is); (case c12 => k_is); (case k12 => k_is); (case a13 => k_is); (case l13 => k_is); (case c13 => k_is); (case k13 => k_is); (case a14 => k_is); (case l14 => k_is); (case c14 => k_is); (case k14 => k_is); (case a15 => k_is); (case l15 => k_is); (case c15 => k_is); (case k15 => k_is); (case a16 => k_is); (case l16 => k_is); (case c16 => k_is); (case k16 => k_is); (case a17 => k_is); (case l17 => k_is); (case c17 => k_is); (case k17 => k_is); (case a18 => k_is); (case l18 => k_is); (case c18 => k_is); (case k18 => k_is); (case a19 => k_is); (case l19 => k_is); (case c19 => k_is); (case k19 => k_is); (case a20 => k_is); (case l20 => k_is); (case c20 => k_is); (case k20 => k_is); (case a21 => k_is); (case l21 => k_is); (case c21 => k_is); (case k21 => k_is); (case a22 => k_is); (case l22 => k_is); (case c22 => k_is); (case k22 => k_is); (case a23 => k_is); (case l23 => k_is); (case c23 => k_is); (case k23 => k_is); (case a24 => k_is); (case l24 => k_is); (case c24 => k_is); (case k24 => k_is); (case a25 => k_is); (case l25 => k_is); (case c25 => k_is); (case k25 => k_is); (case a26 => k_is); (case l26 => k_is); (case c26 => k_is); (case k26 => k_is); (case a27 => k_is); (case l27 => k_is); (case c27 => k_is); (case k27 => k_is); (case a28 => k_is); (case l28 => k_is); (case c28 => k_is); (case k28 => k_is); (case a29 => k_is); (case l29 => k_is); (case c29 => k_is); (case k29 => k_is); (case a30 => k_is); (case l30 => k_is); (case c30 => k_is); (case k30 => k_is); (case a31 => k_is); (case l31 => k_is); (case c31 => k_is); (case k31 => k_is); (case a32 => k_is); (case l32 => k_is); (case c32 => k_is); (case k32 => k_is); (case a33 => k_is); (case l33 => k_is); (case c33 => k_is); (case k33 => k_is); (case v0 => k_is); (case v1 => k_is); (case v2 => k_is); (case v3 => k_is); (case v4 => k_is); (case v5 => k_is); (case z0 => k_is); (case z1 => k_is); (case z2 => k_is); (case z3 => k_is); (case z4 => k_is); (case z5 => k_is); (case z6 => k_is); (case z7 => k_is); (case z8 => k_is); (case z9 => k_is); (case z10 => k_is); (case z11 => k_is); (case z12 => k_is); (case z13 => k_is); (case z14 => k_is); (case aC => k_is); (case ma0 => k_is); (case mi0 => k_is); (case ml0 => k_is); (case mc0 => k_is); (case mk0 => k_is); (case ma1 => k_is); (case mi1 => k_is); (case ml1 => k_is); (case mc1 => k_is); (case mk1 => k_is); (case ma2 => k_is); (case mi2 => k_is); (case ml2 => k_is); (case mc2 => k_is); (case mk2 => k_is); (case ma3 => k_is); (case mi3 => k_is); (case ml3 => k_is); (case mc3 => k_is); (case mk3 => k_is); (case ma4 => k_is); (case mi4 => k_is); (case ml4 => k_is); (case mc4 => k_is); (case mk4 => k_is); (case ma5 => k_is); (case mi5 => k_is); (case ml5 => k_is); (case mc5 => k_is); (case mk5 => k_is); (case ma6 => k_is); (case mi6 => k_is); (case ml6 => k_is); (case mc6 => k_is); (case mk6 => k_is); (case pg => k_is); (case hd => k_is); (case po => k_is); (case sa => k_is); (case mkC => k_is); (case kc => k_is); (case nn0 => k_is); (case nn1 => k_is); (case nn2 => k_is); (case nn3 => k_is)

