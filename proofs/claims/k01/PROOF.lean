import PyProof.Rows.All
import Wide.All
import OpenK.AllK
import Wide.FinOn
import HandS.ForMost
import HandS.EndBits
import HandS.Wide
import HandS.IsInst
import PyProof.ReprRoads
import PyProof.ReprBulk
import KE.DataCmp
import KE.SortData
import HandS.SortRule
import HandS.TupAny
import HandS.CallLocal
import HandS.ForExc
import PyProof.DictCopy
import HandS.ExcInit
import KE.KExcSuper
import KE.KExcInit
import HandS.ExcIs
import HandS.ExcField
import KE.KExcIs
import HandS.ExcValue
import HandS.WordsExc
import HandS.Walk
import HandS.StrMore
import HandS.TupMul
import HandS.Defaults
import HandS.Style
import HandS.RaiseOp
import KE.GoesEnum
import HandS.Iter
import KE.KDictWalk
import PyProof.DictWalks
import HandS.SetFor
import HandS.Strs
import KE.KDictPairs
import HandS.Flow
import HandS.Text
import PySem.Challenge.RW_fewturnsover_k01_programs_looked_at
set_option Elab.async false
set_option linter.all false
set_option maxRecDepth 100000
set_option maxHeartbeats 4000000
namespace G0
open PySem PySem.Spec PyProof.Rows L2

/-! what repr tells of data of any depth -/
mutual
theorem nodict {K : PySem.W.Frag} {H : Hp} : ∀ (d : PyData) (v : V), Dp K H v d → d.hasDict = false
  | .none, _, _ => by simp [PyData.hasDict]
  | .bool _, _, _ => by simp [PyData.hasDict]
  | .int _, _, _ => by simp [PyData.hasDict]
  | .str _, _, _ => by simp [PyData.hasDict]
  | .list ds, _, h => by
    cases h with
    | lst _ ha => simp only [PyData.hasDict]; exact nodictAll ds _ ha
  | .tuple ds, _, h => by
    cases h with
    | tup _ ha => simp only [PyData.hasDict]; exact nodictAll ds _ ha
  | .dict _, _, h => by cases h
theorem nodictAll {K : PySem.W.Frag} {H : Hp} : ∀ (ds : List PyData) (vs : List V), DpAll K H vs ds → PyData.hasDictAll ds = false
  | [], _, _ => by simp [PyData.hasDictAll]
  | d :: ds, _, h => by
    cases h with
    | cons h1 h2 => simp only [PyData.hasDictAll, nodict d _ h1, nodictAll ds _ h2, Bool.or_self]
end

section
variable {X : Cx}
/-- repr(x) where nothing is being shown around -/
def rRepr (K : PySem.W.Frag) : List V → Hp → VK → Prop := fun xs H Q =>
  ∃ x d, xs = [x] ∧ Dp K H x d ∧ d.showable = true ∧ d.depth ≤ 60 ∧ d.shown.length ≤ sizeLine ∧ Q (.str d.shown) H
theorem call_reprD (gu : X.A.guards = some []) (ro : X.A.units + 64 < cLine) : CallR X (.builtin "repr") (rRepr X.K) := by
  intro pins s σ H xs us Q I rel hyp
  obtain ⟨x, d, rfl, dp, sh, dep, siz, fin⟩ := hyp
  obtain ⟨u, rfl, ru⟩ := vals1 rel
  cases dp with
  | non =>
    cases ru
    rw [PyData.shown_none] at fin
    exact PySem.P.repr_of_none ⟨.str _, H, I.tok _, ⟨_, rfl⟩, fin⟩
  | bl b =>
    cases ru
    rw [PyData.shown_bool] at fin
    exact PySem.P.repr_of_bool ⟨.str _, H, I.tok _, ⟨_, rfl⟩, by cases b <;> exact fin⟩
  | int i =>
    obtain ⟨t, rfl⟩ := ru
    rw [PyData.shown_int] at fin
    exact PySem.P.repr_of_int (by simpa [PyData.showable] using sh) ⟨.str _, H, I.tok _, ⟨_, rfl⟩, fin⟩
  | str z =>
    obtain ⟨t, rfl⟩ := ru
    rw [PyData.shown_str] at fin siz
    exact PySem.P.repr_of_str ⟨.str _, H, I.tok _, ⟨_, rfl⟩, fin⟩ siz
  | lst hs ha =>
    have hd := nodict _ _ (Dp.lst hs ha)
    obtain ⟨as, rd⟩ := Dp.reads I _ _ _ (Dp.lst hs ha) ru
    cases ru
    exact repr_of_reads' rd sh (fun q => absurd (q.symm.trans hd) (by decide)) gu (by omega) (fun _ _ e => e) (fun h' t k keep => ⟨.str _, H, I.kept keep, ⟨_, rfl⟩, fin⟩) siz
  | tup hs ha =>
    have hd := nodict _ _ (Dp.tup hs ha)
    obtain ⟨as, rd⟩ := Dp.reads I _ _ _ (Dp.tup hs ha) ru
    cases ru
    exact repr_of_reads' rd sh (fun q => absurd (q.symm.trans hd) (by decide)) gu (by omega) (fun _ _ e => e) (fun h' t k keep => ⟨.str _, H, I.kept keep, ⟨_, rfl⟩, fin⟩) siz
end
end G0

set_option maxHeartbeats 4000000
namespace G1
open PySem PySem.Spec PyProof.Rows L2

/-- the law's own def, run where nothing is around: its context knows that no repr is under way -/
structure LawDef (P : Program) (w : World) (K : PySem.W.Frag) (mg : Str → Option Value) (k : Nat) (fa : Addr) (x : Str) (want : Hp → Addr → List Int → Prop) : Prop where
  ex : ∃ (fd : FuncData) (nm ql : Str) (pr : Arguments) (bd : List Stmt) (sc : Scope) (dV kV doc pm cdv ct oc : Value) (an od : Option Addr) (osl : Array (Option Value)) (N : List Str),
    fd = PySem.W.fnOf nm ql pr bd sc dV kV doc pm an cdv ct ∧ K.lookup fa = some ⟨oc, od, .func fd, osl⟩ ∧ PySem.W.codeIn K cdv ql = true ∧ FnScope N [x] sc ∧
    (∀ (s : Shared) (u : Value), BindsTo s fd ⟨[u], []⟩ [(x, u)]) ∧
    ∀ base : Heap, K.In base → base.Ns mainGlobals mg → ∀ (s : Shared) (H : Hp) (a : Addr) (ns : List Int), want H a ns →
      Room k (callerA.deeper (envOfC ql sc s.heap.objs.size fa cdv)) →
      ∃ t, PSs (cxOf CX0 P w K mg base N ql sc fa cdv callerA [] s H (fun _ _ _ => False)) bd t ∧ t { nx := fun _ _ => False, rt := fun v _ => v = .bl true } (start N [.ref a]) H

section
variable {P : Program} {w : World} {K : PySem.W.Frag} {mg : Str → Option Value} {k : Nat} {fa : Addr} {x : Str} {want : Hp → Addr → List Int → Prop}
theorem LawDef.run (L : LawDef P w K mg k fa x want) {base : Heap} (hk : K.In base) (hm : base.Ns mainGlobals mg) {s : Shared} {H : Hp} {a : Addr} {ns : List Int} (hw : want H a ns) (ro : Room (k + 1) callerA)
    (e0 : Env0 P w K mg base callerA [] s H) :
    codeAny (model P w) callerA (.call (.ref fa) ⟨[.ref a], []⟩) (CR CX0 [] P w H s (fun v _ => v = .bl true) fun _ _ _ => False) s := by
  obtain ⟨fd, nm, ql, pr, bd, sc, dV, kV, doc, pm, cdv, ct, oc, an, od, osl, N, rfl, at1, cod, S, bnd, bod⟩ := L.ex
  have inS : K.In s.heap := e0.mod.kin.keeps fun b o e => (e0.bs b o e).1
  have noL : s.heap.NoLimit := e0.mod.nolimit.keeps fun b o e => (e0.bs b o e).1
  refine codeAny_call_function ro.depth (inS _ _ at1) rfl S.co S.gen rfl (PySem.W.codeRec_of inS cod) (bnd s (.ref a) _ _ _ _ ?_)
  refine wpAny_newFunctionEnv_cells S.kind (fun ⟨n, v⟩ hy => ?_) fun env he s1 y => ?_
  · have hn : n ∈ [x] := by
      have h1 := List.mem_singleton.mp hy
      rw [(Prod.mk.inj h1).1]
      exact List.mem_singleton.mpr rfl
    rcases S.par n hn with q | q
    · exact Or.inl q
    · exact Or.inr ⟨q, PySem.W.cellsFrom_some _ _ _ (Or.inl q)⟩
  subst he
  refine ⟨noL.keeps y.toInCall.keep, codeAny_func ?_⟩
  obtain ⟨t, pt, tt⟩ := bod base hk hm s H a ns hw (ro.deeper _)
  have I : Inv (cxOf CX0 P w K mg base N ql sc fa cdv callerA [] s H fun _ _ _ => False) [] (start N [.ref a]) H s1 := inv_start S ro.hd e0 rfl (.cons rfl .nil) y
  refine wpAny_mono (pt.run [] s1 _ H _ I tt) (fun fl s2 h2 => ?_) fun e s2 h2 => h2
  cases fl with
  | ret u =>
    obtain ⟨v, σ2, H2, J, rv, q⟩ := h2
    exact ⟨v, H2, J.os, J.bare, J.base, J.hok, rv, q⟩
  | next =>
    obtain ⟨_, _, _, q⟩ := h2
    exact q.elim
  | brk =>
    obtain ⟨_, _, _, q⟩ := h2
    exact q.elim
  | cont =>
    obtain ⟨_, _, _, q⟩ := h2
    exact q.elim
end
end G1

set_option maxHeartbeats 4000000
namespace G2
open PySem PySem.Spec PyProof.Rows L2 G1
section
variable {P : Program} {w : World} {K : PySem.W.Frag} {mg mb : Str → Option Value} {k : Nat} {fa a : Addr} {x : Str} {want : Hp → Addr → List Int → Prop} {S0 : Shared} {vs : List Value} {ns : List Int}
theorem not_in_nil {α : Type} {b : α} {p : Prop} (h : b ∈ ([] : List α)) : p := absurd h List.not_mem_nil
/-- from the run to what a row asks of it -/
theorem told_true {H : Hp} (fz : Only H) (hok : HOk P w H S0.heap) {r : Result} {S1 : Shared} (h : CR CX0 [] P w H S0 (fun v _ => v = .bl true) (fun _ _ _ => False) r S1) :
    r = .ok (.ret (.bool true)) ∧ OldK S0.heap S1.heap ∧ S1.os = S0.os ∧ AllBare S1.gens := by
  match r, h with
  | .error e, h => exact False.elim h
  | .ok .next, h => exact False.elim h
  | .ok .brk, h => exact False.elim h
  | .ok .cont, h => exact False.elim h
  | .ok (.ret u), ⟨v, H1, os, br, un, hk1, ru, vt⟩ =>
    have vt2 : v = .bl true := vt
    rw [vt2] at ru
    have ru2 : u = Value.bool true := ru
    subst ru2
    refine ⟨rfl, OldK.of_keep fun b o at0 => ?_, os, br⟩
    rcases fz b with free | ⟨ob, xs, frozen⟩
    · exact un.keep b o at0 free (fun z => not_in_nil z) (fun z => not_in_nil z)
    · have was := (hok b _ frozen).1
      have is := (hk1 b _ (un.frzs b ob _ frozen)).1
      rw [at0] at was
      cases was
      exact is
/-- the heap without the script -/
theorem bare_base (KX : K.In S0.heap) (gl : S0.heap.Ns mainGlobals mg) (bu : S0.heap.Ns builtinsNs mb) (bb : ∀ z : Str, z ≠ "__name__" → mb z = bootBuiltins z) (nl : S0.heap.NoLimit)
    (ob : S0.heap.get? a = some { cls := .type "list", data := .seq vs.toArray }) {H : Hp} (own : ∀ b, H b ≠ none → b = a) (out : H a ≠ none → K.lookup a = none) : Mod K mg (hidT S0.heap H) := by
  have plain : ∀ {b : Addr} {m : Str → Option Value}, S0.heap.Ns b m → (hidT S0.heap H).Ns b m := by
    rintro b m ⟨o, es, ep, at0, dat, more⟩
    refine ⟨o, es, ep, hidT_get at0 ?_, dat, more⟩
    cases hb : H b with
    | none => rfl
    | some u =>
      have ba : b = a := own b (by rw [hb]; exact Option.some_ne_none u)
      rw [ba, ob] at at0
      cases at0
      exact absurd dat (by intro z; cases z)
  refine ⟨fun b o lk => hidT_get (KX b o lk) ?_, plain gl, ⟨mb, plain bu, bb⟩, ?_⟩
  · cases hb : H b with
    | none => rfl
    | some u =>
      have ne : H b ≠ none := by rw [hb]; exact Option.some_ne_none u
      have ba : b = a := own b ne
      subst ba
      rw [out ne] at lk
      cases lk
  · obtain ⟨mc, n1, n2⟩ := nl
    exact ⟨mc, plain n1, n2⟩
theorem law_at (KX : K.In S0.heap) (gl : S0.heap.Ns mainGlobals mg) (bu : S0.heap.Ns builtinsNs mb) (bb : ∀ z : Str, z ≠ "__name__" → mb z = bootBuiltins z) (nl : S0.heap.NoLimit) (gn : S0.gens = #[])
    (ob : S0.heap.get? a = some { cls := .type "list", data := .seq vs.toArray }) (ia : IntsAre vs ns) (ln : ns.length ≤ sizeLine) (ro : Room (k + 1) callerA) (L : LawDef P w K mg k fa x want)
    (hw : ∀ H : Hp, SqL K H a (ns.map V.int) → want H a ns) :
    codeAny (model P w) callerA (.call (.ref fa) ⟨[.ref a], []⟩) (fun r S1 => r = .ok (.ret (.bool true)) ∧ OldK S0.heap S1.heap ∧ S1.os = S0.os ∧ AllBare S1.gens) S0 := by
  have lenV := ia.length
  have go : ∀ H : Hp, Only H → SqL K H a (ns.map V.int) → HOk P w H S0.heap → (∀ b, H b ≠ none → b = a) → (H a ≠ none → K.lookup a = none) →
      codeAny (model P w) callerA (.call (.ref fa) ⟨[.ref a], []⟩) (fun r S1 => r = .ok (.ret (.bool true)) ∧ OldK S0.heap S1.heap ∧ S1.os = S0.os ∧ AllBare S1.gens) S0 := by
    intro H fz sq hok own out
    have M := bare_base KX gl bu bb nl ob own out
    have e0 : Env0 P w K mg (hidT S0.heap H) callerA [] S0 H :=
      { frames := rfl, mod := M, bs := fun b o e => of_hidT e, bsz := Nat.le_of_eq (hidT_size _ _), funs := trivial, frf := fun b z => not_in_nil (show b ∈ ([] : List Addr) from z), hok := hok, bare := .of_eq gn }
    exact codeAny_mono (L.run M.kin M.glob (hw H sq) ro e0) fun r S1 h => told_true fz hok h
  by_cases hk : K.lookup a = none
  · let o0 : Obj := { cls := .type "list", data := .seq vs.toArray }
    let H0 : Hp := fun b => if b = a then some (.frz o0 (.lst (ns.map V.int))) else none
    have h1 : H0 a = some (.frz o0 (.lst (ns.map V.int))) := if_pos rfl
    have h2 : ∀ b, b ≠ a → H0 b = none := fun b hb => if_neg hb
    refine go H0 (fun b => ?_) (Or.inl (Or.inr ⟨o0, h1⟩)) (fun b u z => ?_) (fun b z => Decidable.byContradiction fun hb => z (h2 b hb)) (fun _ => hk)
    · by_cases hb : b = a
      · subst hb
        exact Or.inr ⟨_, _, h1⟩
      · exact Or.inl (h2 b hb)
    · by_cases hb : b = a
      · subst hb
        rw [h1] at z
        cases z
        exact ⟨ob, by rw [List.length_map]; exact ln, vs, _, vals_ints ia, ob⟩
      · rw [h2 b hb] at z
        cases z
  · obtain ⟨o, lk⟩ := Option.ne_none_iff_exists'.mp hk
    have same := KX a o lk
    rw [ob] at same
    cases same
    refine go (fun _ => none) (fun _ => Or.inl rfl) (Or.inr ⟨_, vs.toArray, _, lk, rfl, rfl, rfl, by rw [List.size_toArray, lenV]; exact ln, by simpa using vals_ints ia⟩) (fun b u z => by cases z) (fun b z => absurd rfl z) (fun z => absurd rfl z)
end
/-- what k_head leaves, from the law's def -/
theorem walk_G {l : PySem.W.OpenLaw} {n k : Nat} {q : Program} {loose : List Str} {XP : (Str → Option Value) → Heap → Prop} {YP : World → Heap → Prop} {d : DefRec} {K : Params → PySem.W.Frag} {x : Str} (want : PySem.W.Frag → Hp → Addr → List Int → Prop)
    (hn : l.most = some n) (hz : n ≤ sizeLine) (nodef : d.params.defaults = []) (ro : Room (k + 1) callerA) (hY : ∀ (w : World) (h : Heap), YP w h → (K w.params).In h)
    (F : ∀ (w : World) (mg : Str → Option Value) (fa : Addr) (h : Heap), (K w.params).In h → h.Ns mainGlobals mg → mg d.name = some (.ref fa) → LawDef l.prog w (K w.params) mg k fa x (want (K w.params)))
    (hw : ∀ (K : PySem.W.Frag) (H : Hp) (a : Addr) (ns : List Int), ns.length ≤ n → (∀ z ∈ ns, Builtin.Int.intBits z ≤ 1048576) → SqL K H a (ns.map V.int) → want K H a ns) :
    PySem.W.WalkO q loose XP YP l.row.toRowW d [] (fun f vs => PySem.call f vs) :=
  Att.attach_callB hn nodef fun w _ _ mg _ fa _ _ _ _ _ _ _ G Y _ _ _ atl ob ia ln bits gn =>
    law_at (hY w _ Y) G.T.g G.T.b G.T.builtins G.T.nolimit gn ob ia (Nat.le_trans ln hz) ro (F w mg fa _ (hY w _ Y) G.T.g atl) fun H sq => hw _ H _ _ ln bits sq
end G2

set_option maxHeartbeats 4000000
namespace G3
open PySem PySem.Spec PyProof.Rows L2
section
variable {X : Cx} {CX : CXT} {k : Nat} {f : Addr} {fd : FuncData} {ps ks : List Str} {sp : Sp} {E : XK} {x : Str} {p pos : Pos} {kws : List Keyword} {tk : TA} {g : List Value → List Value → List Value} {gV : List V → List V → List V}
/-- f(k = v, ..), nothing by place -/
theorem pe_named (F : FnOk X.prog X.w X.K X.mg X.base CX k f fd ps sp) (ro : Room k X.A) (gl : Gl X x) (at0 : X.mg x = some (.ref f)) (kp : PySem.W.keepIn X.K (.ref f) = true) (kb : KBinds X.K fd ps ks g gV) (px : Passes CX X E) (pk : PK X kws tk)
    (h1 : (backToKw pos (keywordEach kws X.env)).all (·.1.isSome) = true := by rfl) (h2 : (backToKw pos (keywordEach kws X.env)).filterMap (·.1) = ks := by rfl) (h3 : (x == ("__debug__" : Str)) = false := by decide)
    (h4 : ((backTo pos (starEach [] X.env)).any (·.1) || (backToKw pos (keywordEach kws X.env)).any (·.1.isNone)) = false := by rfl) :
    PE X (.Call (.Name x p) [] kws pos) (tCallK sp gV E tNil tk) := by
  refine ⟨fun pins s σ H Q I hyp => wpAny_Call_Name_kw (ld_glob I gl at0 ?_ h3)⟩
  refine PySem.W.callWith_KW0 (h₀ := X.base) I.ok.mod.kin kp h1 (thn (pk.run pos pins s σ H _ I hyp) fun ws s2 ⟨zs, H2, I2, rz, q2⟩ => ⟨I2.kIn, ?_⟩) h4
  rw [h2]
  exact run_fnk (us := []) (vs := []) F ro kb px I2 .nil rz q2
end
/-! heaps -/
theorem same_refl {H : Hp} : Same H H := fun _ _ e => e
theorem same_new {H : Hp} {p : Addr} {o : HO} (h : H p = none) : Same H (upd H p o) := fun b x e => by
  rw [upd_ne (ne_of_none e h)]
  exact e
/-- a store at what was not there at first -/
theorem same_put {H H1 : Hp} {p : Addr} {o : HO} (s : Same H H1) (h : H p = none) : Same H (upd H1 p o) := fun b x e => by
  rw [upd_ne (ne_of_none e h)]
  exact s b x e
theorem same_none {H H1 : Hp} {p : Addr} (s : Same H H1) (h : H1 p = none) : H p = none := by
  cases e : H p with
  | none => rfl
  | some o => rw [s _ _ e] at h; cases h
end G3

set_option maxHeartbeats 4000000
namespace G4
open PySem PySem.Spec PyProof.Rows L2
/-! data that is shown and compared: short leaves, no dicts -/
def nice (d : PyData) : Bool := d.showable && (d.canLay0 && d.leavesShort 13)
theorem nice_show {d : PyData} (h : nice d = true) : d.showable = true := (Bool.and_eq_true_iff.mp h).1
theorem nice_lay {d : PyData} (h : nice d = true) : d.canLay0 = true := (Bool.and_eq_true_iff.mp (Bool.and_eq_true_iff.mp h).2).1
theorem nice_short {d : PyData} (h : nice d = true) : d.leavesShort 13 = true := (Bool.and_eq_true_iff.mp (Bool.and_eq_true_iff.mp h).2).2
theorem nice_mk {d : PyData} (a : d.showable = true) (b : d.canLay0 = true) (c : d.leavesShort 13 = true) : nice d = true := by
  unfold nice
  rw [a, b, c]
  rfl
theorem nice_all : ∀ xs : List PyData, (∀ x ∈ xs, nice x = true) → PyData.showableAll xs = true ∧ PyData.canLayAll0 xs = true ∧ PyData.leavesShortAll 13 xs = true
  | [], _ => by simp only [PyData.showableAll, PyData.canLayAll0, PyData.leavesShortAll]; exact ⟨trivial, trivial, trivial⟩
  | x :: xs, h => by
    have hx := h x List.mem_cons_self
    have ih := nice_all xs fun y hy => h y (List.mem_cons_of_mem _ hy)
    simp only [PyData.showableAll, PyData.canLayAll0, PyData.leavesShortAll, nice_show hx, nice_lay hx, nice_short hx, ih.1, ih.2.1, ih.2.2, Bool.and_self]
    exact ⟨trivial, trivial, trivial⟩
theorem nice_list {xs : List PyData} (h : ∀ x ∈ xs, nice x = true) : nice (.list xs) = true := by
  have q := nice_all xs h
  exact nice_mk (by simp only [PyData.showable]; exact q.1) (by simp only [PyData.canLay0]; exact q.2.1) (by simp only [PyData.leavesShort]; exact q.2.2)
theorem nice_tuple {xs : List PyData} (h : ∀ x ∈ xs, nice x = true) : nice (.tuple xs) = true := by
  have q := nice_all xs h
  exact nice_mk (by simp only [PyData.showable]; exact q.1) (by simp only [PyData.canLay0]; exact q.2.1) (by simp only [PyData.leavesShort]; exact q.2.2)
theorem nice_none : nice .none = true := nice_mk (by simp only [PyData.showable]) (by simp only [PyData.canLay0]) (by simp only [PyData.leavesShort])
theorem nice_bool (b : Bool) : nice (.bool b) = true := nice_mk (by simp only [PyData.showable]) (by simp only [PyData.canLay0]) (by simp only [PyData.leavesShort])
theorem int_few : ∀ n : Nat, n < 200 → nice (.int (n - 100)) = true := by decide +kernel
theorem nice_int {i : Int} (h : -100 ≤ i) (h2 : i < 100) : nice (.int i) = true := by
  have q := int_few (i + 100).toNat (by omega)
  have e : (((i + 100).toNat : Nat) : Int) - 100 = i := by omega
  rw [e] at q
  exact q
theorem depth_all {k : Nat} : ∀ xs : List PyData, (∀ x ∈ xs, x.depth ≤ k) → PyData.depthAll xs ≤ k
  | [], _ => by simp only [PyData.depthAll]; exact Nat.zero_le _
  | x :: xs, h => by
    simp only [PyData.depthAll]
    exact Nat.max_le.mpr ⟨h x List.mem_cons_self, depth_all xs fun y hy => h y (List.mem_cons_of_mem _ hy)⟩
theorem depth_list {k : Nat} {xs : List PyData} (h : ∀ x ∈ xs, x.depth ≤ k) : (PyData.list xs).depth ≤ k + 1 := by
  simp only [PyData.depth]
  exact Nat.add_le_add_right (depth_all xs h) 1
theorem depth_tuple {k : Nat} {xs : List PyData} (h : ∀ x ∈ xs, x.depth ≤ k) : (PyData.tuple xs).depth ≤ k + 1 := by
  simp only [PyData.depth]
  exact Nat.add_le_add_right (depth_all xs h) 1
theorem bulk_all {m : Nat} : ∀ xs : List PyData, (∀ x ∈ xs, x.bulk ≤ m) → PyData.bulkAll xs ≤ (m + 1) * xs.length
  | [], _ => by simp only [PyData.bulkAll]; exact Nat.zero_le _
  | x :: xs, h => by
    have h1 := h x List.mem_cons_self
    have ih := bulk_all xs fun y hy => h y (List.mem_cons_of_mem _ hy)
    simp only [PyData.bulkAll, List.length_cons]
    rw [Nat.mul_add]
    omega
theorem bulk_list {m n : Nat} {xs : List PyData} (h : ∀ x ∈ xs, x.bulk ≤ m) (hn : xs.length ≤ n) : (PyData.list xs).bulk ≤ (m + 1) * n := by
  simp only [PyData.bulk]
  exact Nat.le_trans (bulk_all xs h) (Nat.mul_le_mul_left _ hn)
theorem bulk_tuple {m n : Nat} {xs : List PyData} (h : ∀ x ∈ xs, x.bulk ≤ m) (hn : xs.length ≤ n) : (PyData.tuple xs).bulk ≤ (m + 1) * n := by
  simp only [PyData.bulk]
  exact Nat.le_trans (bulk_all xs h) (Nat.mul_le_mul_left _ hn)
theorem nice_fits {d : PyData} (h : nice d = true) (hb : d.bulk ≤ 2 ^ 20) : d.shown.length ≤ sizeLine := PyData.shown_fits_bulk (B := 13) (by decide) (by decide) (nice_short h) hb
theorem nice_shaped {d : PyData} (h : nice d = true) (hd : d.depth ≤ 60) : SeqAt.shaped d = true := by
  unfold SeqAt.shaped
  rw [nice_lay h, decide_eq_true (show d.depth ≤ 64 by omega)]
  rfl
theorem dpAll_map {α : Type} {K : PySem.W.Frag} {H : Hp} {f : α → V} {g : α → PyData} : ∀ xs : List α, (∀ x ∈ xs, Dp K H (f x) (g x)) → DpAll K H (xs.map f) (xs.map g)
  | [], _ => .nil
  | x :: xs, h => .cons (h x List.mem_cons_self) (dpAll_map xs fun y hy => h y (List.mem_cons_of_mem _ hy))
end G4

set_option maxHeartbeats 4000000
namespace N1
open PySem PySem.Spec PyProof.Rows L2 G3
section
variable {X : Cx}
/-- a < b, data of any depth that are alike -/
def rLtDp (K : PySem.W.Frag) : R2 := fun x y H Q => ∃ d e, Dp K H x d ∧ Dp K H y e ∧ PySem.W.alike d e = true ∧ d ≠ .none ∧ d.depth ≤ 60 ∧ Q (.bl (PySem.W.dataLt d e)) H
theorem op_ltDp (hu : X.A.units + 64 < cLine) : OpR X (compareOp .Lt) (rLtDp X.K) := by
  intro pins s σ H x y v u Q I rx ry h
  obtain ⟨d, e, hd, he, al, nn, dep, q⟩ := h
  obtain ⟨as, r1⟩ := Dp.reads I d x v hd rx
  obtain ⟨bs, r2⟩ := Dp.reads I e y u he ry
  exact PySem.W.lt_data r1 r2 al nn (by have := Nat.min_le_left d.depth e.depth; omega) ⟨.bl _, H, I, rfl, q⟩
theorem each_rel : ∀ {bs : List (V × PyData)} {us : List Value}, Vals (bs.map (·.1)) us → PySem.W.EachIs (fun v (b : V × PyData) => RelV b.1 v) us bs
  | [], _, .nil => .nil
  | _ :: _, _, .cons r t => .cons r (each_rel t)
theorem rel_each {us : List Value} {bs : List (V × PyData)} (h : PySem.W.EachIs (fun v (b : V × PyData) => RelV b.1 v) us bs) : Vals (bs.map (·.1)) us := by
  induction h with
  | nil => exact .nil
  | cons r _ ih => exact .cons r ih
theorem each_reads {pins : List (Addr × Obj)} {σ : L2.St} {H : Hp} {s : Shared} (I : Inv X pins σ H s) : ∀ {bs : List (V × PyData)} {us : List Value}, Vals (bs.map (·.1)) us → (∀ b ∈ bs, Dp X.K H b.1 b.2) → PySem.W.EachIs (fun v (b : V × PyData) => ∃ as, Reads s.heap v b.2 as) us bs
  | [], _, .nil, _ => .nil
  | b :: bs, _, .cons r t, h => .cons (Dp.reads I b.2 b.1 _ (h b List.mem_cons_self) r) (each_reads I t fun c hc => h c (List.mem_cons_of_mem _ hc))
/-- sorted(xs), data of any depth that are alike -/
def rSortD (K : PySem.W.Frag) : List V → Hp → VK → Prop := fun vs H Q => ∃ (a : Addr) (bs : List (V × PyData)), vs = [.ref a] ∧ SqL K H a (bs.map (·.1)) ∧ (∀ b ∈ bs, Dp K H b.1 b.2 ∧ b.2.depth ≤ 60) ∧ PySem.W.AllAlike (bs.map (·.2)) ∧ PySem.W.Sortable (bs.map (·.2)) ∧
  ∀ p, H p = none → Q (.ref p) (upd H p (.lst ((bs.mergeSort (PySem.W.dataLe false (·.2))).map (·.1))))
theorem cr_sortedD (hu : X.A.units + 64 < cLine) : CallR X (.builtin "sorted") (rSortD X.K) := by
  intro pins s σ H vs us Q I r h
  obtain ⟨a, bs, rfl, hs, hd, al, so, q⟩ := h
  obtain ⟨its, rv, hl, hz⟩ := I.list hs
  obtain ⟨u, rfl, ru⟩ := vals1 r
  obtain rfl : u = Value.ref a := ru
  rw [List.length_map] at hz
  refine PySem.W.sorted_data (enc := fun b : V × PyData => b.2) hl.isList (each_rel rv) (each_reads I rv fun b hb => (hd b hb).1) al so hz (fun b hb => by have := (hd b hb).2; omega) fun out ho eo => ?_
  obtain ⟨n, hn⟩ := sortedAll_at s.heap its out.toArray
  refine ⟨.ref (s.heap.objs.size + 1), _, I.laid (t' := s.toks) (o := .lst ((bs.mergeSort (PySem.W.dataLe false (·.2))).map (·.1))) (fun b o e => sortedAll_old e) (Nat.le_succ _) ⟨?_, out, n, rel_each eo, hn⟩, rfl, q _ (I.hok.fresh (Nat.le_succ _))⟩
  rw [List.length_map, List.length_mergeSort]
  exact hz
end
end N1

set_option maxHeartbeats 4000000
namespace M0
open PySem PySem.Spec PyProof.Rows L2 G3 G4
/-! what a value reads as, from one heap to another -/
theorem same_tup {K : PySem.W.Frag} {H H' : Hp} {a : Addr} {xs : List V} (e : Same H H') (h : SqT K H a xs) : SqT K H' a xs := by
  rcases h with (h | ⟨o, h⟩) | h
  · exact .inl (.inl (e _ _ h))
  · exact .inl (.inr ⟨o, e _ _ h⟩)
  · exact .inr h
mutual
theorem dp_same {K : PySem.W.Frag} {H H' : Hp} (e : Same H H') : ∀ (d : PyData) (v : V), Dp K H v d → Dp K H' v d
  | .none, _, h => by cases h; exact .non
  | .bool _, _, h => by cases h; exact .bl _
  | .int _, _, h => by cases h; exact .int _
  | .str _, _, h => by cases h; exact .str _
  | .list ds, _, h => by
    cases h with
    | lst hs ha => exact .lst (e.seq hs) (dpAll_same e ds _ ha)
  | .tuple ds, _, h => by
    cases h with
    | tup hs ha => exact .tup (same_tup e hs) (dpAll_same e ds _ ha)
  | .dict _, _, h => by cases h
theorem dpAll_same {K : PySem.W.Frag} {H H' : Hp} (e : Same H H') : ∀ (ds : List PyData) (vs : List V), DpAll K H vs ds → DpAll K H' vs ds
  | [], _, h => by cases h; exact .nil
  | d :: ds, _, h => by
    cases h with
    | cons h1 h2 => exact .cons (dp_same e d _ h1) (dpAll_same e ds _ h2)
end
theorem dpAll_len {K : PySem.W.Frag} {H : Hp} : ∀ {vs : List V} {ds : List PyData}, DpAll K H vs ds → vs.length = ds.length
  | _, _, .nil => rfl
  | _, _, .cons _ t => congrArg (· + 1) (dpAll_len t)
theorem dpAll_get {K : PySem.W.Frag} {H : Hp} : ∀ {vs : List V} {ds : List PyData} {i : Nat} {v : V}, DpAll K H vs ds → vs[i]? = some v → ∃ d, ds[i]? = some d ∧ Dp K H v d
  | _, _, _, _, .nil, e => by simp at e
  | _, _, 0, _, .cons h _, e => by
    simp only [List.getElem?_cons_zero, Option.some.injEq] at e
    subst e
    exact ⟨_, rfl, h⟩
  | _, _, i + 1, _, .cons _ t, e => by
    simp only [List.getElem?_cons_succ] at e
    obtain ⟨d, h1, h2⟩ := dpAll_get t e
    exact ⟨d, h1, h2⟩
theorem dpAll_getD {K : PySem.W.Frag} {H : Hp} : ∀ {vs : List V} {ds : List PyData} {i : Nat} {d : PyData}, DpAll K H vs ds → ds[i]? = some d → ∃ v, vs[i]? = some v ∧ Dp K H v d
  | _, _, _, _, .nil, e => by simp at e
  | _, _, 0, _, .cons h _, e => by
    simp only [List.getElem?_cons_zero, Option.some.injEq] at e
    subst e
    exact ⟨_, rfl, h⟩
  | _, _, i + 1, _, .cons _ t, e => by
    simp only [List.getElem?_cons_succ] at e
    obtain ⟨d, h1, h2⟩ := dpAll_getD t e
    exact ⟨d, h1, h2⟩
theorem dpAll_app {K : PySem.W.Frag} {H : Hp} : ∀ {vs ws : List V} {ds es : List PyData}, DpAll K H vs ds → DpAll K H ws es → DpAll K H (vs ++ ws) (ds ++ es)
  | _, _, _, _, .nil, h => h
  | _, _, _, _, .cons h t, g => .cons h (dpAll_app t g)
theorem dpAll_take {K : PySem.W.Frag} {H : Hp} : ∀ {vs : List V} {ds : List PyData} (n : Nat), DpAll K H vs ds → DpAll K H (vs.take n) (ds.take n)
  | _, _, 0, _ => by simp only [List.take_zero]; exact .nil
  | _, _, _ + 1, .nil => by simp only [List.take_nil]; exact .nil
  | _, _, n + 1, .cons h t => by simp only [List.take_succ_cons]; exact .cons h (dpAll_take n t)
theorem dpAll_drop {K : PySem.W.Frag} {H : Hp} : ∀ {vs : List V} {ds : List PyData} (n : Nat), DpAll K H vs ds → DpAll K H (vs.drop n) (ds.drop n)
  | _, _, 0, h => h
  | _, _, _ + 1, .nil => by simp only [List.drop_nil]; exact .nil
  | _, _, n + 1, .cons _ t => by simp only [List.drop_succ_cons]; exact dpAll_drop n t
theorem dpAll_rev {K : PySem.W.Frag} {H : Hp} : ∀ {vs : List V} {ds : List PyData}, DpAll K H vs ds → DpAll K H vs.reverse ds.reverse
  | _, _, .nil => .nil
  | _, _, .cons h t => by
    rw [List.reverse_cons, List.reverse_cons]
    exact dpAll_app (dpAll_rev t) (.cons h .nil)
theorem dpAll_set {K : PySem.W.Frag} {H : Hp} {v : V} {d : PyData} (hv : Dp K H v d) : ∀ {vs : List V} {ds : List PyData} (n : Nat), DpAll K H vs ds → DpAll K H (vs.set n v) (ds.set n d)
  | _, _, _, .nil => by simp only [List.set_nil]; exact .nil
  | _, _, 0, .cons h t => by simp only [List.set_cons_zero]; exact .cons hv t
  | _, _, n + 1, .cons h t => by simp only [List.set_cons_succ]; exact .cons h (dpAll_set hv n t)
/-! which class a value is of -/
def tyName : PyData → String
  | .none => "NoneType"
  | .bool _ => "bool"
  | .int _ => "int"
  | .str _ => "str"
  | .list _ => "list"
  | .tuple _ => "tuple"
  | .dict _ => "dict"
theorem dp_ty {K : PySem.W.Frag} {H : Hp} {v : V} {d : PyData} (h : Dp K H v d) : TyX K H v (.type (tyName d)) := by
  cases h with
  | non => exact .base .non
  | bl b => exact .base (.bl b)
  | int i => exact .base (.int i)
  | str x => exact .base (.str x)
  | lst hs _ =>
    rcases hs with (h | ⟨o, h⟩) | ⟨o, _, _, h, c, _⟩
    · exact .base (.lst h)
    · exact .base (.frz h)
    · exact .kList h c
  | tup hs _ =>
    rcases hs with (h | ⟨o, h⟩) | ⟨o, _, _, h, c, _⟩
    · exact .base (.tup h)
    · exact .fTuple h
    · exact .kTuple h c
def isInt : PyData → Bool
  | .bool _ => true
  | .int _ => true
  | _ => false
def isBool : PyData → Bool
  | .bool _ => true
  | _ => false
def isTup : PyData → Bool
  | .tuple _ => true
  | _ => false
theorem kit_int (K : PySem.W.Frag) {v : V} {H : Hp} {d : PyData} (h : Dp K H v d) : PySem.W.kitOne K (.type (tyName d)) (.type "int") = some (isInt d) := by
  cases h <;> kernel_rfl
theorem kit_bool (K : PySem.W.Frag) {v : V} {H : Hp} {d : PyData} (h : Dp K H v d) : PySem.W.kitOne K (.type (tyName d)) (.type "bool") = some (isBool d) := by
  cases h <;> kernel_rfl
theorem kit_tup (K : PySem.W.Frag) {v : V} {H : Hp} {d : PyData} (h : Dp K H v d) : PySem.W.kitOne K (.type (tyName d)) (.type "tuple") = some (isTup d) := by
  cases h <;> kernel_rfl
/-! sizes -/
theorem bulk_mem {d : PyData} : ∀ {ds : List PyData}, d ∈ ds → d.bulk ≤ PyData.bulkAll ds
  | _ :: ds, h => by
    simp only [PyData.bulkAll]
    rcases List.mem_cons.mp h with e | h
    · subst e; omega
    · have := bulk_mem h; omega
theorem bulk_len : ∀ ds : List PyData, ds.length ≤ PyData.bulkAll ds
  | [] => Nat.zero_le _
  | d :: ds => by
    have := bulk_len ds
    simp only [PyData.bulkAll, List.length_cons]
    omega
/-! what stands beside the pool -/
def off (p : Addr) (H : Hp) : Hp := fun b => if b = p then none else H b
theorem off_upd {p : Addr} {H : Hp} {o : HO} : off p (upd H p o) = off p H := by
  funext b
  unfold off
  by_cases e : b = p
  · rw [if_pos e, if_pos e]
  · rw [if_neg e, if_neg e, upd_ne e]
theorem off_sub {p : Addr} {H : Hp} : Same (off p H) H := fun b o e => by
  unfold off at e
  by_cases z : b = p
  · rw [if_pos z] at e; cases e
  · rw [if_neg z] at e; exact e
theorem off_ne {p b : Addr} {H : Hp} (z : b ≠ p) : off p H b = H b := if_neg z
theorem off_mono {p : Addr} {H H' : Hp} (e : Same H H') : Same (off p H) (off p H') := fun b o h => by
  by_cases z : b = p
  · unfold off at h; rw [if_pos z] at h; cases h
  · rw [off_ne z] at h ⊢; exact e b o h
theorem off_new {p : Addr} {H : Hp} {o : HO} (h : H p = none) : Same H (off p (upd H p o)) := fun b x e => by
  have z : b ≠ p := ne_of_none e h
  rw [off_ne z, upd_ne z]
  exact e
end M0

set_option maxHeartbeats 4000000
/-! what any law about programs needs: dead branches, d.copy(), programs as data -/
namespace PA
open PySem PySem.Spec PyProof.Rows L2 G3 M0
section
variable {X : Cx}
/-- what is never come to -/
theorem ps_dead {st : Stmt} : PS X st (fun _ _ _ => False) := ⟨fun _ _ _ _ _ _ h => h.elim⟩
theorem pe_dead {e : Expr} : PE X e (fun _ _ _ => False) := ⟨fun _ _ _ _ _ _ h => h.elim⟩
/-- d.copy() -/
theorem mt_copy : MtR X "dict.copy" (fun x xs H Q => ∃ a kvs, x = .ref a ∧ xs = [] ∧ H a = some (.dK kvs) ∧ ∀ p, H p = none → Q (.ref p) (upd H p (.dK kvs))) := by
  intro pins s σ H x xs v us Q I rx rs h
  obtain ⟨a, kvs, rfl, rfl, ha, q⟩ := h
  obtain rfl : v = Value.ref a := rx
  cases rs
  obtain ⟨z, hd, vs, rel, dd⟩ := dk_rd I.hok (.inl ha)
  refine call_meetsIn F.slot_dict_copy dd.typeIs F.entry_dict_copy (F.args_dict_copy_1 _) (meets_dict_copy (mixKind X.prog X.w) a hd) ⟨vs, dd, by rw [← rel.length]; exact z, fun h' dn _ keep => ?_⟩
  refine ⟨.ref s.heap.objs.size, _, I.laid (a := s.heap.objs.size) (o := .dK kvs) (t' := s.toks) keep (Nat.le_refl _) (dk_new z (beq_eq_false_iff_ne.mpr (Ne.symm (Nat.ne_of_lt I.big))) rel dn), rfl, q _ (I.hok.fresh (Nat.le_refl _))⟩
end
/-- a def that is never called -/
theorem fn_never {P : Program} {w : World} {K : PySem.W.Frag} {mg : Str → Option Value} {base : Heap} {CX : CXT} {k : Nat} {f : Addr} {fd : FuncData} {ps : List Str} : FnOk P w K mg base CX k f fd ps (fun _ _ _ _ => False) :=
  ⟨fun _ _ _ _ h => h.elim, fun _ _ _ _ _ _ _ _ _ _ _ _ _ h => h.elim⟩
theorem take_fresh {α β : Type} (f : α → β) {l : List α} {i : Nat} {b : α} (nd : (l.map f).Nodup) (h : l[i]? = some b) : ∀ e ∈ l.take i, f e ≠ f b := by
  have hi := (List.getElem?_eq_some_iff.mp h).1
  have e1 : l.map f = (l.take i).map f ++ (l.drop i).map f := by rw [← List.map_append, List.take_append_drop]
  rw [e1, List.nodup_append] at nd
  intro e he
  refine nd.2.2 _ (List.mem_map_of_mem he) _ (List.mem_map_of_mem ?_)
  rw [List.drop_eq_getElem_cons hi, (List.getElem?_eq_some_iff.mp h).2]
  exact List.mem_cons_self
/-! ### programs -/
inductive Src where
  | to (n : Int)
  | of (b : Str)
  | on (n : Int)
  | any
inductive Row where
  | set (b : Str) (s : Src)
  | ift (b : Str) (v r : Int)
  | go (rs : List Int)
  | call (t : Str)
  | back
  | wait (b : Str) (v : Int)
  | begin (h : Str)
  | fault
abbrev Box := Str × Int
abbrev Text := Str × List Row
abbrev Hand := Str × List Box × List Text
abbrev Prog := List Box × List Hand
def Src.data : Src → PyData
  | .to n => .tuple [.str "to", .int n]
  | .of b => .tuple [.str "of", .str b]
  | .on n => .tuple [.str "on", .int n]
  | .any => .tuple [.str "any"]
def Row.data : Row → PyData
  | .set b s => .tuple [.str "set", .str b, s.data]
  | .ift b v r => .tuple [.str "if", .str b, .int v, .int r]
  | .go rs => .tuple [.str "go", .tuple (rs.map .int)]
  | .call t => .tuple [.str "call", .str t]
  | .back => .tuple [.str "back"]
  | .wait b v => .tuple [.str "wait", .str b, .int v]
  | .begin h => .tuple [.str "begin", .str h]
  | .fault => .tuple [.str "fault"]
def boxD (b : Box) : PyData := .tuple [.str b.1, .int b.2]
def boxesD (bs : List Box) : PyData := .tuple (bs.map boxD)
def rowsD (rs : List Row) : PyData := .tuple (rs.map Row.data)
def textD (t : Text) : PyData := .tuple [.str t.1, rowsD t.2]
def handD (h : Hand) : PyData := .tuple [.str h.1, boxesD h.2.1, .tuple (h.2.2.map textD)]
def progD (p : Prog) : PyData := .tuple [boxesD p.1, .tuple (p.2.map handD)]
/-- small letters, one to eight -/
def nameB (z : Str) : Bool := decide (z.length ≤ 8) && (Txt.isascii z && (Txt.isalpha z && Txt.islower z))
def size? (bs : List Box) (b : Str) : Option Int := (bs.find? fun x => decide (x.1 = b)).map (·.2)
def SrcOk (bs : List Box) (b : Str) (size : Int) : Src → Prop
  | .to n => 0 ≤ n ∧ n < size
  | .of o => o ≠ b ∧ ∃ m, size? bs o = some m ∧ m ≤ size
  | .on n => 1 ≤ n ∧ n ≤ 3
  | .any => True
def Rising (a : Int) : List Int → Prop
  | [] => True
  | b :: r => a < b ∧ Rising b r
def RowOk (bs : List Box) (titles others : List Str) (many : Int) : Row → Prop
  | .set b s => ∃ n, size? bs b = some n ∧ SrcOk bs b n s
  | .ift b v r => ∃ n, size? bs b = some n ∧ 0 ≤ v ∧ v < n ∧ 0 ≤ r ∧ r ≤ many
  | .go rs => 1 ≤ rs.length ∧ rs.length ≤ 4 ∧ Rising (-1) rs ∧ ∀ r ∈ rs, r ≤ many
  | .call t => t ∈ titles
  | .back => True
  | .wait b v => ∃ n, size? bs b = some n ∧ 0 ≤ v ∧ v < n
  | .begin h => h ∈ others
  | .fault => True
structure BoxesOk (bs : List Box) (most : Nat) (great : Int) (ahead : List Str) : Prop where
  len : bs.length ≤ most
  nm : ∀ b ∈ bs, nameB b.1 = true ∧ 1 ≤ b.2 ∧ b.2 ≤ great ∧ b.1 ∉ ahead
  nd : (bs.map (·.1)).Nodup
structure TextsOk (bs : List Box) (others : List Str) (ts : List Text) : Prop where
  one : 1 ≤ ts.length
  few : ts.length ≤ 32
  nm : ∀ t ∈ ts, nameB t.1 = true ∧ 1 ≤ t.2.length ∧ t.2.length ≤ 2000
  nd : (ts.map (·.1)).Nodup
  row : ∀ t ∈ ts, ∀ r ∈ t.2, RowOk bs (ts.map (·.1)) others t.2.length r
structure ProgOk (p : Prog) : Prop where
  box : BoxesOk p.1 8 4 []
  one : 1 ≤ p.2.length
  few : p.2.length ≤ 4
  nm : ∀ h ∈ p.2, nameB h.1 = true
  nd : (p.2.map (·.1)).Nodup
  own : ∀ h ∈ p.2, BoxesOk h.2.1 24 8 (p.1.map (·.1))
  txt : ∀ h ∈ p.2, TextsOk (p.1 ++ h.2.1) ((p.2.map (·.1)).filter fun z => decide (z ≠ h.1)) h.2.2
end PA

set_option maxHeartbeats 4000000
namespace E1
open PySem PySem.W Builtin Builtin.ObjectAttr
section
variable {prog : Program} {w : World} {A : Around} {R : Result → Shared → Prop} {hp : Heap} {g : Array GenState} {d : Drawn} {t : Nat} {os : OsState}
/-- the first field of an own error's object -/
theorem field_first {B : String} {bmB : List Value} {K : Frag} {name : Str} {tk : Tok} {v : Value} {x C : Addr} {fv : Array Value} {cd : ClassData} (SF : StoreFacts B bmB "object.__setattr__" "object")
    (X : K.In hp) (at0 : hp.get? x = some { cls := .ref C, data := .fields fv }) (cl : clsIn K C = some cd) (has : cd.hasDict = true) (ov : excOver K C bmB = true) (tak : takerIn K C name = some none)
    (go : ∀ h' tk' dx, (∀ b o, b ≠ x → hp.get? b = some o → h'.get? b = some o) → hp.objs.size ≤ dx → dx ≠ x → h'.get? x = some { cls := .ref C, dict := some dx, data := .fields fv } →
      h'.Ns1 dx (fun y => if y = name then some v else none) → R (.ok (.ret .none)) ⟨h', g, d, tk', os⟩) :
    codeAny (model prog w) A (.call (.builtin "object.__setattr__") ⟨[.ref x, .str name tk, v], []⟩) R ⟨hp, g, d, t, os⟩ := by
  have I : InstAt hp x { cls := .ref C, data := .fields fv } C none := ⟨at0, rfl, rfl, trivial⟩
  have xs : x ≠ hp.objs.size := Nat.ne_of_lt (Heap.lt_size at0)
  have data : Looks (model prog w) hp (classData C) cd := looks_clsIn X cl
  refine osa_openX (s := ⟨hp, g, d, t, os⟩) SF X I ov tak fun b => ?_
  show wpAny _ _ (storeInOwnDict (.ref x) (.ref C) (.str name tk) name v b) _ _ _
  obtain ⟨nm, bs, mro, ns, qn, hd, sn, sb, ab, col, del⟩ := cd
  dsimp only at has
  subst has
  unfold storeInOwnDict ownDictForStores
  repeat (first | with_reducible refine HandSPX.store_in_new ?_ ?_ | with_reducible refine wpAny_loadPart_at at0 ?_ | with_reducible refine data.at ?_ | wp_step)
  · exact ⟨_, #[], _, (Heap.get?_update_ne _ _ _ _ xs.symm).trans (Heap.get?_push_at rfl rfl), rfl, fun e he => absurd he (by simp), fun _ => rfl⟩
  · intro h' tk' isNs but
    have at1 : (hp.push { cls := .type "dict", data := .dict #[] }).get? x = some { cls := .ref C, data := .fields fv } := Heap.get?_push_of_some _ at0
    refine go h' tk' hp.objs.size (fun b o nb ob => ?_) (Nat.le_refl _) xs.symm ?_ isNs
    · exact (but.2 b (Nat.ne_of_lt (Heap.lt_size ob))).trans ((Heap.get?_update_ne _ _ _ _ nb).trans (Heap.get?_push_of_some _ ob))
    · exact (but.2 x xs).trans (Heap.get?_update_self _ at1 rfl)
/-- a further one -/
theorem field_more {B : String} {bmB : List Value} {K : Frag} {name : Str} {tk : Tok} {v : Value} {x C dx : Addr} {fv : Array Value} {cd : ClassData} {m0 : Str → Option Value} {nl : List Str} (SF : StoreFacts B bmB "object.__setattr__" "object")
    (X : K.In hp) (at0 : hp.get? x = some { cls := .ref C, dict := some dx, data := .fields fv }) (nsD : hp.Ns1 dx m0) (wi : Within m0 nl) (few : nl.length ≤ 1000) (cl : clsIn K C = some cd) (has : cd.hasDict = true) (ov : excOver K C bmB = true) (tak : takerIn K C name = some none)
    (go : ∀ h' tk', (∀ b o, b ≠ dx → hp.get? b = some o → h'.get? b = some o) → h'.Ns1 dx (fun y => if y = name then some v else m0 y) → R (.ok (.ret .none)) ⟨h', g, d, tk', os⟩) :
    codeAny (model prog w) A (.call (.builtin "object.__setattr__") ⟨[.ref x, .str name tk, v], []⟩) R ⟨hp, g, d, t, os⟩ := by
  obtain ⟨oD, esD, epD, hoD, hdD, _⟩ := nsD.count wi
  have I : InstAt hp x { cls := .ref C, dict := some dx, data := .fields fv } C (some oD) := ⟨at0, rfl, rfl, hoD⟩
  have data : Looks (model prog w) hp (classData C) cd := looks_clsIn X cl
  refine osa_openX (s := ⟨hp, g, d, t, os⟩) SF X I ov tak fun b => ?_
  show wpAny _ _ (storeInOwnDict (.ref x) (.ref C) (.str name tk) name v b) _ _ _
  obtain ⟨nm, bs, mro, ns, qn, hd, sn, sb, ab, col, del⟩ := cd
  dsimp only at has
  subst has
  unfold storeInOwnDict ownDictForStores
  repeat (first | with_reducible refine OEX.store_in_old nsD wi few ?_ | with_reducible refine wpAny_loadPart_at at0 ?_ | with_reducible refine data.at ?_ | wp_step)
  intro h' tk' isNs but
  exact go h' tk' (fun b o nb ob => (but.2 b nb).trans ob) isNs
end
end E1

set_option maxHeartbeats 4000000
namespace E2
open PySem PySem.Spec PyProof.Rows L2
/-- what is needed of a built-in __init__ -/
structure InitF (cls initId : String) : Prop where
  kind : builtinKind initId = some .slot
  row : Manifest.signature? initId = some ⟨.positional, "*", cls, .self, [⟨"args", .varPos, false⟩]⟩
  star : (cls != "*") = true
  plain : plainId initId = true
  entry : entryFor table initId = some Builtin.«BaseException.__init__»
theorem InitF.of {cls newId initId : String} (F : ExcCallFacts cls newId initId) : InitF cls initId := ⟨F.initKind, F.initRow, F.noStar, F.init.plain, F.initEntry⟩
/-- the built-in class that own error classes stand under: B gives __new__, Bs is the class itself, bmB its order -/
structure Under (B newId initId Bs : String) (bmB : List Value) : Prop where
  eb : ∃ i bmE, ExcBaseFacts B newId i bmE
  inf : InitF Bs initId
  kx : PySem.W.KxsFacts Bs initId
  sf : StoreFacts Bs bmB "object.__setattr__" "object"
  hasB : bmB.contains (.type B) = true
  noA : bmB.contains (.type "AttributeError") = false
  noN : bmB.contains (.type "NameError") = false
/-- what the written part says of an own error class at C, its __init__ at fI -/
structure ExC (K : PySem.W.Frag) (C fI : Addr) (B newId initId Bs : String) (bmB : List Value) : Prop where
  un : Under B newId initId Bs bmB
  made : PySem.W.excInitIn K C bmB newId = true
  ov : PySem.W.excOver K C bmB = true
  cls : ∃ cd, PySem.W.clsIn K C = some cd ∧ cd.hasDict = true
  sa : PySem.W.findIn K (.ref C) "__setattr__" = some (some (.builtin "object.__setattr__"))
  ini : PySem.W.findIn K (.ref C) "__init__" = some (some (.ref fI))
  isF : PySem.W.isFn K (.ref fI) = true
  sup : PySem.W.ks_superIn K C C "__init__" = some (some (.builtin initId))
  sub : PySem.W.subIn K (.ref C) (.type Bs) = some true
  self : PySem.W.subIn K (.ref C) (.ref C) = some true
  op : PySem.W.nsIn K cStatics "thirdparty.any" = some none
  exC : PySem.W.subIn K (.ref C) (.type "BaseException") = some true
  tyC : PySem.W.typeIn K (.ref C) = some (.type "type")
  kC : PySem.W.keepIn K (.ref C) = true
section
variable {X : Cx} {pins : List (Addr × Obj)} {σ : L2.St} {H : Hp} {s : Shared} {a C dx : Addr} {f : Str} {y : V} {u : Value} {fs : List (Str × V)} {Q : Unit → Shared → Prop} {E : Value → Shared → Prop} {A : Around} {fI : Addr} {B newId initId Bs : String} {bmB : List Value}
theorem ext_ne {φ : Heap → Prop} {o : HO} (h : ∀ ψ, o ≠ .ext ψ) : HO.ext φ ≠ o := fun z => h φ z.symm
/-- the object gets its dict -/
theorem inv_first {hp h' : Heap} {g : Array GenState} {dr : Drawn} {t tk' : Nat} {os : OsState} {t1 : Addr} {mA : Str → Option Value} (I : Inv X pins σ H ⟨hp, g, dr, t, os⟩) (e : H a = some (exo a C none))
    (k : ∀ b o, b ≠ a → hp.get? b = some o → h'.get? b = some o) (dn : hp.objs.size ≤ dx) (dne : dx ≠ a) (hx : h'.get? a = some ({ cls := .ref C, dict := some dx, data := .fields #[.ref t1, .none, .none, .none, .bool false, .none] } : Obj))
    (hn : h'.Ns1 dx mA) (rel : ∀ f, RelO (fs.lookup f) (mA f)) : H dx = none ∧ Inv X pins σ (upd (upd H dx (exd dx fs)) a (exo a C (some dx))) ⟨h', g, dr, tk', os⟩ := by
  have new : H dx = none := I.hok.fresh dn
  have offD : ∀ {b : Addr} {o : Obj}, hp.get? b = some o → b ≠ dx := fun {b o} q => Nat.ne_of_lt (Nat.lt_of_lt_of_le (Heap.lt_size q) dn)
  have offA : ∀ {b : Addr}, H b = none → b ≠ a := fun {b} n z => by
    rw [z, e] at n
    cases n
  have keepU : ∀ {b : Addr} {o : HO}, H b = some o → (∀ ψ, o ≠ .ext ψ) → upd (upd H dx (exd dx fs)) a (exo a C (some dx)) b = some o := fun {b o} q ne => by
    have ba : b ≠ a := at_ne e q (ext_ne ne)
    rw [upd_ne ba, upd_ne (ne_of_none q new)]
    exact q
  have U : Un X.fs [] H (upd (upd H dx (exd dx fs)) a (exo a C (some dx))) hp h' :=
    { keep := fun b o q n _ _ => k b o (offA n) q
      slot := fun b o q n _ _ => ⟨o.slots, k b o (offA n) q⟩
      free := fun b o q n _ => by
        rw [upd_ne (offA n), upd_ne (offD q)]
        exact n
      there := fun b o q _ => by
        by_cases ba : b = a
        · rw [ba]
          exact ⟨_, hx⟩
        · exact ⟨o, k b o ba q⟩
      tups := fun b xs q => keepU q fun ψ z => by cases z
      frzs := fun b o v q => keepU q fun ψ z => by cases z
      tbls := fun b ps q => ⟨#[], by rw [keepU q fun ψ z => by cases z]; simp⟩ }
  refine ⟨new, I.un (t' := tk') U fun b o q => ?_⟩
  by_cases ba : b = a
  · subst ba
    rw [upd_same] at q
    cases q
    exact exo_ok hx
  · rw [upd_ne ba] at q
    by_cases bd : b = dx
    · subst bd
      rw [upd_same] at q
      cases q
      exact exd_ok hn rel
    · rw [upd_ne bd] at q
      refine (I.hok b o q).stay (fun c v hc z => k c v ?_ z) (fun c hc => keepU hc fun ψ z => by cases z) (fun c xs hc => keepU hc fun ψ z => by cases z)
      rcases hc with hc | hc
      · rw [hc]
        exact ba
      · exact at_ne e hc exo_own
/-- self.f = y, the first -/
theorem keep_first (T : ExC X.K C fI B newId initId Bs bmB) (I : Inv X pins σ H s) (e : H a = some (exo a C none)) (tak : PySem.W.takerIn X.K C f = some none) (ry : RelV y u)
    (go : ∀ dx s', H dx = none → dx ≠ a → Inv X pins σ (upd (upd H dx (exd dx [(f, y)])) a (exo a C (some dx))) s' → Q () s') : wpAny (model X.prog X.w) A (setAttr (.ref a) f u) Q E s := by
  obtain ⟨cd, cl, has⟩ := T.cls
  obtain ⟨t1, at0⟩ := exo_at I.hok e
  obtain ⟨hp, g, dr, t, os⟩ := s
  refine PySem.W.set_plain I.kIn (ox := { cls := .ref C, dict := none, data := .fields #[.ref t1, .none, .none, .none, .bool false, .none] }) (od := none) ⟨at0, rfl, rfl, trivial⟩ T.sa ?_
  refine E1.field_first T.un.sf I.kIn at0 cl has T.ov tak fun h' tk' dx k dn dne hx hn => ?_
  have J := inv_first (tk' := tk') (fs := [(f, y)]) I e k dn dne hx hn (relO_put (fs := []) ry fun _ => True.intro)
  exact go dx _ J.1 dne J.2
/-- self.f = y, a further one -/
theorem keep_more (T : ExC X.K C fI B newId initId Bs bmB) (I : Inv X pins σ H s) (e : H a = some (exo a C (some dx))) (ed : H dx = some (exd dx fs)) (few : fs.length ≤ 900) (tak : PySem.W.takerIn X.K C f = some none) (ry : RelV y u)
    (go : ∀ s', Inv X pins σ (upd H dx (exd dx ((f, y) :: fs))) s' → Q () s') : wpAny (model X.prog X.w) A (setAttr (.ref a) f u) Q E s := by
  obtain ⟨cd, cl, has⟩ := T.cls
  obtain ⟨t1, at0⟩ := exo_at I.hok e
  obtain ⟨mA, nsD, rel⟩ := exd_at I.hok ed
  have wi := within_of rel
  obtain ⟨hp, g, dr, t, os⟩ := s
  obtain ⟨oD, _, _, hoD, _, _⟩ := nsD.count wi
  refine PySem.W.set_plain I.kIn (ox := { cls := .ref C, dict := some dx, data := .fields #[.ref t1, .none, .none, .none, .bool false, .none] }) (od := some oD) ⟨at0, rfl, rfl, hoD⟩ T.sa ?_
  refine E1.field_more T.un.sf I.kIn at0 nsD wi (by rw [List.length_map]; omega) cl has T.ov tak fun h' tk' k hn => ?_
  have there : ∃ o, h'.get? dx = some o := by
    obtain ⟨o, _, _, e', _⟩ := hn
    exact ⟨o, e'⟩
  exact go _ (I.write (t' := tk') (x := dx) (e := dx) (o := exd dx ((f, y) :: fs)) (by rw [ed]; exact True.intro) (.inl rfl) k there (exd_ok hn (relO_put ry rel)))
end
/-- self.f = e in an own error's __init__ -/
def tKeep (K : PySem.W.Frag) (f : Str) (to te : TE) : TS := fun D σ H => te σ H fun y H1 => to σ H1 fun x H2 => ∃ (a C fI : Addr) (B newId initId Bs : String) (bmB : List Value), x = .ref a ∧ ExC K C fI B newId initId Bs bmB ∧ PySem.W.takerIn K C f = some none ∧
  ((H2 a = some (exo a C none) ∧ ∀ dx, H2 dx = none → dx ≠ a → D.nx σ (upd (upd H2 dx (exd dx [(f, y)])) a (exo a C (some dx)))) ∨
    ∃ (dx : Addr) (fs : List (Str × V)), H2 a = some (exo a C (some dx)) ∧ H2 dx = some (exd dx fs) ∧ fs.length ≤ 900 ∧ D.nx σ (upd H2 dx (exd dx ((f, y) :: fs))))
theorem ps_keep {X : Cx} {o e : Expr} {to te : TE} {f : Str} {p' pos : Pos} (ho : PE X o to) (he : PE X e te) (hs : swapsWith e (some (.Attribute o f p')) pos.line X.env = pure false := by rfl) : PS X (.Assign [.Attribute o f p'] e pos) (tKeep X.K f to te) := by
  refine ⟨fun pins s σ H D I hyp => plainObj_wpAny_Assign_Attribute (thn (he.run pins s σ H _ I hyp) fun v s1 ⟨y, H1, I1, r1, q1⟩ => thn (ho.run pins s1 σ H1 _ I1 q1) fun u s2 ⟨x, H2, I2, r2, a, C, fI, B, n, i, b2, bm, ex, T, tak, q⟩ => ?_) hs⟩
  subst ex
  obtain rfl : u = Value.ref a := r2
  rcases q with ⟨ea, q⟩ | ⟨dx, fs, ea, ed, few, q⟩
  · exact keep_first T I2 ea tak r1 fun dx s' n ne J => ⟨σ, _, J, q dx n ne⟩
  · exact keep_more T I2 ea ed few tak r1 fun s' J => ⟨σ, _, J, q⟩
end E2

set_option maxHeartbeats 4000000
namespace E3
open PySem PySem.Spec PyProof.Rows L2 E2
/-- a def within a class that says super(): it keeps the class -/
abbrev fnCl (nm ql : Str) (pr : Arguments) (bd : List Stmt) (sc : Scope) (kV doc pm : Value) (an : Option Addr) (cdv ct : Value) (cl : Addr) : FuncData := { PySem.W.fnOf nm ql pr bd sc .none kV doc pm an cdv ct with closure := [("__class__", cl)] }
structure InitFn (P : Program) (K : PySem.W.Frag) (C f : Addr) (ql : Str) (pr : Arguments) (bd : List Stmt) (sc : Scope) (fd : FuncData) : Prop where
  ex : ∃ (oc kV doc pm cdv ct : Value) (od an : Option Addr) (osl : Array (Option Value)) (cl cc : Addr) (ocl occ : Obj) (vs : Array Value) (file : Str) (tf : Tok),
    fd = fnCl "__init__" ql pr bd sc kV doc pm an cdv ct cl ∧ K.lookup f = some ⟨oc, od, .func fd, osl⟩ ∧ PySem.W.codeIn K cdv ql = true ∧ K.lookup cl = some ocl ∧ ocl.data = .cell (some (.ref C)) ∧
    cdv = .ref cc ∧ K.lookup cc = some occ ∧ occ.data = .fields vs ∧ vs[2]? = some (.str file tf) ∧ ((P.main.file : Str) == file) = true
  top : (P.main.scope.names.lookup ("super" : Str)).isSome = false
/-- its names -/
structure InitScope (N ps : List Str) (sc : Scope) : Prop where
  kind : sc.kind = .function
  co : sc.isCoroutine = false
  gen : sc.isGenerator = false
  nd : N.Nodup
  is : N = ps
  par : ∀ x ∈ ps, sc.names.lookup x = some .local
  nocell : ∀ y ∈ sc.names, y.2 ≠ .cell
  only : ∀ y ∈ sc.names, y.2 = .free → y.1 = Str.ofString "__class__"
  cls : sc.names.lookup (Str.ofString "__class__") = some .free
  sup : sc.names.lookup (Str.ofString "super") = some .globalImplicit
def cxI (P : Program) (w : World) (K : PySem.W.Frag) (mg : Str → Option Value) (base : Heap) (N : List Str) (fd : FuncData) (f : Addr) (A : Around) (outer : List Env) (s : Shared) (H : Hp) : Cx where
  prog := P
  w := w
  K := K
  mg := mg
  base := base
  A := A.deeper (callEnv fd s.heap.objs.size f)
  N := N
  s_0 := s
  H_0 := H
  env := callEnv fd s.heap.objs.size f
  outer := outer
  stack := callEnv fd s.heap.objs.size f :: outer
  ex := []
  calm := true
  fn := fun _ => false
  pn := []
  xe := fun _ _ => False
theorem zip_look : ∀ {ps : List Str} {us : List Value} {i : Nat} {x : Str} {u : Value}, ps.Nodup → ps[i]? = some x → us[i]? = some u → (ps.zip us).reverse.lookup x = some u := by
  intro ps us i x u nd hp hu
  have mem : (x, u) ∈ (ps.zip us).reverse := by
    rw [List.mem_reverse]
    refine List.mem_of_getElem? (i := i) ?_
    rw [List.getElem?_zip_eq_some]
    exact ⟨hp, hu⟩
  have uni : ∀ (l : List (Str × Value)), (∀ v, (x, v) ∈ l → v = u) → (x, u) ∈ l → l.lookup x = some u := by
    intro l
    induction l with
    | nil => intro _ h; cases h
    | cons p l ih =>
      intro h m
      obtain ⟨y, v⟩ := p
      by_cases e : x = y
      · subst e
        rw [List.lookup_cons, beq_self_eq_true]
        exact congrArg some (h v List.mem_cons_self)
      · have e2 : (x == y) = false := by simpa using e
        rw [List.lookup_cons, e2]
        refine ih (fun v' hv => h v' (List.mem_cons_of_mem _ hv)) ?_
        rcases List.mem_cons.mp m with q | q
        · exact absurd (Prod.mk.inj q).1 e
        · exact q
  refine uni _ (fun v hv => ?_) mem
  rw [List.mem_reverse] at hv
  obtain ⟨j, hj⟩ := List.getElem?_of_mem hv
  rw [List.getElem?_zip_eq_some] at hj
  have ej : j = i := (List.getElem?_inj (List.getElem?_eq_some_iff.mp hj.1).1 nd).mp (hj.1.trans hp.symm)
  rw [ej, hu] at hj
  exact (Option.some.inj hj.2).symm
section
variable {P : Program} {w : World} {K : PySem.W.Frag} {mg : Str → Option Value} {base : Heap} {C f : Addr} {ql : Str} {pr : Arguments} {bd : List Stmt} {sc : Scope} {N ps : List Str} {A : Around} {outer : List Env} {s : Shared} {H : Hp} {us : List Value} {vs : List V} {kV doc pm cdv ct : Value} {an : Option Addr} {cl : Addr} {h0 : Heap}
theorem start_init {ocl : Obj} (S : InitScope N ps sc) (hd : A.handled = none) (e0 : Env0 P w K mg base A outer s H) (hl : vs.length = ps.length) (r : Vals vs us) (lcl : K.lookup cl = some ocl) (dcl : ocl.data = .cell (some (.ref C)))
    (ns : h0.Ns s.heap.objs.size (fun x => (ps.zip us).reverse.lookup x)) (kp : ∀ b o, s.heap.get? b = some o → h0.get? b = some o) {t : Nat} :
    Inv (cxI P w K mg base N (fnCl "__init__" ql pr bd sc kV doc pm an cdv ct cl) f A outer s H) [] (start N vs) H { s with heap := h0, toks := t } := by
  have hNp := S.is
  subst hNp
  have inB : base.get? cl = some ocl := e0.mod.kin cl ocl lcl
  have inS := e0.bs cl ocl inB
  have oneC : ∀ {x : Str} {c : Addr}, (callEnv (fnCl "__init__" ql pr bd sc kV doc pm an cdv ct cl) s.heap.objs.size f).cells.lookup x = some c → x = "__class__" ∧ c = cl := by
    intro x c h
    have h : ([(Str.ofString "__class__", cl)] : List (Str × Addr)).lookup x = some c := h
    by_cases e : x = "__class__"
    · subst e
      rw [List.lookup_cons, beq_self_eq_true] at h
      exact ⟨rfl, (Option.some.inj h).symm⟩
    · have e2 : (x == (Str.ofString "__class__")) = false := by simpa using e
      rw [List.lookup_cons, e2] at h
      cases h
  refine ⟨⟨e0.mod, S.kind, rfl, rfl, Nat.le_refl _, fun x y c h1 h2 => (oneC h1).1.trans (oneC h2).1.symm, fun x hx => ?_, fun x c h _ => ?_, fun _ => hd, Around.frames_deeper e0.frames, .inr ⟨rfl, rfl⟩, fun b z => G2.not_in_nil z, e0.bs, e0.bsz, fun b _ _ z => G2.not_in_nil z, fun b z => G2.not_in_nil z, e0.funs, e0.frf⟩,
    rfl, e0.bare, Un.kept kp, ⟨_, ns, fun i x v h1 h2 _ => ?_⟩, fun x c h => ?_, e0.hok.fresh (Nat.le_refl _), fun x c h => ?_, fun p z => G2.not_in_nil z, e0.hok.kept kp, ?_⟩
  · have hx : sc.names.lookup x = some .cell ∨ sc.names.lookup x = some .free := hx
    rcases hx with q | q
    · exact absurd rfl (S.nocell _ (PySem.mem_of_lookup q))
    · have e := S.only _ (PySem.mem_of_lookup q) rfl
      dsimp only at e
      subst e
      exact ⟨cl, rfl⟩
  · exact absurd h Bool.false_ne_true
  · have hi : i < vs.length := by
      by_cases q : i < vs.length
      · exact q
      · unfold L2.start at h2
        rw [List.getElem?_append_right (by simpa using q), List.getElem?_replicate] at h2
        split at h2 <;> cases h2
    have hv : vs[i]? = some v := by
      unfold L2.start at h2
      rw [List.getElem?_append_left (by simpa using hi), List.getElem?_map] at h2
      cases e : vs[i]? with
      | none => rw [e] at h2; cases h2
      | some z => rw [e] at h2; cases h2; rfl
    obtain ⟨u, hu, rv⟩ := r.get hv
    exact ⟨u, rv, .inl ⟨S.par x (List.mem_of_getElem? h1), zip_look S.nd h1 hu⟩⟩
  · obtain ⟨_, rfl⟩ := oneC h
    exact ⟨_, ocl, kp _ _ inS.1, dcl⟩
  · obtain ⟨_, rfl⟩ := oneC h
    exact inS.2
  · unfold L2.start
    show _ = N.length
    rw [List.length_append, List.length_map, List.length_replicate]
    omega
end
end E3

set_option maxHeartbeats 4000000
namespace E4
open PySem PySem.Spec PyProof.Rows L2 E2 E3
/-- a built-in __init__ bound to an own error may be called with anything by place -/
theorem bound_init {Mo : Model} {Ar : Around} {X : Value → Shared → Prop} {st : Shared} {top newId initId : String} (F : InitF top initId) {nm qn : Str} {C N x : Addr} {ox : Obj} {bases tail : List Value} {hasD : Bool} {sn : List Str} {subs : List Value} {abs : Bool} {col : Option Bool} {dd : Option Addr}
    {j0 j1 j2 j3 j5 : Option Value} {more : List Value} {R : Unit → Shared → Prop} (atC : st.heap.get? C = some (excClassObj nm qn C N bases tail hasD sn subs abs col dd j0 j1 j2 j3 j5 newId)) (atX : st.heap.get? x = some ox) (of : ox.cls = .ref C) (fin : R () st) :
    wpAny Mo Ar (checkBoundCall initId ⟨.ref x :: more, []⟩) R X st := by
  obtain ⟨hp, gs, dr, tk, os⟩ := st
  have ns := F.star
  have free : ∀ (u v : String) (m : Nat), Bind.check ⟨.positional, "*", top, .self, [⟨"args", .varPos, false⟩]⟩ u v m [] = pure () := fun u v m => check_star_args _ _ _ _ _ _
  simp only [checkBoundCall, F.kind, F.row]
  repeat
    first
    | (with_reducible refine wpAny_loadPart_at atX ?_
       rw [of])
    | with_reducible refine wpAny_loadPart_at atC ?_
    | wp_step
  refine wpAny_onRaise ?_
  simp only [List.map_nil]
  rw [free]
  exact wpAny_pure fin
/-- the built-in __init__, bound to the object, is called -/
theorem call_bound {prog : Program} {w : World} {A : Around} {E : Value → Shared → Prop} {h : Heap} {g : Array GenState} {d : Drawn} {t : Nat} {os : OsState} {K : PySem.W.Frag} {C x u t0 : Addr} {B newId i : String} {bmB : List Value} {rest : List Value} {Q : Value → Shared → Prop}
    (X : K.In h) (FB : InitF B i) (made : PySem.W.excInitIn K C bmB newId = true) (at1 : h.get? x = some ({ cls := .ref C, dict := none, data := .fields #[.ref t0, .none, .none, .none, .bool false, .none] } : Obj)) (atU : h.get? u = some (PySem.W.kxs_mw i x)) (few : rest.length ≤ sizeLine)
    (go : ∀ h' t1, (∀ b o, b ≠ x → h.get? b = some o → h'.get? b = some o) → h'.get? x = some ({ cls := .ref C, dict := none, data := .fields #[.ref t1, .none, .none, .none, .bool false, .none] } : Obj) → Q .none ⟨h', g, d, t, os⟩) :
    wpAny (model prog w) A (call (.ref u) rest) Q E ⟨h, g, d, t, os⟩ := by
  obtain ⟨nm, N', qn, bs, bm, hdct, sn, sub, ab, col, dd, k0, k1, k2, k3, k5, hC, hT⟩ := PySem.W.excInit_of X made
  refine wpAny_call (codeAny_of_tree ?_)
  show wpAny _ A.in1 (callAny (.ref u) ⟨rest, []⟩) _ _ _
  simp only [callAny]
  refine wpAny_bind (wpAny_load atU ?_)
  have isW : (Value.type "method-wrapper" == Value.type "method" || Value.type "method-wrapper" == Value.type "builtin_function_or_method" || Value.type "method-wrapper" == Value.type "method-wrapper") = true := by decide
  simp only [PySem.W.kxs_mw, isW, if_true]
  refine PySem.W.KFB.if_so (by decide) ?_
  refine wpAny_bind (bound_init FB hC at1 rfl ?_)
  refine wpAny_bind (wpAny_pure (wpAny_pure ?_))
  refine ⟨plainId_quiet FB.plain _, codeAny_builtin FB.entry ?_⟩
  exact PySem.W.exc_init_tree (cls := .ref C) (t0 := t0) (dv := none) (c2 := .none) (c3 := .none) (b4 := .bool false) at1 few fun h' k e _ => go h' _ k e
/-- super().__init__('..'), self in the first place -/
abbrev supE (p0 p1 p2 p3 p4 : Pos) (z : Str) (k : Nat) : Expr := .Call (.Attribute (.Call (.Name "super" p0) [] [] p1) "__init__" p2) [.Constant (.str z) k p3] [] p4
section
variable {P : Program} {w : World} {K : PySem.W.Frag} {mg : Str → Option Value} {base : Heap} {C f : Addr} {ql : Str} {pr : Arguments} {bd : List Stmt} {sc : Scope} {ps : List Str} {A : Around} {outer : List Env} {s s1 : Shared} {H : Hp} {σ : L2.St} {cdv : Value}
variable {B newId initId Bs : String} {bmB : List Value} {fI : Addr}
theorem run_super {fd : FuncData} {pl : Sem Bool} {ar : Arg} {a : Addr} {p0 p1 p2 p3 p4 : Pos} {z : Str} {kk : Nat} {Q : Value → Shared → Prop} {E : Value → Shared → Prop} {body : List Stmt} (T : ExC K C f B newId initId Bs bmB) (F : InitFn P K C f ql pr bd sc fd) (S : InitScope ps ps sc)
    (hp : (pr.posonlyargs ++ pr.args).head? = some ar) (p0s : ps[0]? = some ar.arg) (ms : mg "super" = none) (I : Inv (cxI P w K mg base ps fd f A outer s H) [] σ H s1) (sl : σ[0]? = some (some (.ref a))) (ea : H a = some (exo a C none))
    (he : eval (supE p0 p1 p2 p3 p4 z kk) (callEnv fd s.heap.objs.size f) = (do
      let ov ← attributeBase (.Call (.Name "super" p0) [] [] p1) "__init__" (callEnv fd s.heap.objs.size f) (eval (.Call (.Name "super" p0) [] [] p1) (callEnv fd s.heap.objs.size f))
      standAt p2.atName
      let (m, first) ← holding [ov] (getMethod ov "__init__" pl)
      callWith p4 m first (backTo p4 (starEach [.Constant (.str z) kk p3] (callEnv fd s.heap.objs.size f))) []))
    (go : ∀ s2, Inv (cxI P w K mg base ps fd f A outer s H) [] σ H s2 → Q .none s2) :
    PySem.wpAt (model P w) (A.deeper (callEnv fd s.heap.objs.size f)) (.func body (callEnv fd s.heap.objs.size f)) (eval (supE p0 p1 p2 p3 p4 z kk) (callEnv fd s.heap.objs.size f)) Q E s1 := by
  obtain ⟨oc, kV, doc, pm, cdv, ct, od, an, osl, cl, cc, ocl, occ, vs, file, tf, rfl, lf, cod, lcl, dcl, rfl, lcc, dcc, vfile, isf⟩ := F.ex
  have KX := I.kIn
  obtain ⟨cd, hcl, hasD⟩ := T.cls
  have env0 : callEnv (fnCl "__init__" ql pr bd sc kV doc pm an (.ref cc) ct cl) s.heap.objs.size f = (cxI P w K mg base ps (fnCl "__init__" ql pr bd sc kV doc pm an (.ref cc) ct cl) f A outer s H).env := rfl
  obtain ⟨nm, N', qn, bs, bm, hdct, sn, sub, ab, col, dd, k0, k1, k2, k3, k5, hC, hT⟩ := PySem.W.excInit_of KX T.made
  obtain ⟨t0, atA⟩ := exo_at I.hok ea
  obtain ⟨m, hn, hv⟩ := I.loc
  obtain ⟨u, ru, look⟩ := hv 0 ar.arg (.ref a) p0s sl (.inl (S.par _ (List.mem_of_getElem? p0s)))
  obtain rfl : u = Value.ref a := ru
  have mself : m ar.arg = some (.ref a) := by
    rcases look with ⟨_, q⟩ | ⟨q, _⟩
    · exact q
    · have loc : sc.names.lookup ar.arg = some .local := S.par _ (List.mem_of_getElem? p0s)
      have q : sc.names.lookup ar.arg = some .cell ∨ sc.names.lookup ar.arg = some .free := q
      rw [loc] at q
      rcases q with q | q <;> cases q
  obtain ⟨mb, b1, b2⟩ := I.mod.blt
  refine PySem.ks_wpAt_MethodCall (PySem.ks_wpAt_super_base (f := f) (ar := ar) S.sup S.cls (by decide) rfl (KX _ _ lf) rfl hp rfl (KX _ _ lcc) dcc vfile isf F.top ?_) he
  rw [show loadName (callEnv (fnCl "__init__" ql pr bd sc kV doc pm an (.ref cc) ct cl) s.heap.objs.size f) "super" = loadGlobal (callEnv (fnCl "__init__" ql pr bd sc kV doc pm an (.ref cc) ct cl) s.heap.objs.size f) "super" from loadName_read S.kind S.sup]
  refine Calls.loadGlobal_builtin (mg := mg) (mb := mb) (show s1.heap.Ns mainGlobals mg from I.mod.glob.keeps I.bk) ms (show s1.heap.Ns builtinsNs mb from b1.keeps I.bk) ((b2 _ (by decide)).trans (show bootBuiltins "super" = some (.type "super") by decide +kernel)) ⟨rfl, ?_⟩
  refine wpAny_loadName_free S.kind S.cls (c := cl) rfl ⟨ocl, KX _ _ lcl, dcl⟩ ?_
  refine wpAny_loadName_local S.kind (S.par _ (List.mem_of_getElem? p0s)) hn mself ?_
  obtain ⟨hp1, g, dr, t, os⟩ := s1
  refine PySem.ks_wpAny_isType_cls hC rfl ⟨rfl, ?_⟩
  refine PySem.ks_wpAny_call_super hC rfl atA rfl (fun c z => by cases z) (PySem.W.looks_subIn KX T.self) fun h2 atS kS => ?_
  have K2 := KX.keeps kS
  have atA2 := kS _ _ atA
  have Ia : PySem.W.InstAt h2 a ({ cls := .ref C, dict := none, data := .fields #[.ref t0, .none, .none, .none, .bool false, .none] } : Obj) C none := ⟨atA2, rfl, rfl, trivial⟩
  have sup := T.sup
  unfold PySem.W.ks_superIn at sup
  rw [hcl] at sup
  refine PySem.W.kxs_getMethod T.un.kx atS (PySem.W.looks_opaque K2 T.op) (l₀ := cd.mro) (fun A Q E s k q => wpAny_bind ((PySem.W.looks_clsIn K2 hcl) A _ E s k (wpAny_pure q))) rfl K2 sup (Ia.type.andThen (PySem.W.looks_subIn K2 T.sub)) (PySem.W.ks_ne K2 Ia hcl) (by decide) ?_
  have k3' : ∀ b o, hp1.get? b = some o → (h2.push (PySem.W.kxs_mw initId a)).get? b = some o := fun b o e => Heap.get?_push_of_some _ (kS b o e)
  refine PySem.W.kxs_callWith (i := initId) (x := a) rfl (Calls.evalArgs_plain ?_)
  refine Calls.spliced_cons (Calls.Constant_str (k := kk) (pos := p3) ?_)
  refine Calls.spliced_nil ⟨?_, ?_⟩
  · exact Heap.get?_push_at rfl rfl
  · refine call_bound (KX.keeps k3') T.un.inf T.made (k3' _ _ atA) (Heap.get?_push_at rfl rfl) (by show 1 ≤ sizeLine; decide) fun h4 t1 k4 at4 => ?_
    refine go _ ?_
    have J := (I.kept (h' := h2.push (PySem.W.kxs_mw initId a)) (t' := 0) k3').write (t' := t + 1 + 1) (x := a) (e := a) (o := exo a C none) (by rw [ea]; exact True.intro) (.inl rfl) k4 ⟨_, at4⟩ (exo_ok at4)
    have eu : upd H a (exo a C none) = H := by
      funext b
      by_cases hb : b = a
      · rw [hb, upd_same, ea]
      · rw [upd_ne hb]
    rw [eu] at J
    exact J
end
end E4

set_option maxHeartbeats 4000000
namespace E5
open PySem PySem.Spec PyProof.Rows L2 E2 E3 E4
section
variable {P : Program} {w : World} {K : PySem.W.Frag} {mg : Str → Option Value} {base : Heap} {C f : Addr} {ql : Str} {pr : Arguments} {rest : List Stmt} {sc : Scope} {ps : List Str} {B newId initId Bs : String} {bmB : List Value} {p0 p1 p2 p3 p4 p5 : Pos} {z : Str} {kk : Nat}
/-- what is asked of the text of super().__init__('..') -/
structure SupOk (fd : FuncData) (f : Addr) (p0 p1 p2 p3 p4 p5 : Pos) (z : Str) (kk : Nat) : Prop where
  he : ∀ L : Addr, ∃ pl : Sem Bool, eval (supE p0 p1 p2 p3 p4 z kk) (callEnv fd L f) = (do
      let ov ← attributeBase (.Call (.Name "super" p0) [] [] p1) "__init__" (callEnv fd L f) (eval (.Call (.Name "super" p0) [] [] p1) (callEnv fd L f))
      standAt p2.atName
      let (m, first) ← holding [ov] (getMethod ov "__init__" pl)
      callWith p4 m first (backTo p4 (starEach [.Constant (.str z) kk p3] (callEnv fd L f))) [])
  hi : ∀ L : Addr, interactive (callEnv fd L f) = false
  hs : ∀ L : Addr, swapsWith (supE p0 p1 p2 p3 p4 z kk) none p5.line (callEnv fd L f) = pure false
theorem ok_init {CX : CXT} {sp : Sp} {fd : FuncData} {ar : Arg} {k : Nat} (T : ExC K C f B newId initId Bs bmB) (F : InitFn P K C f ql pr (.Expr (supE p0 p1 p2 p3 p4 z kk) p5 :: rest) sc fd) (S : InitScope ps ps sc) (hp : (pr.posonlyargs ++ pr.args).head? = some ar) (p0s : ps[0]? = some ar.arg)
    (ms : mg "super" = none) (U : SupOk fd f p0 p1 p2 p3 p4 p5 z kk) (len : ∀ vs H Q E, sp vs H Q E → vs.length = ps.length)
    (self : ∀ vs H Q E, sp vs H Q E → ∃ a ws, vs = .ref a :: ws ∧ H a = some (exo a C none))
    (body : ∀ (A : Around) (outer : List Env) (s : Shared) (H : Hp) (vs : List V) (Q : VK) (E : XK), sp vs H Q E → ∃ t, PSs (cxI P w K mg base ps fd f A outer s H) rest t ∧ t { nx := fun _ H' => Q .non H', rt := Q } (start ps vs) H) :
    FnOk P w K mg base CX (k + 1) f fd ps sp := by
  refine ⟨len, fun A outer s H args us vs Q E hr e0 hb r hyp => ?_⟩
  have F0 := F
  obtain ⟨oc, kV, doc, pm, cdv, ct, od, an, osl, cl, cc, ocl, occ, fv, file, tf, efd, lf, cod, lcl, dcl, ecd, lcc, dcc, vfile, isf⟩ := F.ex
  have inS : K.In s.heap := e0.mod.kin.keeps fun b o e => (e0.bs b o e).1
  have noL : s.heap.NoLimit := e0.mod.nolimit.keeps fun b o e => (e0.bs b o e).1
  have hl := len _ _ _ _ hyp
  obtain ⟨a, ws, ev, ea⟩ := self _ _ _ _ hyp
  obtain ⟨t, pt, tt⟩ := body A outer s H vs Q E hyp
  have hcd : s.heap.CodeRec fd.code fd.qualname := by rw [efd]; exact PySem.W.codeRec_of inS cod
  refine PySem.ks_codeAny_call_defAt (body := .Expr (supE p0 p1 p2 p3 p4 z kk) p5 :: rest) hr.depth (inS _ _ lf) rfl noL hcd (by rw [efd]) hb (by rw [efd]; exact S.nocell) (fun x hx => ?_) (fun h0 ns kp => ?_) (by rw [efd]; exact S.co) (by rw [efd]; exact S.gen) (by rw [efd]; exact S.kind)
  · obtain ⟨n, v⟩ := x
    rw [efd]
    exact S.par n (List.of_mem_zip hx).1
  · have I : Inv (cxI P w K mg base ps fd f A outer s H) [] (start ps vs) H { s with heap := h0, toks := s.toks + (ps.zip us).length } := by
      rw [efd]
      exact start_init S hr.hd e0 hl r lcl dcl ns kp
    obtain ⟨pl, he⟩ := U.he s.heap.objs.size
    refine PySem.ks_wpAt_execs_cons (PySem.ks_wpAt_Expr_any (run_super T F0 S hp p0s ms I (by rw [ev]; rfl) ea he fun s2 J => ?_) (U.hi _) (U.hs _))
    refine wpAt_of_wpAny (wpAny_mono (pt.run [] s2 _ H _ J tt) (fun fl s3 h3 => ?_) fun e s3 h3 => h3.elim)
    cases fl with
    | ret u =>
      obtain ⟨v, σ', H', J', rv, q⟩ := h3
      exact ⟨v, H', J'.os, J'.bare, J'.base, J'.hok, rv, q⟩
    | next =>
      obtain ⟨σ', H', J', q⟩ := h3
      exact ⟨.non, H', J'.os, J'.bare, J'.base, J'.hok, rfl, q⟩
    | brk =>
      obtain ⟨_, _, _, q⟩ := h3
      exact q.elim
    | cont =>
      obtain ⟨_, _, _, q⟩ := h3
      exact q.elim
end
end E5

set_option maxHeartbeats 4000000
namespace E6
open PySem PySem.W
section
variable {M : Model} {prog : Program} {w : World} {A : Around} {E : Value → Shared → Prop} {R : Result → Shared → Prop} {h : Heap} {g : Array GenState} {d : Drawn} {t : Nat} {os : OsState}
variable {nm q : Str} {C N : Addr} {bs bm bmB : List Value} {hdct : Bool} {sn : List Str} {sub : List Value} {ab : Bool} {col : Option Bool} {dd : Option Addr} {k0 k1 k2 k3 k5 : Option Value} {B newId initId : String} {kw : List (Str × Value)}
theorem may_new (F : ExcBaseFacts B newId initId bmB) (cB : (Value.ref C :: bm).contains (.type B) = true) {rest : List Value} {Q : Unit → Shared → Prop}
    (hC : h.get? C = some (excClassObj nm q C N bs bm hdct sn sub ab col dd k0 k1 k2 k3 k5 newId)) (go : Q () ⟨h, g, d, t, os⟩) : wpAny M A (checkBuiltinCall newId ⟨.ref C :: rest, kw⟩) Q E ⟨h, g, d, t, os⟩ := by
  have star := F.noStar
  simp only [checkBuiltinCall, F.newKind, F.newSplit, F.newRow]
  repeat (first | refine wpAny_loadPart_at hC ?_ | (refine wpAny_isSubtype_exc hC ?_; rw [cB]) | refine wpAny_staticBase_exc hC ?_ | refine wpAny_madeBy_exc hC ?_ | simp only [bne_self_eq_false, Bool.false_eq_true, if_false] | wp_step)
  exact go
theorem new_obj (F : ExcBaseFacts B newId initId bmB) (cB : (Value.ref C :: bm).contains (.type B) = true) (cA : (Value.ref C :: bm).contains (.type "AttributeError") = false) (cN : (Value.ref C :: bm).contains (.type "NameError") = false) {rest : List Value}
    (hC : h.get? C = some (excClassObj nm q C N bs bm hdct sn sub ab col dd k0 k1 k2 k3 k5 newId)) (few : rest.length ≤ sizeLine)
    (go : R (.ok (.ret (.ref (h.objs.size + 1)))) ⟨(h.push (kdv_tup rest)).push (HandSPX.excO C h.objs.size), g, d, t, os⟩) :
    codeAny (model prog w) A (.builtin newId ⟨.ref C :: rest, kw⟩) R ⟨h, g, d, t, os⟩ := by
  have ends := F.ends
  refine codeAny_builtinAt F.entry ?_
  unfold Builtin.«BaseException.__new__»
  refine wpAt_bind ?_
  show wpAt _ _ _ (stack >>= _) _ _ _
  refine wpAt_bind (wpAt_stack fun p below => wpAt_of_wpAny ?_)
  wp_walk
  refine wpAt_of_wpAny ?_
  rw [F.owner]
  repeat (first | with_reducible refine wpAny_madeHere_exc F.canon hC ?_ | with_reducible refine wpAny_loadPart_at hC ?_ | (with_reducible refine wpAny_isSubtype_exc hC ?_; first | rw [cB] | rw [cA] | rw [cN]) | wp_step)
  show R _ _
  rw [Heap.size_push]
  exact go
theorem run_type (F : ExcBaseFacts B newId initId bmB) (cB : (Value.ref C :: bm).contains (.type B) = true) (cA : (Value.ref C :: bm).contains (.type "AttributeError") = false) (cN : (Value.ref C :: bm).contains (.type "NameError") = false) {rest : List Value} {fI : Addr} {Q : Fin → Shared → Prop}
    (hC : h.get? C = some (excClassObj nm q C N bs bm hdct sn sub ab col dd k0 k1 k2 k3 k5 newId)) (ini : Looks (model prog w) h (typeLookup (.ref C) "__init__") (some (.ref fI))) (bnd : ∀ self, Looks (model prog w) h (bindSpecial (.ref fI) self) (.ref fI, [self])) (few : rest.length ≤ sizeLine)
    (go : codeAny (model prog w) A (.call (.ref fI) ⟨.ref (h.objs.size + 1) :: rest, kw⟩)
      (fun r s' => match r with | .ok (.ret v) => v = .none ∧ Q (.done (.ret (.ref (h.objs.size + 1)))) s' | .ok _ => False | .error e => E e s') ⟨(h.push (kdv_tup rest)).push (HandSPX.excO C h.objs.size), g, d, t, os⟩) :
    wpAny (model prog w) A (Builtin.«type.__call__» ⟨.ref C :: rest, kw⟩) Q E ⟨h, g, d, t, os⟩ := by
  have up : ∀ b o, h.get? b = some o → ((h.push (kdv_tup rest)).push (HandSPX.excO C h.objs.size)).get? b = some o := fun b o e => Heap.get?_push_of_some _ (Heap.get?_push_of_some _ e)
  have hC2 := up _ _ hC
  have mine : ((h.push (kdv_tup rest)).push (HandSPX.excO C h.objs.size)).get? (h.objs.size + 1) = some (HandSPX.excO C h.objs.size) := by heap_get
  have cC : (Value.ref C :: bm).contains (.ref C) = true := by simp
  have ini2 := ini.keeps up
  have bnd2 := (bnd (.ref (h.objs.size + 1))).keeps up
  repeat (first | with_reducible refine wpAny_loadPart_at hC ?_ | with_reducible refine wpAny_madeBy_exc hC ?_ | wp_step)
  refine codeAny_call_builtin_code (Code.quiet_builtin _ F.quiet) (may_new F cB hC (new_obj F cB cA cN hC few ?_))
  show wpAny _ _ _ _ _ _
  unfold isInstance
  repeat (first | with_reducible refine wpAny_loadPart_at mine ?_ | (with_reducible refine wpAny_isSubtype_exc hC2 ?_; rw [cC]) | wp_step)
  show wpAny _ _ (typeLookup (.ref C) _) _ _ _
  refine ini2.at (wpAny_holding (wpAny_bind (bnd2.at ?_)))
  refine wpAny_bind (wpAny_call (codeAny_mono go fun r s' z => ?_))
  rcases r with e | (v | _ | _ | _) <;> first | exact z | exact z.elim | skip
  obtain ⟨rfl, z⟩ := z
  first | exact wpAny_pure (wpAny_pure z) | (wp_walk; exact z)
theorem may_call {rest : List Value} {Q : Unit → Shared → Prop} (hC : h.get? C = some (excClassObj nm q C N bs bm hdct sn sub ab col dd k0 k1 k2 k3 k5 newId)) (go : Q () ⟨h, g, d, t, os⟩) :
    wpAny M A (checkBuiltinCall "type.__call__" ⟨.ref C :: rest, kw⟩) Q E ⟨h, g, d, t, os⟩ := by
  have l3 := tc_sub
  have isT : (⟨h, g, d, t, os⟩ : Shared).TypeIs (.ref C) "type" := ⟨_, hC, rfl⟩
  simp only [checkBuiltinCall, tc_kind, tc_split]
  repeat (any_goals (first | assumption | with_reducible refine wpAny_loadPart_at hC ?_ | with_reducible refine wpAny_onRaise ?_ | with_reducible refine wpAny_map ?_ | wp_step))
theorem call_made (F : ExcBaseFacts B newId initId bmB) (cB : (Value.ref C :: bm).contains (.type B) = true) (cA : (Value.ref C :: bm).contains (.type "AttributeError") = false) (cN : (Value.ref C :: bm).contains (.type "NameError") = false) {rest : List Value} {fI : Addr}
    (hC : h.get? C = some (excClassObj nm q C N bs bm hdct sn sub ab col dd k0 k1 k2 k3 k5 newId)) (ini : Looks (model prog w) h (typeLookup (.ref C) "__init__") (some (.ref fI))) (bnd : ∀ self, Looks (model prog w) h (bindSpecial (.ref fI) self) (.ref fI, [self])) (few : rest.length ≤ sizeLine)
    (go : codeAny (model prog w) (A.under (.builtin "type.__call__" ⟨.ref C :: rest, kw⟩)) (.call (.ref fI) ⟨.ref (h.objs.size + 1) :: rest, kw⟩) (InitBack (h.objs.size + 1) R) ⟨(h.push (kdv_tup rest)).push (HandSPX.excO C h.objs.size), g, d, t, os⟩) :
    codeAny (model prog w) A (.call (.ref C) ⟨rest, kw⟩) R ⟨h, g, d, t, os⟩ := by
  have l1 := tc_lookup
  have l2 := tc_bind (.ref C)
  have isT : (⟨h, g, d, t, os⟩ : Shared).TypeIs (.ref C) "type" := ⟨_, hC, rfl⟩
  refine codeAny_of_tree ?_
  show wpAny _ _ (callAny (.ref C) _) _ _ _
  repeat (any_goals (first | assumption | with_reducible refine wpAny_loadPart_at hC ?_ | wp_step))
  refine ⟨rfl, codeAny_call_builtin_at (Code.quiet_builtin _ (by decide +kernel)) entry_typeCall (may_call hC (run_type F cB cA cN hC ini bnd few ?_))⟩
  refine codeAny_mono go fun r s' z => ?_
  rcases r with e | (v | _ | _ | _) <;> exact z
end
end E6

set_option maxHeartbeats 4000000
namespace E7
open PySem PySem.Spec PyProof.Rows L2 E2 E3 E4 E5
/-- C(..), an own error as a value -/
def tErr (C : Addr) (sp : Sp) (gV : List V → List V → List V) (ta tk : TA) : TE := fun σ H Q => ta σ H fun vs H1 => tk σ H1 fun zs H2 => vs.length ≤ 1000 ∧
  ∀ a, H2 a = none → sp (gV (.ref a :: vs) zs) (upd H2 a (exo a C none)) (fun v H3 => v = .non ∧ Q (.ref a) H3) fun _ _ _ => False
section
variable {X : Cx} {pins : List (Addr × Obj)} {σ : L2.St} {H : Hp} {s : Shared} {C fI : Addr} {B newId initId Bs : String} {bmB : List Value} {k : Nat} {fd : FuncData} {ps ks : List Str} {sp : Sp} {g : List Value → List Value → List Value} {gV : List V → List V → List V} {vs zs : List V} {us ws : List Value} {Q : VK}
theorem tl_has {l : List Value} (z : String) (h : PySem.W.excTail bmB l = true) : (Value.ref C :: l).contains (.type z) = bmB.contains (.type z) := by
  rw [List.contains_cons, PySem.W.excTail_contains z l h]
  rfl
theorem run_err (T : ExC X.K C fI B newId initId Bs bmB) (F1 : FnOk X.prog X.w X.K X.mg X.base CX0 k fI fd ps sp) (hr : Room (k + 1) X.A) (kb : KBinds X.K fd ps ks g gV) (I : Inv X pins σ H s) (r : Vals vs us) (rz : Vals zs ws) (few : vs.length ≤ 1000)
    (hyp : ∀ a, H a = none → sp (gV (.ref a :: vs) zs) (upd H a (exo a C none)) (fun v H3 => v = .non ∧ Q (.ref a) H3) fun _ _ _ => False) :
    wpAny (model X.prog X.w) X.A (call (.ref C) us (ks.zip ws)) (EP X pins σ Q) X.xe s := by
  obtain ⟨_, bmE, eb⟩ := T.un.eb
  have KX := I.kIn
  obtain ⟨nm, N', qn, bs, bm, hdct, sn, sub, ab, col, dd, k0, k1, k2, k3, k5, hC, hT⟩ := PySem.W.excInit_of KX T.made
  have con : ∀ z : String, (Value.ref C :: bm).contains (.type z) = bmB.contains (.type z) := fun z => by
    rw [List.contains_cons, hT]
    rfl
  obtain ⟨hp, g0, dr, tk, os⟩ := s
  have new : H (hp.objs.size + 1) = none := I.hok.fresh (Nat.le_succ _)
  have hq := hyp (hp.objs.size + 1) new
  have up : ∀ b o, hp.get? b = some o → ((hp.push (PySem.W.kdv_tup us)).push (HandSPX.excO C hp.objs.size)).get? b = some o := fun b o e => Heap.get?_push_of_some _ (Heap.get?_push_of_some _ e)
  have mine : ((hp.push (PySem.W.kdv_tup us)).push (HandSPX.excO C hp.objs.size)).get? (hp.objs.size + 1) = some (HandSPX.excO C hp.objs.size) := by heap_get
  have I2 : Inv X pins σ (upd H (hp.objs.size + 1) (exo (hp.objs.size + 1) C none)) ⟨(hp.push (PySem.W.kdv_tup us)).push (HandSPX.excO C hp.objs.size), g0, dr, tk, os⟩ :=
    I.laid (t' := tk) (a := hp.objs.size + 1) (o := exo (hp.objs.size + 1) C none) (h' := (hp.push (PySem.W.kdv_tup us)).push (HandSPX.excO C hp.objs.size)) up (Nat.le_succ _) (exo_ok mine)
  have r1 : Vals (V.ref (hp.objs.size + 1) :: vs) (Value.ref (hp.objs.size + 1) :: us) := .cons rfl r
  have r2 := kb.rel r1 rz
  have hl : (g (Value.ref (hp.objs.size + 1) :: us) ws).length = ps.length := by
    rw [← r2.length, F1.len _ _ _ _ hq]
  have hus : us.length ≤ sizeLine := by
    rw [← Paired.length r, sizeLine_eq]
    omega
  obtain ⟨oI, hoI, hcI⟩ : ∃ oI, hp.get? fI = some oI ∧ oI.cls = .type "function" := by
    obtain ⟨o, ho, hc⟩ := Option.map_eq_some_iff.mp (show (X.K.lookup fI).map (·.cls) = some (.type "function") from beq_iff_eq.mp T.isF)
    exact ⟨o, KX _ _ ho, hc⟩
  refine wpAny_call (E6.call_made eb ((con B).trans T.un.hasB) ((con _).trans T.un.noA) ((con _).trans T.un.noN) hC (PySem.W.looks_findIn KX T.ini) (fun self => PySem.W.exc_bind hoI hcI self) hus ?_)
  refine codeAny_mono (F1.run _ X.stack _ _ ⟨Value.ref (hp.objs.size + 1) :: us, ks.zip ws⟩ (g (Value.ref (hp.objs.size + 1) :: us) ws) _ _ (fun _ _ _ => False) (hr.make C us (ks.zip ws)) (I2.env0.make C us (ks.zip ws)) (kb.to _ _ ws I2.kIn hl) r2 hq) fun rr s' hq' => ?_
  match rr, hq' with
  | .error er, z => exact z.elim
  | .ok .next, z => exact z.elim
  | .ok .brk, z => exact z.elim
  | .ok .cont, z => exact z.elim
  | .ok (.ret u), z =>
    obtain ⟨v, H3, I3, rv, ev, q3⟩ := I2.after z
    subst ev
    exact ⟨rv, .ref _, H3, I3, rfl, q3⟩
end
section
variable {X : Cx} {C fI : Addr} {B newId initId Bs : String} {bmB : List Value} {k : Nat} {fd : FuncData} {ps ks : List Str} {sp : Sp} {g : List Value → List Value → List Value} {gV : List V → List V → List V} {x : Str} {p pos : Pos} {e : Expr} {es : List Expr} {kws : List Keyword} {ta tk : TA}
/-- C(e, ..) -/
theorem pe_err (T : ExC X.K C fI B newId initId Bs bmB) (F1 : FnOk X.prog X.w X.K X.mg X.base CX0 k fI fd ps sp) (hr : Room (k + 1) X.A) (kb : KBinds X.K fd ps [] g gV) (hg : Gl X x) (hm : X.mg x = some (.ref C)) (ha : PA X (e :: es) ta)
    (hdb : (x == ("__debug__" : Str)) = false := by decide) (he : starEach (e :: es) X.env = (false, eval e X.env) :: starEach es X.env := by rfl) (hpl : (backTo pos (starEach es X.env)).any (·.1) = false := by rfl) :
    PE X (.Call (.Name x p) (e :: es) [] pos) (tErr C sp gV ta tNil) := by
  refine ⟨fun pins s σ H Q I hyp => wpAny_Call_Name_kw (ld_glob I hg hm ?_ hdb)⟩
  refine PySem.W.callWith_K (h₀ := X.base) I.ok.mod.kin T.kC (thn (ha.run pos pins s σ H _ I hyp) fun us s1 ⟨vs, H1, I1, r1, few, q1⟩ => ⟨I1.kIn, ?_⟩) he hpl
  exact run_err (ks := []) (ws := []) (zs := []) T F1 hr kb I1 r1 .nil few q1
/-- C(k = v, ..) -/
theorem pe_errK (T : ExC X.K C fI B newId initId Bs bmB) (F1 : FnOk X.prog X.w X.K X.mg X.base CX0 k fI fd ps sp) (hr : Room (k + 1) X.A) (kb : KBinds X.K fd ps ks g gV) (hg : Gl X x) (hm : X.mg x = some (.ref C)) (pk : PK X kws tk)
    (h1 : (backToKw pos (keywordEach kws X.env)).all (·.1.isSome) = true := by rfl) (h2 : (backToKw pos (keywordEach kws X.env)).filterMap (·.1) = ks := by rfl) (h3 : (x == ("__debug__" : Str)) = false := by decide)
    (h4 : ((backTo pos (starEach [] X.env)).any (·.1) || (backToKw pos (keywordEach kws X.env)).any (·.1.isNone)) = false := by rfl) :
    PE X (.Call (.Name x p) [] kws pos) (tErr C sp gV tNil tk) := by
  refine ⟨fun pins s σ H Q I hyp => wpAny_Call_Name_kw (ld_glob I hg hm ?_ h3)⟩
  refine PySem.W.callWith_KW0 (h₀ := X.base) I.ok.mod.kin T.kC h1 (thn (pk.run pos pins s σ H _ I hyp) fun ws s2 ⟨zs, H2, I2, rz, few, q2⟩ => ⟨I2.kIn, ?_⟩) h4
  rw [h2]
  exact run_err (us := []) (vs := []) T F1 hr kb I2 .nil rz few q2
end
end E7

set_option maxHeartbeats 4000000
namespace E8
open PySem PySem.Spec PyProof.Rows L2 E2 E3 E4 E5 E7
/-- err.f -/
def tErrF (K : PySem.W.Frag) (f : Str) (te : TE) : TE := fun σ H Q => te σ H fun x H1 => ∃ (a C dx : Addr) (fs : List (Str × V)) (v : V), x = .ref a ∧ ExcC K C ∧ PySem.W.findIn K (.ref C) f = some none ∧ H1 a = some (exo a C (some dx)) ∧ H1 dx = some (exd dx fs) ∧ fs.lookup f = some v ∧ Q v H1
theorem pe_errF {X : Cx} {e : Expr} {te : TE} {pos : Pos} {n : Str} (he : PE X e te) (hb : attributeBase e n X.env (eval e X.env) = eval e X.env := by rfl) : PE X (.Attribute e n pos) (tErrF X.K n te) := by
  refine ⟨fun pins s σ H Q I hyp => attr_of hb (thn (he.run pins s σ H _ I hyp) fun u s1 hh => ?_)⟩
  obtain ⟨x, H1, I1, rx, a, C, dx, fs, v, ex, T, no, ea, ed, l, q⟩ := hh
  subst ex
  obtain rfl : u = Value.ref a := rx
  obtain ⟨t1, at0⟩ := exo_at I1.hok ea
  obtain ⟨mA, nsD, rel⟩ := exd_at I1.hok ed
  obtain ⟨od, ho, hl⟩ := lookIn_ns nsD
  obtain ⟨u, hu, ru⟩ := RelO.some_of (v := v) (o := mA n) (by rw [← l]; exact rel n)
  have J : PySem.W.InstAt s1.heap a _ C (some od) := ⟨at0, rfl, rfl, ho⟩
  exact HandSPX.exc_get I1.kIn J T.hg T.hk T.hs (PySem.W.findObj_own T.hd no rfl (by rw [hl, hu])) (handed_of ru) ⟨v, H1, I1.tok _, ru, q⟩
end E8

set_option maxHeartbeats 4000000
namespace E9
open PySem PySem.Spec PyProof.Rows L2 E2 E3 E4 E5 E7 E8
/-- an own error at a, of the class at C, with these fields -/
def ErrAt (H : Hp) (a C : Addr) (fs : List (Str × V)) : Prop := (fs = [] ∧ H a = some (exo a C none)) ∨ ∃ dx, H a = some (exo a C (some dx)) ∧ H dx = some (exd dx fs)
/-- the same, its fields in a new dict -/
def ErrNew (H0 H : Hp) (a C : Addr) (fs : List (Str × V)) : Prop := (fs = [] ∧ H a = some (exo a C none)) ∨ ∃ dx, H a = some (exo a C (some dx)) ∧ H dx = some (exd dx fs) ∧ H0 dx = none
theorem ErrNew.at {H0 H : Hp} {a C : Addr} {fs : List (Str × V)} (h : ErrNew H0 H a C fs) : ErrAt H a C fs := by
  rcases h with h | ⟨dx, h1, h2, _⟩
  · exact .inl h
  · exact .inr ⟨dx, h1, h2⟩
/-- new things at a and d alone -/
def Grow (H H' : Hp) (a : Addr) : Prop := ∀ b o, H b = some o → b ≠ a → H' b = some o
def names : List Str → List V → List (Str × V)
  | f :: fs, v :: vs => names fs vs ++ [(f, v)]
  | _, _ => []
def spI (C : Addr) (fn : List Str) : Sp := fun vs H Q _ => ∃ (a : Addr) (ws : List V), vs = .ref a :: ws ∧ ws.length = fn.length ∧ H a = some (exo a C none) ∧
  ∀ H', Grow H H' a → ErrNew H H' a C (names fn ws) → Q .non H'
section
variable {P : Program} {w : World} {K : PySem.W.Frag} {mg : Str → Option Value} {base : Heap} {C f : Addr} {ql : Str} {pr : Arguments} {sc : Scope} {B newId initId Bs : String} {bmB : List Value} {p0 p1 p2 p3 p4 p5 : Pos} {z : Str} {kk : Nat} {fd : FuncData} {ar : Arg} {k : Nat}
structure Nm (x : Str) : Prop where
  db : (x == ("__debug__" : Str)) = false
  cd : (x == ("__classdict__" : Str)) = false
theorem nm_self : Nm "self" := ⟨by decide, by decide⟩
theorem ok0 (T : ExC K C f B newId initId Bs bmB) (F : InitFn P K C f ql pr [.Expr (supE p0 p1 p2 p3 p4 z kk) p5] sc fd) (S : InitScope ["self"] ["self"] sc) (hp : (pr.posonlyargs ++ pr.args).head? = some ar) (h0 : ("self" : Str) = ar.arg) (ms : mg "super" = none) (U : SupOk fd f p0 p1 p2 p3 p4 p5 z kk) :
    FnOk P w K mg base CX0 (k + 1) f fd ["self"] (spI C []) := by
  refine ok_init T F S hp (by rw [← h0]; rfl) ms U (fun vs H Q E hyp => ?_) (fun vs H Q E hyp => ?_) (fun A outer s H vs Q E hyp => ?_)
  · obtain ⟨a, ws, rfl, hl, _⟩ := hyp
    rw [List.length_cons, hl]
    rfl
  · obtain ⟨a, ws, rfl, _, ea, _⟩ := hyp
    exact ⟨a, ws, rfl, ea⟩
  · obtain ⟨a, ws, rfl, hl, ea, q⟩ := hyp
    have e : ws = [] := List.length_eq_zero_iff.mp hl
    subst e
    exact ⟨_, pss_nil, q H (fun b o h _ => h) (.inl ⟨rfl, ea⟩)⟩
/-- self.x = x -/
abbrev keepS (x : Str) (q1 q2 q3 q4 : Pos) : Stmt := .Assign [.Attribute (.Name "self" q1) x q2] (.Name x q3) q4
theorem tak_name {x : Str} {X : Cx} {i : Nat} {pos : Pos} (n : Nm x) (hi : X.N[i]? = some x) (hv : X.env.scope.names.lookup x = some .local) : PE X (.Name x pos) (tVar i) := pe_var hi (.inl hv) n.db n.cd
theorem ok1 {x1 : Str} {a1 a2 a3 a4 : Pos} (T : ExC K C f B newId initId Bs bmB) (F : InitFn P K C f ql pr [.Expr (supE p0 p1 p2 p3 p4 z kk) p5, keepS x1 a1 a2 a3 a4] sc fd) (S : InitScope ["self", x1] ["self", x1] sc) (hp : (pr.posonlyargs ++ pr.args).head? = some ar) (h0 : ("self" : Str) = ar.arg) (ms : mg "super" = none) (U : SupOk fd f p0 p1 p2 p3 p4 p5 z kk)
    (n1 : Nm x1) (k1 : PySem.W.takerIn K C x1 = some none) : FnOk P w K mg base CX0 (k + 1) f fd ["self", x1] (spI C [x1]) := by
  refine ok_init T F S hp (by rw [← h0]; rfl) ms U (fun vs H Q E hyp => ?_) (fun vs H Q E hyp => ?_) (fun A outer s H vs Q E hyp => ?_)
  · obtain ⟨a, ws, rfl, hl, _⟩ := hyp
    rw [List.length_cons, hl]
    rfl
  · obtain ⟨a, ws, rfl, _, ea, _⟩ := hyp
    exact ⟨a, ws, rfl, ea⟩
  · obtain ⟨a, ws, rfl, hl, ea, q⟩ := hyp
    match ws, hl with
    | [v1], _ =>
      have env : (cxI P w K mg base ["self", x1] fd f A outer s H).env.scope = sc := by
        obtain ⟨oc, kV, doc, pm, cdv, ct, od, an, osl, cl, cc, ocl, occ, fv, file, tf, efd, _⟩ := F.ex
        rw [efd]
        rfl
      refine ⟨_, pss_one (ps_keep (tak_name (i := 0) nm_self rfl (by rw [env]; exact S.par _ (by simp))) (tak_name (i := 1) n1 rfl (by rw [env]; exact S.par _ (by simp)))), ?_⟩
      refine ⟨v1, rfl, .ref a, rfl, a, C, f, B, newId, initId, Bs, bmB, rfl, T, k1, .inl ⟨ea, fun dx nd ne => ?_⟩⟩
      refine q _ (fun b o hb hba => ?_) (.inr ⟨dx, upd_same, ?_, nd⟩)
      · rw [upd_ne hba, upd_ne (ne_of_none hb nd)]
        exact hb
      · rw [upd_ne ne]
        exact upd_same
theorem ok2 {x1 : Str} {a11 a21 a31 a41 : Pos} {x2 : Str} {a12 a22 a32 a42 : Pos} (T : ExC K C f B newId initId Bs bmB) (F : InitFn P K C f ql pr (.Expr (supE p0 p1 p2 p3 p4 z kk) p5 :: [keepS x1 a11 a21 a31 a41, keepS x2 a12 a22 a32 a42]) sc fd) (S : InitScope ["self", x1, x2] ["self", x1, x2] sc) (hp : (pr.posonlyargs ++ pr.args).head? = some ar) (h0 : ("self" : Str) = ar.arg) (ms : mg "super" = none) (U : SupOk fd f p0 p1 p2 p3 p4 p5 z kk)
    (n1 : Nm x1) (k1 : PySem.W.takerIn K C x1 = some none) (n2 : Nm x2) (k2 : PySem.W.takerIn K C x2 = some none) : FnOk P w K mg base CX0 (k + 1) f fd ["self", x1, x2] (spI C [x1, x2]) := by
  refine ok_init T F S hp (by rw [← h0]; rfl) ms U (fun vs H Q E hyp => ?_) (fun vs H Q E hyp => ?_) (fun A outer s H vs Q E hyp => ?_)
  · obtain ⟨a, ws, rfl, hl, _⟩ := hyp
    rw [List.length_cons, hl]
    rfl
  · obtain ⟨a, ws, rfl, _, ea, _⟩ := hyp
    exact ⟨a, ws, rfl, ea⟩
  · obtain ⟨a, ws, rfl, hl, ea, q⟩ := hyp
    match ws, hl with
    | [v1, v2], _ =>
      have env : (cxI P w K mg base ["self", x1, x2] fd f A outer s H).env.scope = sc := by
        obtain ⟨oc, kV, doc, pm, cdv, ct, od, an, osl, cl, cc, ocl, occ, fv, file, tf, efd, _⟩ := F.ex
        rw [efd]
        rfl
      refine ⟨_, pss_cons (ps_keep (tak_name (i := 0) nm_self rfl (by rw [env]; exact S.par _ (by simp))) (tak_name (i := 1) n1 rfl (by rw [env]; exact S.par _ (by simp)))) (pss_one (ps_keep (tak_name (i := 0) nm_self rfl (by rw [env]; exact S.par _ (by simp))) (tak_name (i := 2) n2 rfl (by rw [env]; exact S.par _ (by simp))))), ?_⟩
      refine ⟨v1, rfl, .ref a, rfl, a, C, f, B, newId, initId, Bs, bmB, rfl, T, k1, .inl ⟨ea, fun dx nd ne => ?_⟩⟩
      have ha1 : (upd (upd H dx (exd dx [(x1, v1)])) a (exo a C (some dx))) a = some (exo a C (some dx)) := upd_same
      have hd1 : (upd (upd H dx (exd dx [(x1, v1)])) a (exo a C (some dx))) dx = some (exd dx [(x1, v1)]) := by
        rw [upd_ne ne]
        exact upd_same
      have hg1 : Grow H (upd (upd H dx (exd dx [(x1, v1)])) a (exo a C (some dx))) a := fun b o hb hba => by
        rw [upd_ne hba, upd_ne (ne_of_none hb nd)]
        exact hb
      generalize upd (upd H dx (exd dx [(x1, v1)])) a (exo a C (some dx)) = H1 at ha1 hd1 hg1 ⊢
      refine ⟨v2, rfl, .ref a, rfl, a, C, f, B, newId, initId, Bs, bmB, rfl, T, k2, .inr ⟨dx, _, ha1, hd1, by simp, ?_⟩⟩
      have ha2 : (upd H1 dx (exd dx [(x2, v2), (x1, v1)])) a = some (exo a C (some dx)) := by
        rw [upd_ne ne.symm]
        exact ha1
      have hd2 : (upd H1 dx (exd dx [(x2, v2), (x1, v1)])) dx = some (exd dx [(x2, v2), (x1, v1)]) := upd_same
      have hg2 : Grow H (upd H1 dx (exd dx [(x2, v2), (x1, v1)])) a := fun b o hb hba => by
        rw [upd_ne (ne_of_none hb nd)]
        exact hg1 b o hb hba
      generalize upd H1 dx (exd dx [(x2, v2), (x1, v1)]) = H2 at ha2 hd2 hg2 ⊢
      exact q _ hg2 (.inr ⟨dx, ha2, hd2, nd⟩)
theorem ok3 {x1 : Str} {a11 a21 a31 a41 : Pos} {x2 : Str} {a12 a22 a32 a42 : Pos} {x3 : Str} {a13 a23 a33 a43 : Pos} (T : ExC K C f B newId initId Bs bmB) (F : InitFn P K C f ql pr (.Expr (supE p0 p1 p2 p3 p4 z kk) p5 :: [keepS x1 a11 a21 a31 a41, keepS x2 a12 a22 a32 a42, keepS x3 a13 a23 a33 a43]) sc fd) (S : InitScope ["self", x1, x2, x3] ["self", x1, x2, x3] sc) (hp : (pr.posonlyargs ++ pr.args).head? = some ar) (h0 : ("self" : Str) = ar.arg) (ms : mg "super" = none) (U : SupOk fd f p0 p1 p2 p3 p4 p5 z kk)
    (n1 : Nm x1) (k1 : PySem.W.takerIn K C x1 = some none) (n2 : Nm x2) (k2 : PySem.W.takerIn K C x2 = some none) (n3 : Nm x3) (k3 : PySem.W.takerIn K C x3 = some none) : FnOk P w K mg base CX0 (k + 1) f fd ["self", x1, x2, x3] (spI C [x1, x2, x3]) := by
  refine ok_init T F S hp (by rw [← h0]; rfl) ms U (fun vs H Q E hyp => ?_) (fun vs H Q E hyp => ?_) (fun A outer s H vs Q E hyp => ?_)
  · obtain ⟨a, ws, rfl, hl, _⟩ := hyp
    rw [List.length_cons, hl]
    rfl
  · obtain ⟨a, ws, rfl, _, ea, _⟩ := hyp
    exact ⟨a, ws, rfl, ea⟩
  · obtain ⟨a, ws, rfl, hl, ea, q⟩ := hyp
    match ws, hl with
    | [v1, v2, v3], _ =>
      have env : (cxI P w K mg base ["self", x1, x2, x3] fd f A outer s H).env.scope = sc := by
        obtain ⟨oc, kV, doc, pm, cdv, ct, od, an, osl, cl, cc, ocl, occ, fv, file, tf, efd, _⟩ := F.ex
        rw [efd]
        rfl
      refine ⟨_, pss_cons (ps_keep (tak_name (i := 0) nm_self rfl (by rw [env]; exact S.par _ (by simp))) (tak_name (i := 1) n1 rfl (by rw [env]; exact S.par _ (by simp)))) (pss_cons (ps_keep (tak_name (i := 0) nm_self rfl (by rw [env]; exact S.par _ (by simp))) (tak_name (i := 2) n2 rfl (by rw [env]; exact S.par _ (by simp)))) (pss_one (ps_keep (tak_name (i := 0) nm_self rfl (by rw [env]; exact S.par _ (by simp))) (tak_name (i := 3) n3 rfl (by rw [env]; exact S.par _ (by simp)))))), ?_⟩
      refine ⟨v1, rfl, .ref a, rfl, a, C, f, B, newId, initId, Bs, bmB, rfl, T, k1, .inl ⟨ea, fun dx nd ne => ?_⟩⟩
      have ha1 : (upd (upd H dx (exd dx [(x1, v1)])) a (exo a C (some dx))) a = some (exo a C (some dx)) := upd_same
      have hd1 : (upd (upd H dx (exd dx [(x1, v1)])) a (exo a C (some dx))) dx = some (exd dx [(x1, v1)]) := by
        rw [upd_ne ne]
        exact upd_same
      have hg1 : Grow H (upd (upd H dx (exd dx [(x1, v1)])) a (exo a C (some dx))) a := fun b o hb hba => by
        rw [upd_ne hba, upd_ne (ne_of_none hb nd)]
        exact hb
      generalize upd (upd H dx (exd dx [(x1, v1)])) a (exo a C (some dx)) = H1 at ha1 hd1 hg1 ⊢
      refine ⟨v2, rfl, .ref a, rfl, a, C, f, B, newId, initId, Bs, bmB, rfl, T, k2, .inr ⟨dx, _, ha1, hd1, by simp, ?_⟩⟩
      have ha2 : (upd H1 dx (exd dx [(x2, v2), (x1, v1)])) a = some (exo a C (some dx)) := by
        rw [upd_ne ne.symm]
        exact ha1
      have hd2 : (upd H1 dx (exd dx [(x2, v2), (x1, v1)])) dx = some (exd dx [(x2, v2), (x1, v1)]) := upd_same
      have hg2 : Grow H (upd H1 dx (exd dx [(x2, v2), (x1, v1)])) a := fun b o hb hba => by
        rw [upd_ne (ne_of_none hb nd)]
        exact hg1 b o hb hba
      generalize upd H1 dx (exd dx [(x2, v2), (x1, v1)]) = H2 at ha2 hd2 hg2 ⊢
      refine ⟨v3, rfl, .ref a, rfl, a, C, f, B, newId, initId, Bs, bmB, rfl, T, k3, .inr ⟨dx, _, ha2, hd2, by simp, ?_⟩⟩
      have ha3 : (upd H2 dx (exd dx [(x3, v3), (x2, v2), (x1, v1)])) a = some (exo a C (some dx)) := by
        rw [upd_ne ne.symm]
        exact ha2
      have hd3 : (upd H2 dx (exd dx [(x3, v3), (x2, v2), (x1, v1)])) dx = some (exd dx [(x3, v3), (x2, v2), (x1, v1)]) := upd_same
      have hg3 : Grow H (upd H2 dx (exd dx [(x3, v3), (x2, v2), (x1, v1)])) a := fun b o hb hba => by
        rw [upd_ne (ne_of_none hb nd)]
        exact hg2 b o hb hba
      generalize upd H2 dx (exd dx [(x3, v3), (x2, v2), (x1, v1)]) = H3 at ha3 hd3 hg3 ⊢
      exact q _ hg3 (.inr ⟨dx, ha3, hd3, nd⟩)
end
end E9

set_option maxHeartbeats 4000000
namespace EA
open PySem PySem.Spec PyProof.Rows L2 E2 E3 E4 E5 E7 E8 E9
section
variable {X : Cx} {pins : List (Addr × Obj)} {σ : L2.St}
/-- an error without fields is let go of -/
theorem let_go {H1 H2 : Hp} {hp hp2 h2 : Heap} {g1 g2 : Array GenState} {d1 d2 : Drawn} {t1 t2 : Nat} {os1 os2 : OsState} {a C : Addr} (I1 : Inv X pins σ H1 ⟨hp, g1, d1, t1, os1⟩) (ha : hp.objs.size ≤ a) (k : ∀ b o, hp.get? b = some o → hp2.get? b = some o)
    (un : Un (frs X.stack) [] (upd H1 a (exo a C none)) H2 hp2 h2) (hok : HOk X.prog X.w H2 h2) (ho : os2 = os1) (hb : AllBare g2) (ea : H2 a = some (exo a C none)) :
    ∃ (t0 : Addr) (G : Heap), Inv X pins σ (del H2 a) ⟨G, g2, d2, t2, os2⟩ ∧ (∀ b o, G.get? b = some o → h2.get? b = some o) ∧ G.get? a = none ∧
      h2.get? a = some ({ cls := .ref C, dict := none, data := .fields #[.ref t0, .none, .none, .none, .bool false, .none] } : Obj) := by
  obtain ⟨t0, at2⟩ := exo_at hok ea
  have new : H1 a = none := I1.hok.fresh ha
  obtain ⟨G, gin, gout⟩ := restrict h2 fun b => decide (b ≠ a)
  have gk : ∀ b, b ≠ a → G.get? b = h2.get? b := fun b nb => gin b (decide_eq_true nb)
  have ga : G.get? a = none := gout a (by simp)
  have off : ∀ {b : Addr} {o : Obj}, hp.get? b = some o → b ≠ a := fun {b o} q => Nat.ne_of_lt (Nat.lt_of_lt_of_le (Heap.lt_size q) ha)
  have un0 : ∀ {b : Addr}, b ≠ a → H1 b = none → upd H1 a (exo a C none) b = none := fun {b} nb n => by
    rw [upd_ne nb]
    exact n
  have un1 : ∀ {b : Addr} {o : HO}, H1 b = some o → upd H1 a (exo a C none) b = some o ∧ b ≠ a := fun {b o} q => by
    have nb := ne_of_none q new
    exact ⟨by rw [upd_ne nb]; exact q, nb⟩
  have U : Un (frs X.stack) [] H1 (del H2 a) hp G :=
    { keep := fun b o q n hf hx => by
        rw [gk b (off q)]
        exact un.keep b o (k b o q) (un0 (off q) n) hf hx
      slot := fun b o q n hf hx => by
        rw [gk b (off q)]
        exact un.slot b o (k b o q) (un0 (off q) n) hf hx
      free := fun b o q n hx => by
        rw [del_ne (off q)]
        exact un.free b o (k b o q) (un0 (off q) n) hx
      there := fun b o q hx => by
        rw [gk b (off q)]
        exact un.there b o (k b o q) hx
      tups := fun b xs q => by
        rw [del_ne (un1 q).2]
        exact un.tups b xs (un1 q).1
      frzs := fun b o v q => by
        rw [del_ne (un1 q).2]
        exact un.frzs b o v (un1 q).1
      tbls := fun b ps q => by
        rw [del_ne (un1 q).2]
        exact un.tbls b ps (un1 q).1 }
  have hokG : HOk X.prog X.w (del H2 a) G := fun b o q => by
    have nb : b ≠ a := fun e => by
      rw [e, del_same] at q
      cases q
    rw [del_ne nb] at q
    have noO : ∀ {c : Addr}, H2 c = some (.own b) → c ≠ a := fun {c} hc => at_ne ea hc exo_own
    refine (hok b o q).stay (fun c v hc y => ?_) (fun c hc => by rw [del_ne (noO hc)]; exact hc) (fun c xs hc => by rw [del_ne (at_ne ea hc exo_tup)]; exact hc)
    have nc : c ≠ a := by
      rcases hc with hc | hc
      · rw [hc]
        exact nb
      · exact noO hc
    rw [gk c nc]
    exact y
  refine ⟨t0, G, I1.call' (ch := []) ho U hokG hb (fun b q => absurd q (by simp)), fun b o q => ?_, ga, at2⟩
  by_cases nb : b = a
  · rw [nb, ga] at q
    cases q
  · exact (gk b nb).symm.trans q
/-- C(e, ..) that is to be raised -/
def tMkE (C : Addr) (sp : Sp) (gV : List V → List V → List V) (ta : TA) : L2.St → Hp → XK → Prop := fun σ H Q => ta σ H fun vs H1 => vs.length ≤ 1000 ∧ ∀ a, H1 a = none → sp (gV (.ref a :: vs) []) (upd H1 a (exo a C none))
  (fun v H2 => v = .non ∧ ((∃ (d : Addr) (fs : List (Str × V)), H2 a = some (exo a C (some d)) ∧ H2 d = some (exd d fs) ∧ H1 d = none ∧ Q (.ref C) (some d) (upd (del H2 a) d (.xd fs))) ∨ (H2 a = some (exo a C none) ∧ Q (.ref C) none (del H2 a)))) fun _ _ _ => False
theorem run_mk {C fI : Addr} {B newId initId Bs : String} {bmB : List Value} {k : Nat} {fd : FuncData} {ps : List Str} {sp : Sp} {g : List Value → List Value → List Value} {gV : List V → List V → List V} {H : Hp} {s : Shared} {vs : List V} {us : List Value} {Q : XK}
    (T : ExC X.K C fI B newId initId Bs bmB) (F1 : FnOk X.prog X.w X.K X.mg X.base CX0 k fI fd ps sp) (hr : Room (k + 1) X.A) (kb : KBinds X.K fd ps [] g gV) (I : Inv X pins σ H s) (r : Vals vs us) (few : vs.length ≤ 1000)
    (hyp : ∀ a, H a = none → sp (gV (.ref a :: vs) []) (upd H a (exo a C none)) (fun v H2 => v = .non ∧ ((∃ (d : Addr) (fs : List (Str × V)), H2 a = some (exo a C (some d)) ∧ H2 d = some (exd d fs) ∧ H d = none ∧ Q (.ref C) (some d) (upd (del H2 a) d (.xd fs))) ∨ (H2 a = some (exo a C none) ∧ Q (.ref C) none (del H2 a)))) fun _ _ _ => False) :
    wpAny (model X.prog X.w) X.A (call (.ref C) us) (MkP X pins σ Q) X.xe s := by
  obtain ⟨_, bmE, eb⟩ := T.un.eb
  have KX := I.kIn
  obtain ⟨nm, N', qn, bs, bm, hdct, sn, sub, ab, col, dd, k0, k1, k2, k3, k5, hC, hT⟩ := PySem.W.excInit_of KX T.made
  have con : ∀ z : String, (Value.ref C :: bm).contains (.type z) = bmB.contains (.type z) := fun z => by
    rw [List.contains_cons, hT]
    rfl
  obtain ⟨hp, g0, dr, tk, os⟩ := s
  have new : H (hp.objs.size + 1) = none := I.hok.fresh (Nat.le_succ _)
  have hq := hyp (hp.objs.size + 1) new
  have up : ∀ b o, hp.get? b = some o → ((hp.push (PySem.W.kdv_tup us)).push (HandSPX.excO C hp.objs.size)).get? b = some o := fun b o e => Heap.get?_push_of_some _ (Heap.get?_push_of_some _ e)
  have mine : ((hp.push (PySem.W.kdv_tup us)).push (HandSPX.excO C hp.objs.size)).get? (hp.objs.size + 1) = some (HandSPX.excO C hp.objs.size) := by heap_get
  have I2 : Inv X pins σ (upd H (hp.objs.size + 1) (exo (hp.objs.size + 1) C none)) ⟨(hp.push (PySem.W.kdv_tup us)).push (HandSPX.excO C hp.objs.size), g0, dr, tk, os⟩ :=
    I.laid (t' := tk) (a := hp.objs.size + 1) (o := exo (hp.objs.size + 1) C none) (h' := (hp.push (PySem.W.kdv_tup us)).push (HandSPX.excO C hp.objs.size)) up (Nat.le_succ _) (exo_ok mine)
  have r1 : Vals (V.ref (hp.objs.size + 1) :: vs) (Value.ref (hp.objs.size + 1) :: us) := .cons rfl r
  have r2 := kb.rel r1 Paired.nil
  have hl : (g (Value.ref (hp.objs.size + 1) :: us) []).length = ps.length := by
    rw [← r2.length, F1.len _ _ _ _ hq]
  have hus : us.length ≤ sizeLine := by
    rw [← Paired.length r, sizeLine_eq]
    omega
  obtain ⟨oI, hoI, hcI⟩ : ∃ oI, hp.get? fI = some oI ∧ oI.cls = .type "function" := by
    obtain ⟨o, ho, hc⟩ := Option.map_eq_some_iff.mp (show (X.K.lookup fI).map (·.cls) = some (.type "function") from beq_iff_eq.mp T.isF)
    exact ⟨o, KX _ _ ho, hc⟩
  refine wpAny_call (E6.call_made (kw := []) eb ((con B).trans T.un.hasB) ((con _).trans T.un.noA) ((con _).trans T.un.noN) hC (PySem.W.looks_findIn KX T.ini) (fun self => PySem.W.exc_bind hoI hcI self) hus ?_)
  refine codeAny_mono (F1.run _ X.stack _ _ ⟨Value.ref (hp.objs.size + 1) :: us, []⟩ (g (Value.ref (hp.objs.size + 1) :: us) []) _ _ (fun _ _ _ => False) (hr.make C us []) (I2.env0.make C us []) (kb.to _ _ [] I2.kIn hl) r2 hq) fun rr s' hq' => ?_
  match rr, hq' with
  | .error er, z => exact z.elim
  | .ok .next, z => exact z.elim
  | .ok .brk, z => exact z.elim
  | .ok .cont, z => exact z.elim
  | .ok (.ret u), ⟨v, H2, os2, bare2, un2, hok2, rv, ev, q2⟩ =>
    subst ev
    obtain ⟨h2, g2, d2, t2, os'⟩ := s'
    refine ⟨rv, ?_⟩
    rcases q2 with ⟨d, fs, ea, ed, nd, q⟩ | ⟨ea, q⟩
    · exact mk_end (raises_own T.exC T.tyC) I (Nat.le_succ _) up un2 hok2 os2 bare2 ea ed nd q
    · obtain ⟨t0, G, J, kG, ge, at2⟩ := let_go (d2 := d2) (t2 := t2) I (Nat.le_succ _) up un2 hok2 os2 bare2 ea
      exact ⟨hp.objs.size + 1, _, _, ⟨G, g2, d2, t2, os'⟩, _, .ref C, none, rfl, J, kG, ge, at2, ⟨rfl, rfl⟩, rfl, rfl, del_same, rfl, bare2, raises_own T.exC T.tyC, q⟩
end
section
variable {X : Cx} {C fI : Addr} {B newId initId Bs : String} {bmB : List Value} {k : Nat} {fd : FuncData} {ps : List Str} {sp : Sp} {g : List Value → List Value → List Value} {gV : List V → List V → List V} {x : Str} {p pos : Pos} {e : Expr} {es : List Expr} {ta : TA}
theorem pmk_err (T : ExC X.K C fI B newId initId Bs bmB) (F1 : FnOk X.prog X.w X.K X.mg X.base CX0 k fI fd ps sp) (hr : Room (k + 1) X.A) (kb : KBinds X.K fd ps [] g gV) (hg : Gl X x) (hm : X.mg x = some (.ref C)) (ha : PA X (e :: es) ta)
    (hdb : (x == ("__debug__" : Str)) = false := by decide) (he : starEach (e :: es) X.env = (false, eval e X.env) :: starEach es X.env := by rfl) (hpl : (backTo pos (starEach es X.env)).any (·.1) = false := by rfl) :
    PMk X (.Call (.Name x p) (e :: es) [] pos) (tMkE C sp gV ta) := by
  intro pins s σ H Q I hyp
  refine wpAny_Call_Name_kw (ld_glob I hg hm ?_ hdb)
  refine PySem.W.callWith_K (h₀ := X.base) I.ok.mod.kin T.kC (thn (ha.run pos pins s σ H _ I hyp) fun us s1 ⟨vs, H1, I1, r1, few, q1⟩ => ⟨I1.kIn, ?_⟩) he hpl
  exact run_mk T F1 hr kb I1 r1 few q1
theorem pmk_err0 (T : ExC X.K C fI B newId initId Bs bmB) (F1 : FnOk X.prog X.w X.K X.mg X.base CX0 k fI fd ps sp) (hr : Room (k + 1) X.A) (kb : KBinds X.K fd ps [] g gV) (hg : Gl X x) (hm : X.mg x = some (.ref C)) (hdb : (x == ("__debug__" : Str)) = false := by decide) :
    PMk X (.Call (.Name x p) [] [] pos) (tMkE C sp gV tNil) := by
  intro pins s σ H Q I hyp
  refine wpAny_Call_Name_kw (ld_glob I hg hm ?_ hdb)
  exact PySem.W.callWith_K0 I.kIn T.kC (run_mk (us := []) (vs := []) T F1 hr kb I .nil hyp.1 hyp.2)
theorem pe_err0 (T : ExC X.K C fI B newId initId Bs bmB) (F1 : FnOk X.prog X.w X.K X.mg X.base CX0 k fI fd ps sp) (hr : Room (k + 1) X.A) (kb : KBinds X.K fd ps [] g gV) (hg : Gl X x) (hm : X.mg x = some (.ref C)) (hdb : (x == ("__debug__" : Str)) = false := by decide) :
    PE X (.Call (.Name x p) [] [] pos) (tErr C sp gV tNil tNil) := by
  refine ⟨fun pins s σ H Q I hyp => wpAny_Call_Name_kw (ld_glob I hg hm ?_ hdb)⟩
  exact PySem.W.callWith_K0 I.kIn T.kC (run_err (ks := []) (ws := []) (zs := []) (us := []) (vs := []) T F1 hr kb I .nil .nil hyp.1 hyp.2)
end
end EA

set_option maxHeartbeats 4000000
namespace G5
open PySem PySem.Spec PyProof.Rows L2 G3
/-- a def's promise where no repr is under way -/
structure FnG (P : Program) (w : World) (K : PySem.W.Frag) (mg : Str → Option Value) (base : Heap) (CX : CXT) (k : Nat) (f : Addr) (fd : FuncData) (ps : List Str) (sp : Sp) : Prop where
  len : ∀ vs H Q E, sp vs H Q E → vs.length = ps.length
  run : ∀ (A : Around) (outer : List Env) (s : Shared) (H : Hp) (args : Args) (us : List Value) (vs : List V) (Q : VK) (E : XK), A.guards = some [] → Room k A → Env0 P w K mg base A outer s H → BindsTo s fd args (ps.zip us) → Vals vs us → sp vs H Q E →
    codeAny (model P w) A (.call (.ref f) args) (CR CX outer P w H s Q E) s
theorem FnG.of {P : Program} {w : World} {K : PySem.W.Frag} {mg : Str → Option Value} {base : Heap} {CX : CXT} {k : Nat} {f : Addr} {fd : FuncData} {ps : List Str} {sp : Sp} (F : FnOk P w K mg base CX k f fd ps sp) : FnG P w K mg base CX k f fd ps sp :=
  ⟨F.len, fun A outer s H args us vs Q E _ => F.run A outer s H args us vs Q E⟩
section
variable {P : Program} {w : World} {K : PySem.W.Frag} {mg : Str → Option Value} {base : Heap} {CX : CXT}
/-- a def by its body -/
theorem body_of {x ql : Str} {st : Stmt} {f : Addr} {fd : FuncData} {N ps : List Str} {k : Nat} {sp : Sp} (F : Fun K x ql st f fd) (S : FnScope N ps (defScope st)) (len : ∀ vs H Q E, sp vs H Q E → vs.length = ps.length)
    (body : ∀ (cdv : Value) (A : Around) (outer : List Env) (s : Shared) (H : Hp) (vs : List V) (Q : VK) (E : XK), A.guards = some [] → Room k (A.deeper (envOfC ql (defScope st) s.heap.objs.size f cdv)) → sp vs H Q E →
      ∃ t, PSs (cxOf CX P w K mg base N ql (defScope st) f cdv A outer s H E) (defBody st) t ∧ t { nx := fun _ H' => Q .non H', rt := Q } (start N vs) H) : FnG P w K mg base CX (k + 1) f fd ps sp := by
  obtain ⟨oc, od, kV, doc, pm, an, cdv, ct, osl, rfl, lk, hcd⟩ := F.ex
  refine ⟨len, fun A outer s H args us vs Q E gu hr e0 hb r hyp => ?_⟩
  have inS : K.In s.heap := e0.mod.kin.keeps fun b o e => (e0.bs b o e).1
  have noL : s.heap.NoLimit := e0.mod.nolimit.keeps fun b o e => (e0.bs b o e).1
  refine codeAny_call_function hr.depth (inS _ _ lk) rfl S.co S.gen rfl (PySem.W.codeRec_of inS hcd) (hb _ _ _ _ ?_)
  refine wpAny_newFunctionEnv_cells S.kind (fun ⟨n, v⟩ hy => ?_) fun env he s1 y => ?_
  · rcases S.par n (List.of_mem_zip hy).1 with q | q
    · exact Or.inl q
    · exact Or.inr ⟨q, PySem.W.cellsFrom_some _ _ _ (Or.inl q)⟩
  subst he
  refine ⟨noL.keeps y.toInCall.keep, codeAny_func ?_⟩
  obtain ⟨t, pt, tt⟩ := body cdv A outer s H vs Q E gu (hr.deeper _) hyp
  have I : Inv (cxOf CX P w K mg base N ql (defScope st) f cdv A outer s H E) [] (start N vs) H s1 := inv_start S hr.hd e0 (len _ _ _ _ hyp) r y
  refine wpAny_mono (pt.run [] s1 _ H _ I tt) (fun fl s2 h2 => ?_) fun e s2 h2 => h2
  cases fl with
  | ret u =>
    obtain ⟨v, σ2, H2, J, rv, q⟩ := h2
    exact ⟨v, H2, J.os, J.bare, J.base, J.hok, rv, q⟩
  | next =>
    obtain ⟨σ2, H2, J, q⟩ := h2
    exact ⟨.non, H2, J.os, J.bare, J.base, J.hok, rfl, q⟩
  | brk =>
    obtain ⟨_, _, _, q⟩ := h2
    exact q.elim
  | cont =>
    obtain ⟨_, _, _, q⟩ := h2
    exact q.elim
/-- the same where nothing is raised -/
theorem body_of0 {x ql : Str} {st : Stmt} {f : Addr} {fd : FuncData} {N ps : List Str} {k : Nat} {sp : Sp} (F : Fun K x ql st f fd) (S : FnScope N ps (defScope st)) (len : ∀ vs H Q E, sp vs H Q E → vs.length = ps.length)
    (body : ∀ (cdv : Value) (A : Around) (outer : List Env) (s : Shared) (H : Hp) (vs : List V) (Q : VK) (E : XK), A.guards = some [] → Room k (A.deeper (envOfC ql (defScope st) s.heap.objs.size f cdv)) → sp vs H Q E →
      ∃ t, PSs (cxOf CX0 P w K mg base N ql (defScope st) f cdv A outer s H E).nox (defBody st) t ∧ t { nx := fun _ H' => Q .non H', rt := Q } (start N vs) H) : FnG P w K mg base CX0 (k + 1) f fd ps sp :=
  body_of F S len fun cdv A outer s H vs Q E gu hr hyp => by
    obtain ⟨t, h1, h2⟩ := body cdv A outer s H vs Q E gu hr hyp
    exact ⟨t, h1.nox, h2⟩
end
section
variable {X : Cx} {CX : CXT} {k : Nat} {f : Addr} {fd : FuncData} {ps ks : List Str} {sp : Sp} {E : XK} {x : Str} {p pos : Pos} {e : Expr} {es : List Expr} {t tk : TA} {kws : List Keyword} {g : List Value → List Value → List Value} {gV : List V → List V → List V}
theorem run_G {pins : List (Addr × Obj)} {σ : L2.St} {H : Hp} {s : Shared} {Q : VK} {us ws : List Value} {vs zs : List V} (F : FnG X.prog X.w X.K X.mg X.base CX k f fd ps sp) (gu : X.A.guards = some []) (hr : Room k X.A) (kb : KBinds X.K fd ps ks g gV) (hx : Passes CX X E)
    (I : Inv X pins σ H s) (r : Vals vs us) (rz : Vals zs ws) (hyp : sp (gV vs zs) H Q E) : wpAny (model X.prog X.w) X.A (call (.ref f) us (ks.zip ws)) (EP X pins σ Q) X.xe s := by
  have r2 := kb.rel r rz
  have hl : (g us ws).length = ps.length := by rw [← r2.length]; exact F.len _ _ _ _ hyp
  refine wpAny_call (codeAny_mono (F.run X.A X.stack s H ⟨us, ks.zip ws⟩ (g us ws) _ Q E gu hr I.env0 (kb.to s us ws I.kIn hl) r2 hyp) fun rr s' hq => ?_)
  match rr, hq with
  | .error er, z => exact hx pins σ H s er s' I z
  | .ok .next, z => exact False.elim z
  | .ok .brk, z => exact False.elim z
  | .ok .cont, z => exact False.elim z
  | .ok (.ret u), z => exact I.after z
/-- by place alone -/
theorem kb_place {K : PySem.W.Frag} (b : Binds K fd ps []) : KBinds K fd ps [] (fun us _ => us) (fun vs _ => vs) := by
  refine ⟨fun s us ws X hl => ?_, fun r1 _ => r1⟩
  have h := b s us X (by rw [List.append_nil]; exact hl)
  rw [List.append_nil] at h
  cases ws <;> exact h
theorem pe_callG (F : FnG X.prog X.w X.K X.mg X.base CX k f fd ps sp) (gu : X.A.guards = some []) (hr : Room k X.A) (hg : Gl X x) (hm : X.mg x = some (.ref f)) (hk : PySem.W.keepIn X.K (.ref f) = true) (b : Binds X.K fd ps []) (hx : Passes CX X E) (ha : PA X (e :: es) t)
    (hdb : (x == ("__debug__" : Str)) = false := by decide) (he : starEach (e :: es) X.env = (false, eval e X.env) :: starEach es X.env := by rfl) (hpl : (backTo pos (starEach es X.env)).any (·.1) = false := by rfl) :
    PE X (.Call (.Name x p) (e :: es) [] pos) (fun σ H Q => t σ H fun vs H1 => sp vs H1 Q E) := by
  refine ⟨fun pins s σ H Q I hyp => wpAny_Call_Name_kw (ld_glob I hg hm ?_ hdb)⟩
  refine PySem.W.callWith_K (h₀ := X.base) I.ok.mod.kin hk (thn (ha.run pos pins s σ H _ I hyp) fun us s1 ⟨vs, H1, I1, r, q⟩ => ⟨I1.kIn, ?_⟩) he hpl
  exact run_G (ks := []) (ws := []) (zs := []) F gu hr (kb_place b) hx I1 r .nil q
end
end G5

set_option maxHeartbeats 4000000
namespace EB
open PySem PySem.Spec PyProof.Rows L2 E2 E3 E4 E5 E7 E8 E9
/-- isinstance(err, c) -/
def rIsErr (K : PySem.W.Frag) : List V → Hp → VK → Prop := fun xs H Q => ∃ (a C : Addr) (fs : List (Str × V)) (c : V) (u : Value) (b : Bool), xs = [.ref a, c] ∧ ErrAt H a C fs ∧ ExcC K C ∧ ClsV c u ∧ PySem.W.kitOne K (.ref C) u = some b ∧ Q (.bl b) H
theorem call_isErr {X : Cx} : CallR X (.builtin "isinstance") (rIsErr X.K) := by
  intro pins s σ H xs us Q I r hyp
  obtain ⟨a, C, fs, c, u, b, rfl, ea, T, cv, e, q⟩ := hyp
  cases r with
  | cons rx rr =>
    cases rr with
    | cons rt rr =>
      cases rr
      cases rx
      have ec := cv.eq rt
      subst ec
      have hcl : (PySem.W.clsIn X.K C).isSome = true := by
        obtain ⟨cd, hc, _⟩ := PySem.W.any_some T.hd
        rw [hc]
        rfl
      have fin : ∀ {ox : Obj} {od : Option Obj}, PySem.W.InstAt s.heap a ox C od → wpAny (model X.prog X.w) X.A (call (.builtin "isinstance") [.ref a, _]) (EP X pins σ Q) X.xe s := fun {ox od} J =>
        PySem.W.kia_one (PySem.W.kitx_exc hcl T.hg T.hk T.hs T.ha T.hn T.ht T.hm) I.kIn J e (fun z => nomatch z) fun tk => ⟨.bl b, H, I.kept (t' := tk) fun _ _ z => z, rfl, q⟩
      rcases ea with ⟨_, ea⟩ | ⟨dx, ea, ed⟩
      · obtain ⟨t1, at0⟩ := exo_at I.hok ea
        exact fin (ox := _) (od := none) ⟨at0, rfl, rfl, trivial⟩
      · obtain ⟨t1, at0⟩ := exo_at I.hok ea
        obtain ⟨mA, ⟨oD, es, ep, hoD, _⟩, _⟩ := exd_at I.hok ed
        exact fin (ox := _) (od := some oD) ⟨at0, rfl, rfl, hoD⟩
end EB

set_option maxHeartbeats 4000000
namespace EC
open PySem PySem.Spec PyProof.Rows L2 E2 E3 E4 E5 E7 E8 E9
/-- an error that was caught and is kept -/
def exk (a : Addr) (cls : Value) (d : Option Addr) : HO := .ext fun h => ∃ (oe : Obj) (vs : Array Value), h.get? a = some oe ∧ Zc cls d oe ∧ oe.data = .fields vs
theorem exk_ok {P : Program} {w : World} {H : Hp} {h : Heap} {a : Addr} {cls : Value} {d : Option Addr} {oe : Obj} {vs : Array Value} (e : h.get? a = some oe) (z : Zc cls d oe) (dt : oe.data = .fields vs) : ObjOk P w H h a (exk a cls d) :=
  ⟨⟨oe, vs, e, z, dt⟩, ⟨_, e⟩, fun h1 h2 ⟨o, v, q1, q2, q3⟩ k => ⟨o, v, k _ q1, q2, q3⟩⟩
theorem exk_at {P : Program} {w : World} {H : Hp} {h : Heap} {a : Addr} {cls : Value} {d : Option Addr} (hok : HOk P w H h) (e : H a = some (exk a cls d)) : ∃ (oe : Obj) (vs : Array Value), h.get? a = some oe ∧ Zc cls d oe ∧ oe.data = .fields vs := by
  have x : ObjOk P w H h a (.ext fun h => ∃ (oe : Obj) (vs : Array Value), h.get? a = some oe ∧ Zc cls d oe ∧ oe.data = .fields vs) := hok a _ e
  exact x.1
/-- a place that came new -/
structure Fresh (X : Cx) (pins : List (Addr × Obj)) (a : Addr) : Prop where
  n0 : X.s_0.heap.get? a = none
  nL : X.env.locals ≠ a
  nC : ∀ x c, X.env.cells.lookup x = some c → c ≠ a
  nP : ∀ p ∈ X.pn ++ pins, p.1 ≠ a
theorem fresh_of {X : Cx} {pins : List (Addr × Obj)} {σ : L2.St} {H : Hp} {s : Shared} {a : Addr} (I : Inv X pins σ H s) (ga : s.heap.get? a = none) (hx : X.ex = []) : Fresh X pins a := by
  refine ⟨?_, fun e => ?_, fun x c h e => ?_, fun p hp e => ?_⟩
  · cases q : X.s_0.heap.get? a with
    | none => rfl
    | some o =>
      obtain ⟨o', q'⟩ := I.base.there a o q (by rw [hx]; exact List.not_mem_nil)
      rw [ga] at q'
      cases q'
  · obtain ⟨m, ⟨o, es, ep, q, _⟩, _⟩ := I.loc
    rw [e, ga] at q
    cases q
  · obtain ⟨v, o, q, _⟩ := I.cell x c h
    rw [e, ga] at q
    cases q
  · have q := (I.pin p hp).1
    rw [e, ga] at q
    cases q
theorem retrack {X : Cx} {pins : List (Addr × Obj)} {σ : L2.St} {H : Hp} {s : Shared} {a : Addr} {o : HO} (F : Fresh X pins a) (I : Inv X pins σ H s) (na : H a = none) (ok : ObjOk X.prog X.w (upd H a o) s.heap a o) : Inv X pins σ (upd H a o) s := by
  have ne : ∀ {b : Addr} {u : HO}, H b = some u → b ≠ a := fun {b u} q => ne_of_none q na
  refine ⟨I.ok, I.os, I.bare, ?_, I.loc, I.cell, ?_, fun x c h => ?_, fun p hp => ?_, HOk.laidN I.hok (fun _ _ e => e) na ok, I.len⟩
  · exact { keep := I.base.keep, slot := I.base.slot,
            free := fun b u q n hx => by
              rw [upd_ne (fun e => by rw [e, F.n0] at q; cases q)]
              exact I.base.free b u q n hx
            there := I.base.there
            tups := fun b xs q => by
              have z := I.base.tups b xs q
              rw [upd_ne (ne z)]
              exact z
            frzs := fun b u v q => by
              have z := I.base.frzs b u v q
              rw [upd_ne (ne z)]
              exact z
            tbls := fun b ps q => by
              obtain ⟨m, z⟩ := I.base.tbls b ps q
              exact ⟨m, by rw [upd_ne (ne z)]; exact z⟩ }
  · rw [upd_ne F.nL]
    exact I.free
  · rw [upd_ne (F.nC x c h)]
    exact I.freeC x c h
  · obtain ⟨q1, q2, q3⟩ := I.pin p hp
    exact ⟨q1, by rw [upd_ne (F.nP p hp)]; exact q2, q3⟩
/-- except C as n: .., and the error is kept behind it -/
def wKept (K : PySem.W.Frag) (c : Value) (i : Nat) (ts : Addr → Value → Option Addr → TS) (Wout : WX) (D : Ends) : WX := fun cls d σ H =>
  ∃ b, PySem.W.exmOne K cls c = some b ∧ (b = true → ∀ a, H a = none → ts a cls d { nx := fun σ' H' => H' a = none ∧ D.nx (σ'.set i none) (upd H' a (exk a cls d)), rt := fun _ _ => False, bk := fun _ _ => False, ct := fun _ _ => False } (σ.set i (some (.ref a))) H) ∧
    (b = false → Wout cls d σ H)
section
variable {X : Cx} {x n : Str} {c : Value} {i : Nat} {body suite : List Stmt} {b0 : Stmt} {np pos pos' : Pos} {tb : WX → TS} {ts : Addr → Value → Option Addr → TS} {Wout : WX}
theorem ps_try_kept (hs : X.stack = X.env :: X.outer) (hf : X.env.frame = some X.env.locals) (hN : X.N.Nodup) (hi : X.N[i]? = some n) (hln : X.env.kindOf n = some .local) (hc : Names X x c) (hx : X.ex = [])
    (hb : ∀ (W : WX) (pn : List (Addr × Obj)) (xe : Value → Shared → Prop), Takes (X.tr pn xe) W → PassesOwn (model X.prog X.w) X.A X.env xe → PSs (X.tr pn xe) body (tb W))
    (hsu : ∀ (a : Addr) (oe : Obj) (cls : Value) (d : Option Addr) (pn : List (Addr × Obj)), Zc cls d oe → (∃ vs, oe.data = .fields vs) → PSs (X.suite a ((a, oe) :: pn)) (b0 :: suite) (ts a cls d)) :
    PS X (.Try body [.ExceptHandler (some (.Name x np)) (some n) (b0 :: suite) pos'] [] [] pos) (fun D σ H => tb (wKept X.K c i ts (fun _ _ _ _ => False) D) D σ H) := by
  refine ⟨fun pins s σ H D I hyp => ?_⟩
  have ok := I.ok
  have frm : X.A.frames = some (X.env :: X.outer) := by rw [ok.frames, hs]
  refine wpAny_Try_except ?_
  have run := hb (wKept X.K c i ts (fun _ _ _ _ => False) D) (X.pn ++ pins) (fun e s1 => wpAny (model X.prog X.w) X.A (noteFrame e X.env) (fun _ s2 => wpAny (model X.prog X.w) X.A (setFlight e none)
    (fun _ s3 => wpAny (model X.prog X.w) X.A (handleBy e X.env [.ExceptHandler (some (.Name x np)) (some n) (b0 :: suite) pos']) (SP X pins D) X.xe s3) X.xe s2) X.xe s1)
  refine wpAny_mono ((run (fun u s' xx => ?_) PassesOwn.looking).run [] s σ H D (I.toTry _) hyp) (fun fl s1 sp => ?_) (fun e s1 he => he)
  · obtain ⟨a, B, sI, pins', σ', H', cls, d, rfl, J', nb, up, sky, na, os, ag, b, hb1, yes, no⟩ := xx
    have J : Inv X pins σ' H' sI := J'.ofTry ok
    have sky2 : Sky B (X.env :: X.outer) a (Zc cls d) X.env.locals s'.heap := by rw [← hs]; exact sky
    show wpAny (model X.prog X.w) X.A (noteFrame (.ref a) X.env) _ _ _
    refine Sky.land Zc.steady frm hf sky2 fun h3 fl3 up3 => ?_
    have J3 : Inv X pins σ' H' { s' with heap := h3 } := J.landed nb fl3.1 (up.trans up3) os ag
    obtain ⟨oe3, vs3, at3, z3, d3⟩ := fl3.there
    have nfr : a ∉ frs (X.env :: X.outer) := fun hm => by
      obtain ⟨_, o', e', nf⟩ := fl3.2.2.1.mem hm
      rw [at3] at e'
      cases e'
      exact nf _ d3
    have gone : sI.heap.get? a = none := by
      cases q : sI.heap.get? a with
      | none => rfl
      | some o =>
        have z := nb a o q (by rw [show (frs X.stack) = frs (X.env :: X.outer) by rw [hs]]; exact nfr)
        rw [fl3.2.1] at z
        cases z
    have Fr := fresh_of J gone hx
    have nF : a ∉ X.fs := fun hm => by
      obtain ⟨e, he, q⟩ := List.mem_filterMap.mp hm
      exact nfr (List.mem_filterMap.mpr ⟨e, List.mem_cons_of_mem _ he, q⟩)
    have S3 := J3.suite at3 d3 na (fun e => Fr.nL e.symm) nF
    refine wpAny_handleBy_cons (codeAny_handlers_test ?_) (by intro q; cases q)
    have LT : PySem.W.Looks (model X.prog X.w) h3 (typeOf (.ref a)) cls := fun A Q E s k q => wpAny_typeOf_ref (k _ _ at3) (by rw [z3.1]; exact q)
    have LM := PySem.W.exm_one (M := model X.prog X.w) (J3.kIn) LT hb1
    have test : ∀ {Q : Value → Shared → Prop} {E : Value → Shared → Prop}, Q c { s' with heap := h3 } → wpAny (model X.prog X.w) (X.A.mark (some (.ref a))) (eval (.Name x np) X.env) Q E { s' with heap := h3 } := fun {Q E} q => by
      obtain ⟨hg, hdbg, hm | ⟨hm, hv, hnn⟩⟩ := hc
      · exact ld_glob (X := X.suite a ((a, oe3) :: (X.pn ++ pins))) S3 hg hm q hdbg
      · exact ld_blt (X := X.suite a ((a, oe3) :: (X.pn ++ pins))) S3 hg hm hv q hnn hdbg
    refine test (LM.here ?_)
    cases b with
    | false => exact (no rfl).elim
    | true =>
      refine codeAny_handlers_suite_as (HandSPX.lands_againZ fl3 fun h4 fl4 up4 => ?_)
      have J4 : Inv X pins σ' H' { s' with heap := h4 } := J.landed nb fl4.1 ((up.trans up3).trans up4) os ag
      obtain ⟨oe4, vs4, at4, z4, d4⟩ := fl4.there
      have S4 := J4.suite at4 d4 na (fun e => Fr.nL e.symm) nF
      refine store_ok (X := X.suite a ((a, oe4) :: (X.pn ++ pins))) (v := .ref a) S4 hN hi (.inl hln) rfl (fun s5 S5 => ?_) (.inr hln)
      refine wpAny_mono ((hsu a oe4 cls d (X.pn ++ pins) z4 ⟨_, d4⟩).run [] s5 _ H' _ S5 (yes rfl a na)) (fun fl s6 sp => ?_) (fun _ _ z => False.elim z)
      cases fl with
      | next =>
        obtain ⟨σ6, H6, S6, n6, q6⟩ := sp
        have at6 := (S6.pin (a, oe4) (List.mem_append_left _ List.mem_cons_self)).1
        have J6 := retrack (o := exk a cls d) Fr (S6.unsuite ok) n6 (exk_ok at6 z4 d4)
        exact gone_ok J6 hN hi hln fun s7 J7 => ⟨_, _, J7, q6⟩
      | brk =>
        obtain ⟨_, _, _, q⟩ := sp
        exact q.elim
      | cont =>
        obtain ⟨_, _, _, q⟩ := sp
        exact q.elim
      | ret u =>
        obtain ⟨_, _, _, _, _, q⟩ := sp
        exact q.elim
  · cases fl with
    | next =>
      obtain ⟨σ', H', J', q⟩ := sp
      exact wpAny_execs_nil ⟨σ', H', J'.ofTry ok, q⟩
    | brk =>
      obtain ⟨σ', H', J', q⟩ := sp
      exact ⟨σ', H', J'.ofTry ok, q⟩
    | cont =>
      obtain ⟨σ', H', J', q⟩ := sp
      exact ⟨σ', H', J'.ofTry ok, q⟩
    | ret u =>
      obtain ⟨v, σ', H', J', r, q⟩ := sp
      exact ⟨v, σ', H', J'.ofTry ok, r, q⟩
end
/-- kept.f -/
def tKeptF (K : PySem.W.Frag) (f : Str) (te : TE) : TE := fun σ H Q => te σ H fun x H1 => ∃ (a C d : Addr) (fs : List (Str × V)) (v : V), x = .ref a ∧ ExcC K C ∧ PySem.W.findIn K (.ref C) f = some none ∧ H1 a = some (exk a (.ref C) (some d)) ∧ H1 d = some (.xd fs) ∧ fs.lookup f = some v ∧ Q v H1
theorem pe_keptF {X : Cx} {e : Expr} {te : TE} {pos : Pos} {n : Str} (he : PE X e te) (hb : attributeBase e n X.env (eval e X.env) = eval e X.env := by rfl) : PE X (.Attribute e n pos) (tKeptF X.K n te) := by
  refine ⟨fun pins s σ H Q I hyp => attr_of hb (thn (he.run pins s σ H _ I hyp) fun u s1 hh => ?_)⟩
  obtain ⟨x, H1, I1, rx, a, C, d, fs, v, ex, T, no, ea, ed, l, q⟩ := hh
  subst ex
  obtain rfl : u = Value.ref a := rx
  obtain ⟨oe, vs, at0, z0, dt⟩ := exk_at I1.hok ea
  obtain ⟨mA, nsD, rel⟩ := (show ObjOk X.prog X.w H1 s1.heap d (.xd fs) from I1.hok d _ ed)
  obtain ⟨od, ho, hl⟩ := lookIn_ns nsD
  obtain ⟨u, hu, ru⟩ := RelO.some_of (v := v) (o := mA n) (by rw [← l]; exact rel n)
  have J : PySem.W.InstAt s1.heap a oe C (some od) := ⟨at0, z0.1, by unfold PySem.W.notCls; rw [dt] <;> rfl, by rw [z0.2]; exact ho⟩
  exact HandSPX.exc_get I1.kIn J T.hg T.hk T.hs (PySem.W.findObj_own T.hd no rfl (by rw [hl, hu])) (handed_of ru) ⟨v, H1, I1.tok _, ru, q⟩
end EC

set_option maxHeartbeats 4000000
namespace G6
open PySem PySem.Spec PyProof.Rows L2
/-- a dict with one text for a key and the empty list behind it -/
def DictB (H : Hp) (z : Str) (d : Addr) : Prop := ∃ i, H d = some (.dK [(Sum.inr z, .ref i)]) ∧ H i = some (.lst [])
def tB (z : Str) : Str := dictText [reprText z ++ ": " ++ "[]"]
section
variable {X : Cx} {pins : List (Addr × Obj)} {σ : L2.St} {H : Hp} {s : Shared} {d : Addr} {z : Str}
structure AtB (h : Heap) (prog : Program) (w : World) (d i : Addr) (z : Str) : Prop where
  di : d ≠ i
  dict : ∃ o es n, h.get? d = some o ∧ o.cls = .type "dict" ∧ o.data = .dict es n ∧ (d == sysModules) = false ∧ ReprEntriesK prog w [i] h 0 es.toList [reprText z ++ ": " ++ "[]"]
  emp : ∃ o n, h.get? i = some o ∧ o.cls = .type "list" ∧ o.data = .seq #[] n
theorem at_b (I : Inv X pins σ H s) (hz : (reprText z).length ≤ sizeLine) (h : DictB H z d) : ∃ i, AtB s.heap X.prog X.w d i z ∧ H i = some (.lst []) := by
  obtain ⟨i, hd, hi⟩ := h
  obtain ⟨_, its, n, rv, ei⟩ := (show ObjOk X.prog X.w H s.heap i (.lst []) from I.hok i _ hi)
  cases rv
  obtain ⟨_, nsys, vs, kv, o, es, ep, eo, ex, dt, ks, prs, _⟩ := (show ObjOk X.prog X.w H s.heap d (.dK [(Sum.inr z, .ref i)]) from I.hok d _ hd)
  have hdi : d ≠ i := ne_of hd hi (by intro q; cases q)
  refine ⟨i, ⟨hdi, ⟨o, es, ep, eo, ex.1, dt, nsys, ?_⟩, ⟨_, n, ei, rfl, rfl⟩⟩, hi⟩
  match vs, kv with
  | [(k', u)], .cons r1 .nil =>
    have e1 : k' = Sum.inr z := r1.1.symm
    have e2 : u = Value.ref i := r1.2
    subst e1 e2
    generalize es.toList = l at prs ⊢
    match l, prs with
    | [e], .cons p1 p2 .nil =>
      obtain ⟨key, t, e3, e4⟩ : ∃ x t, (Sum.inr z : Key) = Sum.inr x ∧ e.key = Value.str x t := by
        rcases keyIs_shape (show keyIs (Sum.inr z) e.key = true from p1) with ⟨_, _, q, _⟩ | ⟨x, t, q1, q2⟩
        · cases q
        · exact ⟨x, t, q1, q2⟩
      cases e3
      refine .cons ?_ ?_ .nil
      · rw [e4]
        exact .of_is (ReprIs.str z t hz) _ _ _
      · rw [show e.val = Value.ref i from p2]
        exact ReprK.listEmpty ei rfl rfl
/-- repr of such a dict, and of a list of the same over and over -/
def rReprB : List V → Hp → VK → Prop := fun xs H Q => ∃ (z : Str) (d : Addr), (reprText z).length ≤ 100 ∧ (tB z).length ≤ 200 ∧ DictB H z d ∧ ((xs = [.ref d] ∧ Q (.str (tB z)) H) ∨
  ∃ (l : Addr) (n : Nat), xs = [.ref l] ∧ H l = some (.lst (List.replicate (n + 1) (.ref d))) ∧ n ≤ 100 ∧ Q (.str (listText (List.replicate (n + 1) (tB z)))) H)
theorem vals_same {d : Addr} : ∀ {n : Nat} {its : List Value}, Vals (List.replicate n (V.ref d)) its → its = List.replicate n (Value.ref d)
  | 0, _, .nil => rfl
  | n + 1, _, r => by
    rw [List.replicate_succ] at r
    cases r with
    | cons r1 r2 =>
      cases r1
      rw [vals_same r2, List.replicate_succ]
theorem call_reprB (gu : X.A.guards = some []) (ro : X.A.units + 64 < cLine) : CallR X (.builtin "repr") rReprB := by
  intro pins s σ H xs us Q I rel hyp
  obtain ⟨z, d, hz, ln, hb, hyp⟩ := hyp
  have hz2 : (reprText z).length ≤ sizeLine := Nat.le_trans hz (by decide)
  obtain ⟨i, B, hi⟩ := at_b I hz2 hb
  obtain ⟨o, es, n, eo, ec, ed, nsys, ent⟩ := B.dict
  have one : ReprK X.prog X.w [d, i] s.heap 1 (.ref d) (tB z) := ReprK.dict eo ec ed nsys (by simp [B.di]) ent
  rcases hyp with ⟨rfl, fin⟩ | ⟨l, n, rfl, hl, hn, fin⟩
  · obtain ⟨u, rfl, ru⟩ := vals1 rel
    obtain rfl : u = Value.ref d := ru
    refine call_repr_slot (by omega) ⟨o, eo, ec⟩ F.slot_dict_repr (call_dict_reprK (d := 0) eo ec ed nsys (by simp [B.di]) ent gu (fun b _ => Clear.nil b) (by show X.A.units + 1 + 1 < cLine; omega) (fun _ _ e => e) (fun h' u tk k => ⟨_, _, rfl, .str _, H, I.kept k, ⟨_, rfl⟩, fin⟩) (Nat.le_trans ln (by decide)))
  · obtain ⟨u, rfl, ru⟩ := vals1 rel
    obtain rfl : u = Value.ref l := ru
    obtain ⟨_, its, m, rv, el⟩ := (show ObjOk X.prog X.w H s.heap l (.lst (List.replicate (n + 1) (.ref d))) from I.hok l _ hl)
    have eit := vals_same rv
    subst eit
    have hld : l ≠ d := by
      obtain ⟨i', hd, _⟩ := hb
      exact ne_of hl hd (by intro q; cases q)
    have hli : l ≠ i := ne_of hl hi (by intro q; rw [List.replicate_succ] at q; cases q)
    rw [List.replicate_succ] at el
    refine call_repr_slot (by omega) ⟨_, el, rfl⟩ F.slot_list_repr.toG (call_list_reprK (as := [d, i]) (d := 1) (ts := List.replicate (n + 1) (tB z)) el rfl rfl (by simp [hld, hli]) (by simp) (fun j y ej => ?_) gu (fun b _ => Clear.nil b) (by show X.A.units + 1 + (1 + 1) < cLine; omega) (fun _ _ e => e)
      (fun h' u tk k => ⟨_, _, rfl, .str _, H, I.kept k, ⟨_, rfl⟩, fin⟩) ?_)
    · rw [← List.replicate_succ, List.getElem?_toArray] at ej
      have hj : j < n + 1 := by
        have := (List.getElem?_eq_some_iff.mp ej).1
        rwa [List.length_replicate] at this
      rw [List.getElem?_replicate, if_pos hj] at ej
      obtain rfl : Value.ref d = y := Option.some.inj ej
      refine ⟨tB z, ?_, one⟩
      rw [List.getElem?_replicate, if_pos hj]
    · refine Nat.le_trans (listText_len_le _) ?_
      rw [List.map_replicate, List.sum_replicate_nat, List.length_replicate]
      refine Nat.le_trans (show (n + 1) * (tB z).length + 2 * (n + 1) + 3 ≤ 101 * 200 + 2 * 101 + 3 from ?_) (by decide)
      have := Nat.mul_le_mul (show n + 1 ≤ 101 by omega) ln
      omega
end
end G6

set_option maxHeartbeats 4000000
/-! own errors as any law needs them: found, made, raised, caught -/
namespace EE
open PySem PySem.Spec PyProof.Rows L2 G3 G5 E2 E3 E4 E5 E7 E8 E9 EB EC
def initOf (s : Stmt) : Stmt := match s with
  | .ClassDef _ _ _ b _ _ _ _ _ _ _ => b.getD 0 (.Pass ⟨0, 0, 0, 0⟩)
  | s => s
/-- all that can be asked of the class by looking -/
def lookC (K : PySem.W.Frag) (C fI : Addr) (B newId initId : String) (bmB : List Value) (fn : List Str) : Bool :=
  PySem.W.excInitIn K C bmB newId && (PySem.W.excOver K C bmB && (PySem.W.hasDictIn K C && (decide (PySem.W.findIn K (.ref C) "__setattr__" = some (some (.builtin "object.__setattr__"))) && (decide (PySem.W.findIn K (.ref C) "__init__" = some (some (.ref fI))) &&
  (PySem.W.isFn K (.ref fI) && (decide (PySem.W.ks_superIn K C C "__init__" = some (some (.builtin initId))) && (decide (PySem.W.subIn K (.ref C) (.type B) = some true) && (decide (PySem.W.subIn K (.ref C) (.ref C) = some true) && (decide (PySem.W.nsIn K cStatics "thirdparty.any" = some none) &&
  (decide (PySem.W.subIn K (.ref C) (.type "BaseException") = some true) && (decide (PySem.W.typeIn K (.ref C) = some (.type "type")) && (PySem.W.keepIn K (.ref C) && (decide (PySem.W.findIn K (.ref C) "__getattribute__" = some (some (.builtin "BaseException.__getattribute__"))) &&
  (decide (PySem.W.findIn K (.ref C) "__getattr__" = some none) && (decide (PySem.W.findIn K (.ref C) "__class__" = some (some (.builtin "object.__class__"))) && (decide (PySem.W.specialIn K (.builtin "object.__class__") "__get__" = some (some (.builtin "getset_descriptor.__get__"))) &&
  (decide (PySem.W.takesIn K (.builtin "object.__class__") = some true) && (decide (PySem.W.mroIn K C (.type "object") = some true) && fn.all fun f => decide (PySem.W.takerIn K C f = some none) && decide (PySem.W.findIn K (.ref C) f = some none)))))))))))))))))))
theorem looked {K : PySem.W.Frag} {C fI : Addr} {B newId initId Bs : String} {bmB : List Value} {fn : List Str} (U : Under B newId initId Bs bmB) (h : lookC K C fI Bs newId initId bmB fn = true) :
    ExC K C fI B newId initId Bs bmB ∧ ExcC K C ∧ ∀ f ∈ fn, PySem.W.takerIn K C f = some none ∧ PySem.W.findIn K (.ref C) f = some none := by
  unfold lookC at h
  simp only [Bool.and_eq_true, decide_eq_true_eq, List.all_eq_true] at h
  obtain ⟨h1, h2, h3, h4, h5, h6, h7, h8, h9, h10, h11, h12, h13, h14, h15, h16, h17, h18, h19, h20⟩ := h
  obtain ⟨cd, hc, hd⟩ := PySem.W.any_some h3
  exact ⟨⟨U, h1, h2, ⟨cd, hc, hd⟩, h4, h5, h6, h7, h8, h9, h10, h11, h12, h13⟩, ⟨h14, h15, h11, h3, h16, h17, h18, h19⟩, h20⟩
/-- by place; by names, the last first -/
def kwG {α : Type} (k : Nat) (us ws : List α) : List α := match us with
  | [a] => a :: (ws.take k).reverse
  | _ => []
/-- an own error class that the law may make -/
structure Err (P : Program) (w : World) (K : PySem.W.Frag) (mg : Str → Option Value) (base : Heap) (nm : Str) (fn : List Str) where
  C : Addr
  fI : Addr
  fd : FuncData
  B : String
  newId : String
  initId : String
  Bs : String
  bmB : List Value
  g : mg nm = some (.ref C)
  T : ExC K C fI B newId initId Bs bmB
  E : ExcC K C
  ok : FnOk P w K mg base CX0 1 fI fd ("self" :: fn) (spI C fn)
  fld : ∀ f ∈ fn, PySem.W.findIn K (.ref C) f = some none
  kb : KBinds K fd ("self" :: fn) [] (fun us _ => us) (fun vs _ => vs)
  kn : KBinds K fd ("self" :: fn) fn.reverse (kwG fn.length) (kwG fn.length)
theorem vals_rev : ∀ {vs : List V} {us : List Value}, Vals vs us → Vals vs.reverse us.reverse
  | _, _, .nil => .nil
  | _, _, .cons r t => by
    rw [List.reverse_cons, List.reverse_cons]
    exact (vals_rev t).append (.cons r .nil)
theorem kw_rel {k : Nat} {vs zs : List V} {us ws : List Value} (r : Vals vs us) (rz : Vals zs ws) : Vals (kwG k vs zs) (kwG k us ws) := by
  match vs, us, r with
  | _, _, .nil => exact .nil
  | _, _, .cons r1 .nil => exact .cons r1 (vals_rev (rz.take k))
  | _, _, .cons r1 (.cons r2 r3) => exact .nil
theorem uValue : Under "ValueError" "ValueError.__new__" "ValueError.__init__" "ValueError" [.type "ValueError", .type "Exception", .type "BaseException", .type "object"] :=
  ⟨⟨_, _, F.excBase_ValueError⟩, InitF.of F.excBase_ValueError.toExcCallFacts, PySem.W.kxs_ValueError, F.store_ValueError, by decide +kernel, by decide +kernel, by decide +kernel⟩
theorem uIndex : Under "IndexError" "IndexError.__new__" "IndexError.__init__" "IndexError" [.type "IndexError", .type "LookupError", .type "Exception", .type "BaseException", .type "object"] :=
  ⟨⟨_, _, F.excBase_IndexError⟩, InitF.of F.excBase_IndexError.toExcCallFacts, PySem.W.kxs_IndexError, PySem.F.store_IndexError, by decide +kernel, by decide +kernel, by decide +kernel⟩
theorem uOver : Under "OverflowError" "OverflowError.__new__" "OverflowError.__init__" "OverflowError" [.type "OverflowError", .type "ArithmeticError", .type "Exception", .type "BaseException", .type "object"] :=
  ⟨⟨_, _, F.excBase_OverflowError⟩, InitF.of F.excBase_OverflowError.toExcCallFacts, PySem.W.kxs_OverflowError, PySem.F.store_OverflowError, by decide +kernel, by decide +kernel, by decide +kernel⟩
theorem uRun : Under "RuntimeError" "RuntimeError.__new__" "RuntimeError.__init__" "RuntimeError" [.type "RuntimeError", .type "Exception", .type "BaseException", .type "object"] :=
  ⟨⟨_, _, F.excBase_RuntimeError⟩, InitF.of F.excBase_RuntimeError.toExcCallFacts, PySem.W.kxs_RuntimeError, PySem.F.store_RuntimeError, by decide +kernel, by decide +kernel, by decide +kernel⟩
abbrev keyTail : List Value := [.type "KeyError", .type "LookupError", .type "Exception", .type "BaseException", .type "object"]
theorem key_store : StoreFacts "KeyError" keyTail "object.__setattr__" "object" := by
  refine { mro := by kernel_rfl, slot := ?_, entry := PySem.F.entry_object_sa, kind := by decide +kernel, split := by decide +kernel, hasOwner := by decide +kernel, args := fun a b c => by unfold argsOk; kernel_rfl, passes := fun self => by kernel_rfl }
  refine Slot.of (owner := "object") (n := "__setattr__") ?_ (by decide +kernel) (by decide +kernel) (by decide +kernel) ?_ ?_
  · rw [typeLookup_type, builtinLookup_eq_fast]
    kernel_rfl
  · first | exact .inl (by decide +kernel) | exact .inr (by decide +kernel)
  · rw [isSubtype_type]
    kernel_rfl
theorem key_get : PySem.W.KxsFacts "KeyError" "KeyError.__init__" := by
  refine ⟨?_, ?_⟩
  · show builtinType _ = _
    rw [builtinType_eq_fast]
    kernel_rfl
  · first | kernel_rfl | rfl
theorem uKey : Under "LookupError" "LookupError.__new__" "KeyError.__init__" "KeyError" keyTail :=
  ⟨⟨_, _, F.excBase_LookupError⟩, ⟨excClass_KeyError.initKind, excClass_KeyError.initSig, excClass_KeyError.notStar, excClass_KeyError.init.plain, excClass_KeyError.initEntry⟩, key_get, key_store, by decide +kernel, by decide +kernel, by decide +kernel⟩
theorem nmOk {x : Str} (h : ((x == ("__debug__" : Str)) || (x == ("__classdict__" : Str))) = false) : Nm x := by
  rw [Bool.or_eq_false_iff] at h
  exact ⟨h.1, h.2⟩
/-- a new error that is raised -/
def tNewR (C : Addr) (fn : List Str) (ta : TA) : L2.St → Hp → XK → Prop := fun σ H Q => ta σ H fun vs H1 => vs.length ≤ 1000 ∧ vs.length = fn.length ∧ names fn vs ≠ [] ∧ ∀ d H', H1 d = none → Same H1 H' → H' d = some (.xd (names fn vs)) → Q (.ref C) (some d) H'
theorem pmk_new {X : Cx} {nm : Str} {fn : List Str} {p pos : Pos} {e : Expr} {es : List Expr} {ta : TA} (S : Err X.prog X.w X.K X.mg X.base nm fn) (hr : Room 2 X.A) (hg : Gl X nm) (ha : PA X (e :: es) ta)
    (hdb : (nm == ("__debug__" : Str)) = false := by decide) (he : starEach (e :: es) X.env = (false, eval e X.env) :: starEach es X.env := by rfl) (hpl : (backTo pos (starEach es X.env)).any (·.1) = false := by rfl) :
    PMk X (.Call (.Name nm p) (e :: es) [] pos) (tNewR S.C fn ta) := by
  intro pins s σ H Q I hyp
  refine wpAny_Call_Name_kw (ld_glob I hg S.g ?_ hdb)
  refine PySem.W.callWith_K (h₀ := X.base) I.ok.mod.kin S.T.kC (thn (ha.run pos pins s σ H _ I hyp) fun us s1 ⟨vs, H1, I1, r1, few, hl, hne, q1⟩ => ⟨I1.kIn, ?_⟩) he hpl
  refine EA.run_mk S.T S.ok hr S.kb I1 r1 few fun a na => ⟨a, vs, rfl, hl, upd_same, fun H2 gr en => ⟨rfl, .inl ?_⟩⟩
  rcases en with ⟨z, _⟩ | ⟨dx, ea, ed, nd⟩
  · exact (hne z).elim
  · have ne : dx ≠ a := fun e => by
      rw [e, upd_same] at nd
      cases nd
    have nd1 : H1 dx = none := by
      rw [upd_ne ne] at nd
      exact nd
    refine ⟨dx, _, ea, ed, nd1, q1 dx _ nd1 (fun b o hb => ?_) upd_same⟩
    have nba := ne_of_none hb na
    rw [upd_ne (ne_of_none hb nd1), del_ne nba]
    exact gr b o (by rw [upd_ne nba]; exact hb) nba
theorem ps_raiseN {X : Cx} {nm : Str} {fn : List Str} {p pos pos' : Pos} {e : Expr} {es : List Expr} {ta : TA} {W : WX} (hc : X.calm = true) (tk : Takes X W) (S : Err X.prog X.w X.K X.mg X.base nm fn) (hr : Room 2 X.A) (hg : Gl X nm) (ha : PA X (e :: es) ta)
    (hdb : (nm == ("__debug__" : Str)) = false := by decide) (he : starEach (e :: es) X.env = (false, eval e X.env) :: starEach es X.env := by rfl) (hpl : (backTo pos (starEach es X.env)).any (·.1) = false := by rfl) :
    PS X (.Raise (some (.Call (.Name nm p) (e :: es) [] pos)) none pos') (fun _ σ H => tNewR S.C fn ta σ H fun cls d H' => W cls d σ H') := ps_raise hc tk (pmk_new S hr hg ha hdb he hpl)
/-- e.f in the suite that caught it -/
def tByE (C : Addr) (a : Addr) (cls : Value) (d : Option Addr) (f : Str) (te : TE) : TE := fun σ H Q => te σ H fun x H1 => x = .ref a ∧ cls = .ref C ∧ ∃ (dd : Addr) (fs : List (Str × V)) (v : V), d = some dd ∧ H1 dd = some (.xd fs) ∧ fs.lookup f = some v ∧ Q v H1
theorem pe_byE {X : Cx} {C a : Addr} {oe : Obj} {cls : Value} {d : Option Addr} {pn : List (Addr × Obj)} {e : Expr} {te : TE} {pos : Pos} {f : Str} (T : ExcC X.K C) (no : PySem.W.findIn X.K (.ref C) f = some none) (hz : Zc cls d oe) (hf : ∃ vs, oe.data = .fields vs) (he : PE (X.suite a ((a, oe) :: pn)) e te)
    (hb : attributeBase e f X.env (eval e X.env) = eval e X.env := by rfl) :
    PE (X.suite a ((a, oe) :: pn)) (.Attribute e f pos) (tByE C a cls d f te) := by
  refine ⟨fun pins s σ H Q I h => ?_⟩
  refine attr_of hb (thn (he.run pins s σ H _ I h) fun u s1 hh => ?_)
  obtain ⟨x, H1, I1, rx, ex, ec, dd, fs, v, ed, ea, l, q⟩ := hh
  subst ex
  obtain rfl : u = Value.ref a := rx
  subst ec
  subst ed
  obtain ⟨ha, _⟩ := I1.pin (a, oe) (List.mem_append_left _ List.mem_cons_self)
  obtain ⟨vs, hd⟩ := hf
  have hx : ObjOk X.prog X.w H1 s1.heap dd (.xd fs) := I1.hok dd _ ea
  obtain ⟨mA, hns, hr⟩ := hx
  obtain ⟨od, ho, hl⟩ := lookIn_ns hns
  obtain ⟨u, hu, ru⟩ := RelO.some_of (v := v) (o := mA f) (by rw [← l]; exact hr f)
  have J : PySem.W.InstAt s1.heap a oe C (some od) := ⟨ha, hz.1, by unfold PySem.W.notCls; rw [hd] <;> rfl, by rw [hz.2]; exact ho⟩
  exact HandSPX.exc_get I1.kIn J T.hg T.hk T.hs (PySem.W.findObj_own T.hd no rfl (by rw [hl, hu])) (handed_of ru) ⟨v, H1, I1.tok _, ru, q⟩
/-- a def where the top has put it -/
def At (K : PySem.W.Frag) (x : Str) (st : Stmt) (f : Addr) : Prop :=
  PySem.W.nsIn K mainGlobals x = some (some (.ref f)) ∧ ∃ (od an : Option Addr) (sl : Array (Option Value)) (oc kV dc pm cd ct : Value),
    K.lookup f = some ⟨oc, od, .func (PySem.W.fnOf x x (defArgs st) (defBody st) (defScope st) .none kV dc pm an cd ct), sl⟩ ∧ PySem.W.codeIn K cd x = true ∧ PySem.W.keepIn K (.ref f) = true
theorem at_mk {K : PySem.W.Frag} {x : Str} {st : Stmt} {f : Addr} {od an : Option Addr} {sl : Array (Option Value)} {oc kV dc pm cd ct : Value} (a : PySem.W.nsIn K mainGlobals x = some (some (.ref f)))
    (l : K.lookup f = some ⟨oc, od, .func (PySem.W.fnOf x x (defArgs st) (defBody st) (defScope st) .none kV dc pm an cd ct), sl⟩) (c : PySem.W.codeIn K cd x = true) (k : PySem.W.keepIn K (.ref f) = true) : At K x st f := ⟨a, od, an, sl, oc, kV, dc, pm, cd, ct, l, c, k⟩
theorem At.fn {K : PySem.W.Frag} {x : Str} {st : Stmt} {f : Addr} (h : At K x st f) : ∃ fd, Fun K x x st f fd := by
  obtain ⟨_, od, an, sl, oc, kV, dc, pm, cd, ct, l, c, k⟩ := h
  exact ⟨_, fun_mk l c k⟩
/-- a class where the top has put it -/
def CAt (P : Program) (K : PySem.W.Frag) (nm ql : Str) (st : Stmt) (B newId initId : String) (bmB : List Value) (fn : List Str) (C fI : Addr) : Prop :=
  PySem.W.nsIn K mainGlobals nm = some (some (.ref C)) ∧ lookC K C fI B newId initId bmB fn = true ∧ ∃ fd, InitFn P K C fI ql (defArgs st) (defBody st) (defScope st) fd
theorem cat_mk {P : Program} {K : PySem.W.Frag} {nm ql : Str} {st : Stmt} {B newId initId : String} {bmB : List Value} {fn : List Str} {C fI cl cc : Addr} {od an od2 od3 : Option Addr} {sl sl2 sl3 : Array (Option Value)} {oc kV dc pm ct oc2 oc3 : Value} {fv : Array Value} {file : Str} {tf : Tok}
    (a : PySem.W.nsIn K mainGlobals nm = some (some (.ref C))) (i : PySem.W.findIn K (.ref C) "__init__" = some (some (.ref fI)))
    (l : K.lookup fI = some ⟨oc, od, .func (fnCl "__init__" ql (defArgs st) (defBody st) (defScope st) kV dc pm an (.ref cc) ct cl), sl⟩) (c : PySem.W.codeIn K (.ref cc) ql = true)
    (m : K.lookup cl = some ⟨oc2, od2, .cell (some (.ref C)), sl2⟩) (n : K.lookup cc = some ⟨oc3, od3, .fields fv, sl3⟩) (o : fv[2]? = some (.str file tf)) (p : ((P.main.file : Str) == file) = true) (top : (P.main.scope.names.lookup ("super" : Str)).isSome = false)
    (q : lookC K C fI B newId initId bmB fn = true) : CAt P K nm ql st B newId initId bmB fn C fI :=
  ⟨a, q, _, ⟨oc, kV, dc, pm, .ref cc, ct, od, an, sl, cl, cc, _, _, fv, file, tf, rfl, l, c, m, rfl, rfl, n, rfl, o, p⟩, top⟩
end EE

set_option maxHeartbeats 4000000
/-! comprehensions over anything whose items are known: each item turned, some left out -/
namespace LC
open PySem PySem.Spec PyProof.Rows L2 G3
theorem small_line {n : Nat} (h : n ≤ 1000000) : n < sizeLine := Nat.lt_of_le_of_lt h (by decide)
section
variable {J : It} {G : Hp → Prop} {xs : List V} {g : TG} {tt : TT} {te : TE} {vs : List Nat} {σ : L2.St} {H1 : Hp} {D : Addr} {Qd : Hp → Prop}
theorem lc_map (w : Walk J xs.length G (YAt xs)) (hG : ∀ H, Same H1 H → G H) (len : xs.length ≤ 100000) (nD : H1 D = none) (f : V → V)
    (turn : ∀ x H (R : V → Hp → Prop), x ∈ xs → Same H1 H → (∀ H', Same H H' → R (f x) H') → g x (wipe σ vs) H fun σ2 H2 => wipe σ2 vs = wipe σ vs ∧ te σ2 H2 R)
    (fin : ∀ H', Same H1 H' → H' D = some (.lst (xs.map f)) → Qd H') :
    ∃ W : Nat → Nat → Hp → Prop, (∃ m, W 0 m (upd H1 D (.lst []))) ∧ ∀ i m H, W i m H →
      (J.stop i H ∧ Qd H) ∨ (J.go i H ∧ ∃ Nx : Hp → Prop, (∀ H', Nx H' → ∃ m', m' < m ∧ W (i + 1) m' H') ∧ ∀ x H', J.yld i H x H' → g x (wipe σ vs) H' fun σ2 H2 => wipe σ2 vs = wipe σ vs ∧ tYes σ2 H2 fun b H3 =>
        if b = true then te σ2 H3 fun y H4 => ∃ acc, H4 D = some (.lst acc) ∧ acc.length < sizeLine ∧ Nx (upd H4 D (.lst (acc ++ [y]))) else Nx H3) := by
  refine lc_it w (fun i H => Same H1 H ∧ H D = some (.lst ((xs.take i).map f))) ⟨same_new nD, upd_same⟩ (fun i H _ h => hG H h.1) (fun i x H H' hi h y => ?_) (fun H h => fin H h.1 ?_)
  · obtain ⟨rfl, ex⟩ := y
    have t := turn x H' (fun y H4 => ∃ acc, H4 D = some (.lst acc) ∧ acc.length < sizeLine ∧ (Same H1 (upd H4 D (.lst (acc ++ [y]))) ∧ (upd H4 D (.lst (acc ++ [y]))) D = some (.lst ((xs.take (i + 1)).map f)))) (List.mem_of_getElem? ex) h.1 (fun H5 s => ?_)
    · dsimp only [tYes]
      simp only [if_true]
      exact t
    · refine ⟨_, s _ _ h.2, ?_, same_put (h.1.trans s) nD, ?_⟩
      · rw [List.length_map, List.length_take]
        exact small_line (by omega)
      · rw [upd_same, List.take_succ, ex]
        simp
  · have e : xs.take xs.length = xs := List.take_length
    rw [e] at h
    exact h.2
theorem lc_sift (w : Walk J xs.length G (YAt xs)) (hG : ∀ H, Same H1 H → G H) (len : xs.length ≤ 100000) (nD : H1 D = none) (p : V → Bool)
    (turn : ∀ x H (R : L2.St → Bool → Hp → Prop), x ∈ xs → Same H1 H → (∀ σ2 H', Same H H' → (∀ Q' : VK, Q' x H' → te σ2 H' Q') → R σ2 (p x) H') → g x (wipe σ vs) H fun σ2 H2 => wipe σ2 vs = wipe σ vs ∧ tt σ2 H2 (R σ2))
    (fin : ∀ H', Same H1 H' → H' D = some (.lst (xs.filter p)) → Qd H') :
    ∃ W : Nat → Nat → Hp → Prop, (∃ m, W 0 m (upd H1 D (.lst []))) ∧ ∀ i m H, W i m H →
      (J.stop i H ∧ Qd H) ∨ (J.go i H ∧ ∃ Nx : Hp → Prop, (∀ H', Nx H' → ∃ m', m' < m ∧ W (i + 1) m' H') ∧ ∀ x H', J.yld i H x H' → g x (wipe σ vs) H' fun σ2 H2 => wipe σ2 vs = wipe σ vs ∧ tt σ2 H2 fun b H3 =>
        if b = true then te σ2 H3 fun y H4 => ∃ acc, H4 D = some (.lst acc) ∧ acc.length < sizeLine ∧ Nx (upd H4 D (.lst (acc ++ [y]))) else Nx H3) := by
  refine lc_it w (fun i H => Same H1 H ∧ H D = some (.lst ((xs.take i).filter p))) ⟨same_new nD, upd_same⟩ (fun i H _ h => hG H h.1) (fun i x H H' hi h y => ?_) (fun H h => fin H h.1 ?_)
  · obtain ⟨rfl, ex⟩ := y
    have tk : xs.take (i + 1) = xs.take i ++ [x] := by rw [List.take_succ, ex]; rfl
    refine turn x H' (fun σ2 b H3 => if b = true then te σ2 H3 fun y H4 => ∃ acc, H4 D = some (.lst acc) ∧ acc.length < sizeLine ∧ (Same H1 (upd H4 D (.lst (acc ++ [y]))) ∧ (upd H4 D (.lst (acc ++ [y]))) D = some (.lst ((xs.take (i + 1)).filter p)))
      else Same H1 H3 ∧ H3 D = some (.lst ((xs.take (i + 1)).filter p))) (List.mem_of_getElem? ex) h.1 (fun σ2 H5 s t => ?_)
    refine ite2 (fun e1 => ?_) (fun e1 => ?_)
    · refine t _ ⟨_, s _ _ h.2, ?_, same_put (h.1.trans s) nD, ?_⟩
      · have z := List.length_filter_le p (xs.take i)
        rw [List.length_take] at z
        exact small_line (by omega)
      · rw [upd_same, tk, List.filter_append, List.filter_cons_of_pos (p := p) e1]
        rfl
    · refine ⟨h.1.trans s, ?_⟩
      rw [tk, List.filter_append, List.filter_cons_of_neg (p := p) e1, List.filter_nil, List.append_nil]
      exact s _ _ h.2
  · have e : xs.take xs.length = xs := List.take_length
    rw [e] at h
    exact h.2
end
/-- the signs of a text -/
def sgn (z : Str) : List V := z.cps.toList.map fun c => V.str ⟨#[c]⟩
theorem walk_sgn (z : Str) : Walk (Its z) (sgn z).length (fun _ => True) (YAt (sgn z)) := by
  have e : (sgn z).length = z.cps.size := by
    unfold sgn
    rw [List.length_map, Array.length_toList]
  rw [e]
  refine (walk_str (z := z)).mono (fun _ h => h) fun i H x H' hi _ y => ?_
  obtain ⟨e1, c, hc, rfl⟩ := y
  refine ⟨e1, ?_⟩
  unfold sgn
  rw [List.getElem?_map, Array.getElem?_toList, hc]
  rfl
end LC

set_option maxHeartbeats 4000000
namespace PP
open PySem PySem.Spec PyProof.Rows L2
def topS (i : Nat) : Stmt := PySem.Challenge.pw_fewturnsover_k01_programs_looked_at.main.body.getD i (.Pass ⟨0, 0, 0, 0⟩)
abbrev s_TurnsError : Stmt := EE.initOf (topS 1)
abbrev s_NoProgram : Stmt := EE.initOf (topS 2)
abbrev s_is_source : Stmt := topS 5
abbrev s_are_ways : Stmt := topS 6
abbrev s_are_rows : Stmt := topS 7
abbrev s_are_boxes : Stmt := topS 16
abbrev s_scopes_of : Stmt := topS 17
abbrev s_are_all_rows : Stmt := topS 18
abbrev s_is_row_of : Stmt := topS 19
abbrev s_refuse_first_wrong : Stmt := topS 20
abbrev s_look_at_program : Stmt := topS 21
abbrev s_law_pool : Stmt := topS 23
abbrev s_law_take : Stmt := topS 24
abbrev s_law_source : Stmt := topS 25
abbrev s_law_row : Stmt := topS 26
abbrev s_law_texts : Stmt := topS 27
abbrev s_law_program : Stmt := topS 28
abbrev s_law_changed_at : Stmt := topS 29
abbrev s_law_roads : Stmt := topS 30
abbrev s_law_part_at : Stmt := topS 31
abbrev s_law_bent : Stmt := topS 32
abbrev s_law_is_name : Stmt := topS 33
abbrev s_law_is_number : Stmt := topS 34
abbrev s_law_are_boxes : Stmt := topS 35
abbrev s_law_is_set : Stmt := topS 36
abbrev s_law_is_test : Stmt := topS 37
abbrev s_law_is_go : Stmt := topS 38
abbrev s_law_is_row : Stmt := topS 39
abbrev s_law_is_hand : Stmt := topS 40
abbrev s_law_is_text : Stmt := topS 41
abbrev s_law_wrong_hand : Stmt := topS 42
abbrev s_law_wrong_row : Stmt := topS 43
abbrev s_law_wrong : Stmt := topS 44
abbrev s_law_told : Stmt := topS 45
abbrev s_law_right : Stmt := topS 46
abbrev s_law_bounds : Stmt := topS 47
abbrev s_law : Stmt := topS 48
structure Def (P : Program) (w : World) (K : PySem.W.Frag) (mg : Str → Option Value) (base : Heap) (CX : CXT) (k : Nat) (x : Str) (ps : List Str) (sp : Sp) where
  f : Addr
  d : FuncData
  ok : FnOk P w K mg base CX k f d ps sp
  g : mg x = some (.ref f)
  kp : PySem.W.keepIn K (.ref f) = true
  b : Binds K d ps []
end PP

set_option maxHeartbeats 4000000
namespace PP
open PySem PySem.Spec PyProof.Rows L2 G3 M0 PA
theorem small_le {n : Nat} (h : n ≤ 1000000) : n ≤ sizeLine := Nat.le_trans h (by decide)
theorem small_lt {n : Nat} (h : n ≤ 1000000) : n < sizeLine := Nat.lt_of_le_of_lt h (by decide)
theorem upd_id {H : Hp} {a : Addr} {o : HO} (h : H a = some o) : upd H a o = H := by
  funext b
  by_cases e : b = a
  · rw [e, upd_same, h]
  · rw [upd_ne e]
section
variable {X : Cx}
theorem op_isIB : OpR X (compareOp .Is) (fun x y H Q => ∃ i b, x = .int i ∧ y = .bl b ∧ Q (.bl false) H) := by
  intro pins s σ H x y v u Q I rx ry h
  obtain ⟨i, b, rfl, rfl, q⟩ := h
  obtain ⟨t, rfl⟩ := rx
  cases (show u = Value.bool b from ry)
  exact wpAny_is_other rfl (fun z => nomatch z) ⟨.bl false, H, I, rfl, q⟩
end
def boxK (b : Box) : Key × V := (Sum.inr b.1, .int b.2)
theorem val_boxes (kvs : List (Key × V)) : ∀ (bs : List Box) (z : Str), valV kvs (Sum.inr z) = none → (∀ b ∈ bs, b.1 ≠ z) → valV (kvs ++ bs.map boxK) (Sum.inr z) = none := by
  intro bs z h hb
  unfold valV at h ⊢
  rw [Option.map_eq_none_iff] at h ⊢
  rw [List.find?_eq_none] at h ⊢
  intro kv hm
  rcases List.mem_append.mp hm with m | m
  · exact h kv m
  · obtain ⟨b, hb1, rfl⟩ := List.mem_map.mp m
    intro e
    exact hb b hb1 (Sum.inr.inj (of_decide_eq_true e))
theorem dp2 {K : PySem.W.Frag} {H : Hp} {v : V} {d e : PyData} (h : Dp K H v (.tuple [d, e])) : ∃ a x y, v = .ref a ∧ SqT K H a [x, y] ∧ Dp K H x d ∧ Dp K H y e := by
  cases h with
  | tup hs ha =>
    cases ha with
    | cons h1 h2 =>
      cases h2 with
      | cons h3 h4 =>
        cases h4
        exact ⟨_, _, _, rfl, hs, h1, h3⟩
theorem dp_tup {K : PySem.W.Frag} {H : Hp} {v : V} {ds : List PyData} (h : Dp K H v (.tuple ds)) : ∃ a xs, v = .ref a ∧ SqT K H a xs ∧ DpAll K H xs ds := by
  cases h with
  | tup hs ha => exact ⟨_, _, rfl, hs, ha⟩
theorem dp_str {K : PySem.W.Frag} {H : Hp} {v : V} {z : Str} (h : Dp K H v (.str z)) : v = .str z := by
  cases h
  rfl
theorem dp_int {K : PySem.W.Frag} {H : Hp} {v : V} {z : Int} (h : Dp K H v (.int z)) : v = .int z := by
  cases h
  rfl
def isStr : PyData → Bool
  | .str _ => true
  | _ => false
theorem kit_str (K : PySem.W.Frag) {v : V} {H : Hp} {d : PyData} (h : Dp K H v d) : PySem.W.kitOne K (.type (tyName d)) (.type "str") = some (isStr d) := by
  cases h <;> kernel_rfl
/-- changes at a dict keep the tuples -/
theorem dict_tup {K : PySem.W.Frag} {H : Hp} {a b : Addr} {kvs kvs2 : List (Key × V)} {xs : List V} (hd : H a = some (.dK kvs)) (h : SqT K H b xs) : SqT K (upd H a (.dK kvs2)) b xs := by
  rcases h with (h | ⟨o, h⟩) | h
  · exact .inl (.inl (by rw [upd_ne (ne_of h hd (by intro z; cases z))]; exact h))
  · exact .inl (.inr ⟨o, by rw [upd_ne (ne_of h hd (by intro z; cases z))]; exact h⟩)
  · exact .inr h
abbrev nBoxes : List Str := ["thing", "most", "greatest", "sizes", "box", "name", "size"]
theorem scBoxes : FnScope nBoxes ["thing", "most", "greatest", "sizes"] (defScope s_are_boxes) := ⟨rfl, rfl, rfl, by decide +kernel, rfl, by decide +kernel, by decide +kernel⟩
theorem name_parts {z : Str} (h : nameB z = true) : z.length ≤ 8 ∧ Txt.isascii z = true ∧ Txt.isalpha z = true ∧ Txt.islower z = true := by
  unfold nameB at h
  simp only [Bool.and_eq_true, decide_eq_true_eq] at h
  exact h
section
variable {P : Program} {w : World} {K : PySem.W.Frag} {mg : Str → Option Value} {base : Heap}
def spBoxes (K : PySem.W.Frag) : Sp := fun vs H Q _ => ∃ (v : V) (bs : List Box) (most : Nat) (gr : Int) (sz : Addr) (kvs : List (Key × V)), vs = [v, .int most, .int gr, .ref sz] ∧ Dp K H v (boxesD bs) ∧ H sz = some (.dK kvs) ∧ kvs.length + bs.length ≤ 1000 ∧
  bs.length ≤ most ∧ (∀ b ∈ bs, nameB b.1 = true ∧ 1 ≤ b.2 ∧ b.2 ≤ gr ∧ valV kvs (Sum.inr b.1) = none) ∧ (bs.map (·.1)).Nodup ∧ Q (.bl true) (upd H sz (.dK (kvs ++ bs.map boxK)))
theorem ok_boxes {f : Addr} {fd : FuncData} {k : Nat} {t8 : Tok} (F : Fun K "are_boxes" "are_boxes" s_are_boxes f fd) (mi : mg "isinstance" = none) (mt : mg "tuple" = none) (ms : mg "str" = none) (mn : mg "int" = none) (ml : mg "len" = none) (m8 : mg "LONGEST_NAME" = some (.int 8 t8)) :
    FnOk P w K mg base CX0 (k + 1) f fd ["thing", "most", "greatest", "sizes"] (spBoxes K) := by
  refine F.ok scBoxes (fun vs H Q E h => ?_) (fun cdv A outer s H vs Q E hr h => ?_)
  · obtain ⟨v, bs, most, gr, sz, kvs, rfl, _⟩ := h
    rfl
  obtain ⟨v, bs, most, gr, sz, kvs, rfl, hv, hz, hlen, hmost, hnm, hnd, q⟩ := h
  have nd := scBoxes.nd
  have hu := hu_of hr
  refine ⟨_, pss_cons (ps_if (PW.pt (pw_or (pt_not (pt_val (pe_callB call_isi (by rfl) mi PyProof.Rows.boot_isinstance (pa_cons (pv 0) (pa_cons (pe_bltn (by rfl) mt (u := .type "tuple") (by decide +kernel) (show RelV (.ty "tuple") (.type "tuple") from rfl)) pa_nil)))))
        (pw_or1 (pt_cmpR op_gt (pe_callB call_len_seq (by rfl) ml PySem.boot_len (pa_cons (pv 0) pa_nil)) (pv 1) (nomark _)))))
      (pss_one ps_dead) pss_nil)
    (pss_cons (ps_for PassesOwn.never rfl (pi_tup (pv 0)) (pg_name (i := 4) nd rfl (.inl rfl))
      (pss_cons (ps_if (PW.pt (pw_or (pt_not (pt_val (pe_callB call_isi (by rfl) mi PyProof.Rows.boot_isinstance (pa_cons (pv 4) (pa_cons (pe_bltn (by rfl) mt (u := .type "tuple") (by decide +kernel) (show RelV (.ty "tuple") (.type "tuple") from rfl)) pa_nil)))))
          (pw_or1 (pt_cmpR op_ne (pe_callB call_len_seq (by rfl) ml PySem.boot_len (pa_cons (pv 4) pa_nil)) pe_int (nomark _)))))
        (pss_one ps_dead) pss_nil)
      (pss_cons (ps_asg (pv 4) (pg_tup rfl (pgs_cons (pg_name (i := 5) nd rfl (.inl rfl)) (pgs_cons (pg_name (i := 6) nd rfl (.inl rfl)) pgs_nil))))
      (pss_cons (ps_if (PW.pt (pw_or (pt_not (pt_val (pe_callB call_isi (by rfl) mi PyProof.Rows.boot_isinstance (pa_cons (pv 5) (pa_cons (pe_bltn (by rfl) ms (u := .type "str") (by decide +kernel) (show RelV (.ty "str") (.type "str") from rfl)) pa_nil)))))
          (pw_or (pt_cmp (pc_din hu (pv 5) (pv 3)))
          (pw_or1 (pt_cmpR op_gt (pe_callB call_len_str (by rfl) ml PySem.boot_len (pa_cons (pv 5) pa_nil)) (pe_glob (v := .int 8) (by rfl) m8 ⟨_, rfl⟩) (nomark _))))))
        (pss_one ps_dead) pss_nil)
      (pss_cons (ps_if (PW.pt (pw_or (pt_not (pt_val (pe_m0 PySem.F.slot_str_isascii PySem.F.type_str_isascii mt_isascii (pv 5))))
          (pw_or (pt_not (pt_val (pe_m0 PySem.F.slot_str_isalpha PySem.F.type_str_isalpha mt_isalpha (pv 5))))
          (pw_or1 (pt_not (pt_val (pe_m0 PySem.F.slot_str_islower PySem.F.type_str_islower mt_islower (pv 5))))))))
        (pss_one ps_dead) pss_nil)
      (pss_cons (ps_if (PW.pt (pw_or (pt_not (pt_val (pe_callB call_isi (by rfl) mi PyProof.Rows.boot_isinstance (pa_cons (pv 6) (pa_cons (pe_bltn (by rfl) mn (u := .type "int") (by decide +kernel) (show RelV (.ty "int") (.type "int") from rfl)) pa_nil)))))
          (pw_or (pt_not (pt_chain op_le op_le pe_int (pv 6) (pv 2)))
          (pw_or1 (pt_cmpR op_isIB (pv 6) pe_bl (nomark _))))))
        (pss_one ps_dead) pss_nil)
      (pss_one (ps_dput hu (pv 3) (pv 5) (pv 6) rfl))))))))
    (pss_one (ps_ret pe_bl))), ?_⟩
  obtain ⟨a, xs, rfl, hs, hall⟩ := dp_tup hv
  have hxl : xs.length = bs.length := by rw [dpAll_len hall, List.length_map]
  refine ⟨_, rfl, _, _, _, _, _, rfl, .ty "tuple", dp_ty hv, kit_tup K hv, _, rfl, iteF ⟨_, rfl, a, _, rfl, .inr hs, _, rfl, _, _, rfl, rfl, _, rfl, ?_⟩⟩
  rw [decide_eq_false (show ¬ (most : Int) < (xs.length : Int) by omega)]
  refine iteF ⟨_, rfl, a, rfl, ⟨_, hs⟩, for_tup (xs := xs)
    (fun i σ H3 => ∃ y4 y5 y6, σ = [some (.ref a), some (.int most), some (.int gr), some (.ref sz), y4, y5, y6] ∧ H3 = upd H sz (.dK (kvs ++ (bs.take i).map boxK)))
    ⟨none, none, none, rfl, by rw [List.take_zero, List.map_nil, List.append_nil, upd_id hz]⟩ (fun i σ H3 _ hP => ?_) (fun i x σ H3 hx hP => ?_) (fun σ H3 hP => ?_)⟩
  · obtain ⟨_, _, _, _, rfl⟩ := hP
    exact dict_tup hz hs
  · obtain ⟨y4, y5, y6, rfl, rfl⟩ := hP
    obtain ⟨d, hd, hxd⟩ := dpAll_get hall hx
    rw [List.getElem?_map] at hd
    obtain ⟨b, hb, rfl⟩ := Option.map_eq_some_iff.mp hd
    have mb := List.mem_of_getElem? hb
    obtain ⟨n1, n2, n3, n4⟩ := hnm b mb
    obtain ⟨p1, p2, p3, p4⟩ := name_parts n1
    obtain ⟨c, v1, v2, rfl, hc, h1, h2⟩ := dp2 hxd
    cases dp_str h1
    cases dp_int h2
    have hc2 := dict_tup (kvs2 := kvs ++ (bs.take i).map boxK) hz hc
    have hxd2 : Dp K (upd H sz (.dK (kvs ++ (bs.take i).map boxK))) (.ref c) (boxD b) := .tup hc2 (.cons (.str _) (.cons (.int _) .nil))
    have hz2 : (upd H sz (.dK (kvs ++ (bs.take i).map boxK))) sz = some (.dK (kvs ++ (bs.take i).map boxK)) := upd_same
    have hno : valV (kvs ++ (bs.take i).map boxK) (Sum.inr b.1) = none := val_boxes kvs _ _ n4 (take_fresh (·.1) hnd hb)
    refine ⟨_, rfl, _, _, _, _, _, rfl, .ty "tuple", dp_ty hxd2, kit_tup K hxd2, _, rfl, iteF ⟨_, rfl, c, _, rfl, .inr hc2, rfl, _, rfl, iteNS rfl ?_⟩⟩
    refine ⟨_, rfl, c, _, rfl, hc2, rfl, _, _, rfl, _, _, rfl, rfl, ?_⟩
    refine ⟨_, rfl, _, _, _, _, _, rfl, .ty "str", dp_ty (.str b.1), kit_str K (H := H) (.str b.1), _, rfl, iteF ⟨_, rfl, _, rfl, sz, _, rfl, DGet.k (k := Sum.inr b.1) hz2, _, rfl, ?_⟩⟩
    rw [hno]
    refine iteF ⟨_, rfl, b.1, rfl, small_le (by omega), _, _, rfl, rfl, _, rfl, ?_⟩
    rw [decide_eq_false (show ¬ (8 : Int) < (b.1.length : Int) by omega)]
    refine iteF ⟨_, rfl, ⟨_, rfl⟩, _, rfl, rfl, trivial, _, rfl, ?_⟩
    rw [p2]
    refine iteF ⟨_, rfl, ⟨_, rfl⟩, _, rfl, rfl, trivial, _, rfl, ?_⟩
    rw [p3]
    refine iteF ⟨_, rfl, ⟨_, rfl⟩, _, rfl, rfl, trivial, _, rfl, ?_⟩
    rw [p4]
    refine iteF ⟨_, rfl, _, _, _, _, _, rfl, .ty "int", dp_ty (.int b.2), kit_int K (H := H) (.int b.2), _, rfl, iteF ?_⟩
    refine ⟨_, rfl, _, _, rfl, rfl, _, rfl, ?_⟩
    rw [decide_eq_true n2]
    refine iteT ⟨_, rfl, _, _, rfl, rfl, _, rfl, ?_⟩
    rw [decide_eq_true n3]
    refine iteF ⟨_, rfl, _, _, rfl, rfl, _, rfl, iteF ?_⟩
    refine ⟨_, rfl, _, rfl, _, rfl, sz, _, rfl, DPut.k (k := Sum.inr b.1) hz2 ?_, ?_⟩
    · rw [List.length_append, List.length_map, List.length_take]
      exact small_lt (by omega)
    · refine ⟨_, _, _, rfl, ?_⟩
      have e1 : (bs.take (i + 1)).map boxK = (bs.take i).map boxK ++ [boxK b] := by
        rw [List.take_succ, hb, List.map_append]
        rfl
      rw [putK_new _ hno, e1, ← List.append_assoc]
      funext e
      by_cases z : e = sz
      · rw [z, upd_same, upd_same]
        rfl
      · rw [upd_ne z, upd_ne z, upd_ne z]
  · obtain ⟨y4, y5, y6, rfl, rfl⟩ := hP
    rw [List.take_of_length_le (by omega)]
    exact q
end
end PP

set_option maxHeartbeats 4000000
namespace PP
open PySem PySem.Spec PyProof.Rows L2 G3 M0 PA
abbrev nSource : List Str := ["source", "size", "box", "sizes", "word", "thing"]
abbrev nWays : List Str := ["thing", "end", "ahead", "way"]
theorem scSource : FnScope nSource ["source", "size", "box", "sizes"] (defScope s_is_source) := ⟨rfl, rfl, rfl, by decide +kernel, rfl, by decide +kernel, by decide +kernel⟩
theorem scWays : FnScope nWays ["thing", "end"] (defScope s_are_ways) := ⟨rfl, rfl, rfl, by decide +kernel, rfl, by decide +kernel, by decide +kernel⟩
/-- a dict of sizes -/
def SizesAt (H : Hp) (a : Addr) (bs : List Box) : Prop := ∃ kvs, Rd H a (.dK kvs) ∧ ∀ o m, size? bs o = some m → valV kvs (Sum.inr o) = some (.int m)
theorem SizesAt.get {H : Hp} {a : Addr} {bs : List Box} {o : Str} {m : Int} (h : SizesAt H a bs) (e : size? bs o = some m) : DGet H a (.str o) (some (.int m)) := by
  obtain ⟨kvs, hr, hk⟩ := h
  exact .inl ⟨kvs, Sum.inr o, hr, rfl, (hk o m e).symm⟩
theorem dp1 {K : PySem.W.Frag} {H : Hp} {v : V} {d : PyData} (h : Dp K H v (.tuple [d])) : ∃ a x, v = .ref a ∧ SqT K H a [x] ∧ Dp K H x d := by
  cases h with
  | tup hs ha =>
    cases ha with
    | cons h1 h2 =>
      cases h2
      exact ⟨_, _, rfl, hs, h1⟩
section
variable {P : Program} {w : World} {K : PySem.W.Frag} {mg : Str → Option Value} {base : Heap}
def spSource (K : PySem.W.Frag) : Sp := fun vs H Q _ => ∃ (v : V) (bs : List Box) (b : Str) (n : Int) (sr : Src) (sz : Addr), vs = [v, .int n, .str b, .ref sz] ∧ Dp K H v sr.data ∧ SizesAt H sz bs ∧ SrcOk bs b n sr ∧ Q (.bl true) H
theorem ok_source {f : Addr} {fd : FuncData} {k : Nat} (F : Fun K "is_source" "is_source" s_is_source f fd) (mi : mg "isinstance" = none) (ms : mg "str" = none) (mn : mg "int" = none) (ml : mg "len" = none) :
    FnOk P w K mg base CX0 (k + 1) f fd ["source", "size", "box", "sizes"] (spSource K) := by
  refine F.ok scSource (fun vs H Q E h => ?_) (fun cdv A outer s H vs Q E hr h => ?_)
  · obtain ⟨v, bs, b, n, sr, sz, rfl, _⟩ := h
    rfl
  obtain ⟨v, bs, b, n, sr, sz, rfl, hv, hz, ok, q⟩ := h
  have nd := scSource.nd
  have hu := hu_of hr
  refine ⟨_, pss_cons (ps_if (pt_cmpR op_ne (pe_callB call_len_seq (by rfl) ml PySem.boot_len (pa_cons (pv 0) pa_nil)) pe_int (nomark _))
      (pss_one (ps_ret (pe_and (pe_cmpR op_eq (pe_callB call_len_seq (by rfl) ml PySem.boot_len (pa_cons (pv 0) pa_nil)) pe_int (nomark _))
        (pe_and (pe_callB call_isi (by rfl) mi PyProof.Rows.boot_isinstance (pa_cons (pe_ix ix_tup (pv 0) pe_int (fun _ _ => rfl)) (pa_cons (pe_bltn (by rfl) ms (u := .type "str") (by decide +kernel) (show RelV (.ty "str") (.type "str") from rfl)) pa_nil)))
        (pe_one (pe_cmpR op_eq (pe_ix ix_tup (pv 0) pe_int (fun _ _ => rfl)) pe_str (nomark _))))))) pss_nil)
    (pss_cons (ps_asg (pv 0) (pg_tup rfl (pgs_cons (pg_name (i := 4) nd rfl (.inl rfl)) (pgs_cons (pg_name (i := 5) nd rfl (.inl rfl)) pgs_nil))))
    (pss_cons (ps_if (pt_not (pt_val (pe_callB call_isi (by rfl) mi PyProof.Rows.boot_isinstance (pa_cons (pv 4) (pa_cons (pe_bltn (by rfl) ms (u := .type "str") (by decide +kernel) (show RelV (.ty "str") (.type "str") from rfl)) pa_nil)))))
      (pss_one ps_dead) pss_nil)
    (pss_cons (ps_if (pt_val (pe_callB call_isi (by rfl) mi PyProof.Rows.boot_isinstance (pa_cons (pv 5) (pa_cons (pe_bltn (by rfl) mn (u := .type "int") (by decide +kernel) (show RelV (.ty "int") (.type "int") from rfl)) pa_nil))))
      (pss_cons (ps_if (PW.pt (pw_or (pt_cmpR op_isIB (pv 5) pe_bl (nomark _)) (pw_or1 (pt_cmpR op_isIB (pv 5) pe_bl (nomark _))))) (pss_one ps_dead) pss_nil)
      (pss_one (ps_ret (pe_ifExp (pt_cmpR op_eq (pv 4) pe_str (nomark _)) (pe_chain op_le op_lt pe_int (pv 5) (pv 1)) (pe_and (pe_cmpR op_eq (pv 4) pe_str (nomark _)) (pe_one (pe_chain op_le op_le pe_int (pv 5) pe_int))))))) pss_nil)
    (pss_one (ps_ret (pe_and (pe_cmpR op_eq (pv 4) pe_str (nomark _)) (pe_and (pe_callB call_isi (by rfl) mi PyProof.Rows.boot_isinstance (pa_cons (pv 5) (pa_cons (pe_bltn (by rfl) ms (u := .type "str") (by decide +kernel) (show RelV (.ty "str") (.type "str") from rfl)) pa_nil)))
      (pe_and (pe_cmpR op_ne (pv 5) (pv 2) (nomark _)) (pe_one (pe_cmpR op_le (pe_dget hu (pv 3) (pv 5) (fun _ _ => rfl)) (pv 1) (nomark _))))))))))), ?_⟩
  cases sr with
  | any =>
    obtain ⟨a, x, rfl, hs, hx⟩ := dp1 hv
    cases dp_str hx
    refine ⟨_, rfl, a, _, rfl, .inr hs, rfl, _, rfl, iteT ?_⟩
    refine ⟨_, rfl, a, _, rfl, .inr hs, rfl, _, rfl, iteT ?_⟩
    refine ⟨_, rfl, a, _, 0, _, rfl, rfl, hs, atI_nat (j := 0) rfl, _, _, _, _, _, rfl, .ty "str", dp_ty (.str "any"), kit_str K (H := H) (.str "any"), _, rfl, iteT ?_⟩
    exact ⟨_, rfl, a, _, 0, _, rfl, rfl, hs, atI_nat (j := 0) rfl, rfl, q⟩
  | of o =>
    obtain ⟨a, x, y, rfl, hs, hx, hy⟩ := dp2 hv
    cases dp_str hx
    cases dp_str hy
    obtain ⟨h1, m, h2, h3⟩ := ok
    refine ⟨_, rfl, a, _, rfl, .inr hs, rfl, _, rfl, iteF ?_⟩
    refine ⟨_, rfl, a, _, rfl, hs, rfl, _, _, rfl, _, _, rfl, rfl, ?_⟩
    refine ⟨_, rfl, _, _, _, _, _, rfl, .ty "str", dp_ty (.str "of"), kit_str K (H := H) (.str "of"), _, rfl, iteF ?_⟩
    refine ⟨_, rfl, _, _, _, _, _, rfl, .ty "int", dp_ty (.str o), kit_int K (H := H) (.str o), _, rfl, iteF ?_⟩
    refine ⟨_, rfl, rfl, _, rfl, iteT ?_⟩
    refine ⟨_, rfl, _, _, _, _, _, rfl, .ty "str", dp_ty (.str o), kit_str K (H := H) (.str o), _, rfl, iteT ?_⟩
    refine ⟨_, rfl, _, rfl, rfl, _, rfl, ?_⟩
    rw [decide_eq_false (show ¬ V.str o = V.str b from fun z => h1 (V.str.inj z))]
    refine iteT ⟨_, rfl, _, rfl, sz, _, rfl, hz.get h2, _, rfl, _, _, rfl, rfl, ?_⟩
    show Q (.bl (decide (m ≤ n))) H
    rw [decide_eq_true h3]
    exact q
  | to m =>
    obtain ⟨a, x, y, rfl, hs, hx, hy⟩ := dp2 hv
    cases dp_str hx
    cases dp_int hy
    obtain ⟨h1, h2⟩ := ok
    refine ⟨_, rfl, a, _, rfl, .inr hs, rfl, _, rfl, iteF ?_⟩
    refine ⟨_, rfl, a, _, rfl, hs, rfl, _, _, rfl, _, _, rfl, rfl, ?_⟩
    refine ⟨_, rfl, _, _, _, _, _, rfl, .ty "str", dp_ty (.str "to"), kit_str K (H := H) (.str "to"), _, rfl, iteF ?_⟩
    refine ⟨_, rfl, _, _, _, _, _, rfl, .ty "int", dp_ty (.int m), kit_int K (H := H) (.int m), _, rfl, iteT ?_⟩
    refine ⟨_, rfl, _, _, rfl, rfl, _, rfl, iteF ⟨_, rfl, _, _, rfl, rfl, _, rfl, iteF ?_⟩⟩
    refine ⟨_, rfl, rfl, _, rfl, iteT ⟨_, rfl, _, _, rfl, rfl, _, rfl, ?_⟩⟩
    rw [decide_eq_true h1]
    refine iteT ⟨_, rfl, _, _, rfl, rfl, ?_⟩
    show Q (.bl (decide (m < n))) H
    rw [decide_eq_true h2]
    exact q
  | on m =>
    obtain ⟨a, x, y, rfl, hs, hx, hy⟩ := dp2 hv
    cases dp_str hx
    cases dp_int hy
    obtain ⟨h1, h2⟩ := ok
    refine ⟨_, rfl, a, _, rfl, .inr hs, rfl, _, rfl, iteF ?_⟩
    refine ⟨_, rfl, a, _, rfl, hs, rfl, _, _, rfl, _, _, rfl, rfl, ?_⟩
    refine ⟨_, rfl, _, _, _, _, _, rfl, .ty "str", dp_ty (.str "on"), kit_str K (H := H) (.str "on"), _, rfl, iteF ?_⟩
    refine ⟨_, rfl, _, _, _, _, _, rfl, .ty "int", dp_ty (.int m), kit_int K (H := H) (.int m), _, rfl, iteT ?_⟩
    refine ⟨_, rfl, _, _, rfl, rfl, _, rfl, iteF ⟨_, rfl, _, _, rfl, rfl, _, rfl, iteF ?_⟩⟩
    refine ⟨_, rfl, rfl, _, rfl, iteF ⟨_, rfl, rfl, _, rfl, iteT ⟨_, rfl, _, _, rfl, rfl, _, rfl, ?_⟩⟩⟩
    rw [decide_eq_true h1]
    refine iteT ⟨_, _, rfl, rfl, ?_⟩
    show Q (.bl (decide (m ≤ 3))) H
    rw [decide_eq_true h2]
    exact q
def spWays (K : PySem.W.Frag) : Sp := fun vs H Q _ => ∃ (v : V) (rs : List Int) (e : Int), vs = [v, .int e] ∧ Dp K H v (.tuple (rs.map .int)) ∧ 1 ≤ rs.length ∧ rs.length ≤ 4 ∧ Rising (-1) rs ∧ (∀ r ∈ rs, r ≤ e) ∧ Q (.bl true) H
theorem ok_ways {f : Addr} {fd : FuncData} {k : Nat} (F : Fun K "are_ways" "are_ways" s_are_ways f fd) (mi : mg "isinstance" = none) (mt : mg "tuple" = none) (mn : mg "int" = none) (ml : mg "len" = none) :
    FnOk P w K mg base CX0 (k + 1) f fd ["thing", "end"] (spWays K) := by
  refine F.ok scWays (fun vs H Q E h => ?_) (fun cdv A outer s H vs Q E hr h => ?_)
  · obtain ⟨v, rs, e, rfl, _⟩ := h
    rfl
  obtain ⟨v, rs, e, rfl, hv, l1, l4, ris, hle, q⟩ := h
  have nd := scWays.nd
  refine ⟨_, pss_cons (ps_if (PW.pt (pw_or (pt_not (pt_val (pe_callB call_isi (by rfl) mi PyProof.Rows.boot_isinstance (pa_cons (pv 0) (pa_cons (pe_bltn (by rfl) mt (u := .type "tuple") (by decide +kernel) (show RelV (.ty "tuple") (.type "tuple") from rfl)) pa_nil)))))
        (pw_or1 (pt_not (pt_chain op_le op_le pe_int (pe_callB call_len_seq (by rfl) ml PySem.boot_len (pa_cons (pv 0) pa_nil)) pe_int)))))
      (pss_one ps_dead) pss_nil)
    (pss_cons (ps_set (i := 2) nd rfl (.inl rfl) (pe_un un_neg pe_int))
    (pss_cons (ps_for PassesOwn.never rfl (pi_tup (pv 0)) (pg_name (i := 3) nd rfl (.inl rfl))
      (pss_cons (ps_if (PW.pt (pw_or (pt_not (pt_val (pe_callB call_isi (by rfl) mi PyProof.Rows.boot_isinstance (pa_cons (pv 3) (pa_cons (pe_bltn (by rfl) mn (u := .type "int") (by decide +kernel) (show RelV (.ty "int") (.type "int") from rfl)) pa_nil)))))
          (pw_or (pt_not (pt_chain op_lt op_le (pv 2) (pv 3) (pv 1)))
          (pw_or (pt_cmpR op_isIB (pv 3) pe_bl (nomark _)) (pw_or1 (pt_cmpR op_isIB (pv 3) pe_bl (nomark _)))))))
        (pss_one ps_dead) pss_nil)
      (pss_one (ps_set (i := 2) nd rfl (.inl rfl) (pv 3)))))
    (pss_one (ps_ret pe_bl)))), ?_⟩
  obtain ⟨a, xs, rfl, hs, hall⟩ := dp_tup hv
  have hxl : xs.length = rs.length := by rw [dpAll_len hall, List.length_map]
  refine ⟨_, rfl, _, _, _, _, _, rfl, .ty "tuple", dp_ty hv, kit_tup K hv, _, rfl, iteF ⟨_, rfl, a, _, rfl, .inr hs, _, _, rfl, rfl, _, rfl, ?_⟩⟩
  rw [decide_eq_true (show (1 : Int) ≤ (xs.length : Int) by omega)]
  refine iteT ⟨_, _, rfl, rfl, _, rfl, ?_⟩
  rw [decide_eq_true (show (xs.length : Int) ≤ 4 by omega)]
  refine iteF ⟨1, rfl, ?_⟩
  refine ⟨_, rfl, a, rfl, ⟨_, hs⟩, for_tup (xs := xs)
    (fun i σ H3 => ∃ (c : Int) (y3 : Option V), σ = [some (.ref a), some (.int e), some (.int c), y3] ∧ H3 = H ∧ Rising c (rs.drop i))
    ⟨-1, none, rfl, rfl, ris⟩ (fun i σ H3 _ hP => ?_) (fun i x σ H3 hx hP => ?_) (fun σ H3 hP => ?_)⟩
  · obtain ⟨_, _, _, rfl, _⟩ := hP
    exact hs
  · obtain ⟨c, y3, rfl, rfl, hR⟩ := hP
    obtain ⟨d, hd, hxd⟩ := dpAll_get hall hx
    rw [List.getElem?_map] at hd
    obtain ⟨r, hr1, rfl⟩ := Option.map_eq_some_iff.mp hd
    cases dp_int hxd
    have hi := (List.getElem?_eq_some_iff.mp hr1).1
    rw [List.drop_eq_getElem_cons hi, (List.getElem?_eq_some_iff.mp hr1).2] at hR
    obtain ⟨hc, hR2⟩ := hR
    refine ⟨_, rfl, _, _, _, _, _, rfl, .ty "int", dp_ty (.int r), kit_int K (H := H3) (.int r), _, rfl, iteF ?_⟩
    refine ⟨_, rfl, _, rfl, _, _, rfl, rfl, _, rfl, ?_⟩
    rw [decide_eq_true hc]
    refine iteT ⟨_, rfl, _, _, rfl, rfl, _, rfl, ?_⟩
    rw [decide_eq_true (hle r (List.mem_of_getElem? hr1))]
    refine iteF ⟨_, rfl, _, _, rfl, rfl, _, rfl, iteF ⟨_, rfl, _, _, rfl, rfl, _, rfl, iteF ?_⟩⟩
    exact ⟨_, rfl, r, _, rfl, rfl, hR2⟩
  · obtain ⟨c, y3, rfl, rfl, _⟩ := hP
    exact q
end
end PP

set_option maxHeartbeats 4000000
namespace PP
open PySem PySem.Spec PyProof.Rows L2 G3 M0 PA
abbrev nRows : List Str := ["rows", "end", "sizes", "texts", "hands", "name", "row", "many", "word", "box", "thing", "value", "way"]
theorem scRows : FnScope nRows ["rows", "end", "sizes", "texts", "hands", "name"] (defScope s_are_rows) := ⟨rfl, rfl, rfl, by decide +kernel, rfl, by decide +kernel, by decide +kernel⟩
theorem rd_same {H H' : Hp} {a : Addr} {u : HO} (s : Same H H') (h : Rd H a u) : Rd H' a u := by
  rcases h with h | ⟨o, h⟩
  · exact .inl (s _ _ h)
  · exact .inr ⟨o, s _ _ h⟩
theorem SizesAt.same {H H' : Hp} {a : Addr} {bs : List Box} (h : SizesAt H a bs) (s : Same H H') : SizesAt H' a bs := by
  obtain ⟨kvs, h1, h2⟩ := h
  exact ⟨kvs, rd_same s h1, h2⟩
/-- a dict that has these keys -/
def KeysAt (H : Hp) (a : Addr) (zs : List Str) : Prop := ∃ kvs, Rd H a (.dK kvs) ∧ ∀ z ∈ zs, (valV kvs (Sum.inr z)).isSome = true
theorem KeysAt.same {H H' : Hp} {a : Addr} {zs : List Str} (h : KeysAt H a zs) (s : Same H H') : KeysAt H' a zs := by
  obtain ⟨kvs, h1, h2⟩ := h
  exact ⟨kvs, rd_same s h1, h2⟩
theorem dp3 {K : PySem.W.Frag} {H : Hp} {v : V} {d e g : PyData} (h : Dp K H v (.tuple [d, e, g])) : ∃ a x y z, v = .ref a ∧ SqT K H a [x, y, z] ∧ Dp K H x d ∧ Dp K H y e ∧ Dp K H z g := by
  cases h with
  | tup hs ha =>
    cases ha with
    | cons h1 h2 =>
      cases h2 with
      | cons h3 h4 =>
        cases h4 with
        | cons h5 h6 =>
          cases h6
          exact ⟨_, _, _, _, rfl, hs, h1, h3, h5⟩
theorem dp4 {K : PySem.W.Frag} {H : Hp} {v : V} {d e g i : PyData} (h : Dp K H v (.tuple [d, e, g, i])) : ∃ a x y z u, v = .ref a ∧ SqT K H a [x, y, z, u] ∧ Dp K H x d ∧ Dp K H y e ∧ Dp K H z g ∧ Dp K H u i := by
  cases h with
  | tup hs ha =>
    cases ha with
    | cons h1 h2 =>
      cases h2 with
      | cons h3 h4 =>
        cases h4 with
        | cons h5 h6 =>
          cases h6 with
          | cons h7 h8 =>
            cases h8
            exact ⟨_, _, _, _, _, rfl, hs, h1, h3, h5, h7⟩
theorem src_tup {s : Src} : ∃ ds, s.data = .tuple ds := by
  cases s <;> exact ⟨_, rfl⟩
section
variable {P : Program} {w : World} {K : PySem.W.Frag} {mg : Str → Option Value} {base : Heap}
def spRows (K : PySem.W.Frag) : Sp := fun vs H Q _ => ∃ (v : V) (rs : List PA.Row) (e : Int) (sz tx hd : Addr) (nm : Str) (bs : List Box) (titles others : List Str), vs = [v, .int e, .ref sz, .ref tx, .ref hd, .str nm] ∧ Dp K H v (rowsD rs) ∧ SizesAt H sz bs ∧ KeysAt H tx titles ∧ KeysAt H hd others ∧
  nm ∉ others ∧ (∀ r ∈ rs, RowOk bs titles others e r) ∧ ∀ H', Same H H' → Q (.bl true) H'
set_option maxHeartbeats 8000000 in
theorem ok_rows {f : Addr} {fd : FuncData} {k : Nat} (F : Fun K "are_rows" "are_rows" s_are_rows f fd) (DS : Def P w K mg base CX0 (k + 1) "is_source" ["source", "size", "box", "sizes"] (spSource K)) (DW : Def P w K mg base CX0 (k + 1) "are_ways" ["thing", "end"] (spWays K))
    (mi : mg "isinstance" = none) (mt : mg "tuple" = none) (ms : mg "str" = none) (mn : mg "int" = none) (ml : mg "len" = none) : FnOk P w K mg base CX0 (k + 1 + 1) f fd ["rows", "end", "sizes", "texts", "hands", "name"] (spRows K) := by
  refine F.ok scRows (fun vs H Q E h => ?_) (fun cdv A outer s H vs Q E hr h => ?_)
  · obtain ⟨v, rs, e, sz, tx, hd, nm, bs, titles, others, rfl, _⟩ := h
    rfl
  obtain ⟨v, rs, e, sz, tx, hd, nm, bs, titles, others, rfl, hv, hz, ht, hh, hnm, hok, q⟩ := h
  have nd := scRows.nd
  have hu := hu_of hr
  refine ⟨_, pss_cons (ps_for PassesOwn.never rfl (pi_tup (pv 0)) (pg_name (i := 6) nd rfl (.inl rfl))
      (pss_cons (ps_if (pt_not (pt_val (pe_callB call_isi (by rfl) mi PyProof.Rows.boot_isinstance (pa_cons (pv 6) (pa_cons (pe_bltn (by rfl) mt (u := .type "tuple") (by decide +kernel) (show RelV (.ty "tuple") (.type "tuple") from rfl)) pa_nil))))) (pss_one ps_dead) pss_nil)
      (pss_cons (ps_set (i := 7) nd rfl (.inl rfl) (pe_callB call_len_seq (by rfl) ml PySem.boot_len (pa_cons (pv 6) pa_nil)))
      (pss_one (ps_if (pt_cmpR op_eq (pv 7) pe_int (nomark _))
        (pss_cons (ps_asg (pv 6) (pg_tup rfl (pgs_cons (pg_name (i := 8) nd rfl (.inl rfl)) (pgs_cons (pg_name (i := 9) nd rfl (.inl rfl)) (pgs_cons (pg_name (i := 10) nd rfl (.inl rfl)) pgs_nil)))))
        (pss_cons (ps_if (PW.pt (pw_or (pt_not (pt_val (pe_callB call_isi (by rfl) mi PyProof.Rows.boot_isinstance (pa_cons (pv 8) (pa_cons (pe_bltn (by rfl) ms (u := .type "str") (by decide +kernel) (show RelV (.ty "str") (.type "str") from rfl)) pa_nil)))))
            (pw_or1 (pt_not (pt_val (pe_callB call_isi (by rfl) mi PyProof.Rows.boot_isinstance (pa_cons (pv 9) (pa_cons (pe_bltn (by rfl) ms (u := .type "str") (by decide +kernel) (show RelV (.ty "str") (.type "str") from rfl)) pa_nil)))))))) (pss_one ps_dead) pss_nil)
        (pss_one (ps_if (pt_cmpR op_eq (pv 8) pe_str (nomark _))
          (pss_one (ps_if (PW.pt (pw_or (pt_not (pt_val (pe_callB call_isi (by rfl) mi PyProof.Rows.boot_isinstance (pa_cons (pv 10) (pa_cons (pe_bltn (by rfl) mt (u := .type "tuple") (by decide +kernel) (show RelV (.ty "tuple") (.type "tuple") from rfl)) pa_nil)))))
            (pw_or1 (pt_not (pt_val (pe_call DS.ok hr (by rfl) DS.g DS.kp DS.b .nil pass0 (pa_cons (pv 10) (pa_cons (pe_dget hu (pv 2) (pv 9) (fun _ _ => rfl)) (pa_cons (pv 9) (pa_cons (pv 2) pa_nil)))))))))) (pss_one ps_dead) pss_nil))
          (pss_one (ps_if (PW.pt (pw_or (pt_cmpR op_ne (pv 8) pe_str (nomark _))
              (pw_or (pt_not (pt_val (pe_callB call_isi (by rfl) mi PyProof.Rows.boot_isinstance (pa_cons (pv 10) (pa_cons (pe_bltn (by rfl) mn (u := .type "int") (by decide +kernel) (show RelV (.ty "int") (.type "int") from rfl)) pa_nil)))))
              (pw_or1 (pt_not (pt_chain op_le op_lt pe_int (pv 10) (pe_dget hu (pv 2) (pv 9) (fun _ _ => rfl))))))))
            (pss_one ps_dead)
            (pss_one (ps_if (PW.pt (pw_or (pt_cmpR op_isIB (pv 10) pe_bl (nomark _)) (pw_or1 (pt_cmpR op_isIB (pv 10) pe_bl (nomark _))))) (pss_one ps_dead) pss_nil))))))))
        (pss_one (ps_if (pt_cmpR op_eq (pv 7) pe_int (nomark _))
          (pss_cons (ps_asg (pv 6) (pg_tup rfl (pgs_cons (pg_name (i := 8) nd rfl (.inl rfl)) (pgs_cons (pg_name (i := 10) nd rfl (.inl rfl)) pgs_nil))))
          (pss_cons (ps_if (pt_not (pt_val (pe_callB call_isi (by rfl) mi PyProof.Rows.boot_isinstance (pa_cons (pv 8) (pa_cons (pe_bltn (by rfl) ms (u := .type "str") (by decide +kernel) (show RelV (.ty "str") (.type "str") from rfl)) pa_nil))))) (pss_one ps_dead) pss_nil)
          (pss_one (ps_if (pt_cmpR op_eq (pv 8) pe_str (nomark _))
            (pss_one (ps_if (pt_not (pt_val (pe_call DW.ok hr (by rfl) DW.g DW.kp DW.b .nil pass0 (pa_cons (pv 10) (pa_cons (pv 1) pa_nil))))) (pss_one ps_dead) pss_nil))
            (pss_one (ps_if (pt_not (pt_val (pe_callB call_isi (by rfl) mi PyProof.Rows.boot_isinstance (pa_cons (pv 10) (pa_cons (pe_bltn (by rfl) ms (u := .type "str") (by decide +kernel) (show RelV (.ty "str") (.type "str") from rfl)) pa_nil))))) (pss_one ps_dead)
              (pss_one (ps_if (pt_cmp (pc_dnotin hu (pv 10) (pe_ifExp (pt_cmpR op_eq (pv 8) pe_str (nomark _)) (pv 3) (pe_ifExp (PW.pt (pw_and (pt_cmpR op_eq (pv 8) pe_str (nomark _)) (pw_and1 (pt_cmpR op_ne (pv 10) (pv 5) (nomark _))))) (pv 4) pe_dead))) rfl) (pss_one ps_dead) pss_nil))))))))
          (pss_one (ps_if (pt_cmpR op_eq (pv 7) pe_int (nomark _))
            (pss_cons (ps_asg (pv 6) (pg_tup rfl (pgs_cons (pg_name (i := 8) nd rfl (.inl rfl)) (pgs_cons (pg_name (i := 9) nd rfl (.inl rfl)) (pgs_cons (pg_name (i := 11) nd rfl (.inl rfl)) (pgs_cons (pg_name (i := 12) nd rfl (.inl rfl)) pgs_nil))))))
            (pss_cons (ps_if (PW.pt (pw_or (pt_not (pt_val (pe_callB call_isi (by rfl) mi PyProof.Rows.boot_isinstance (pa_cons (pv 8) (pa_cons (pe_bltn (by rfl) ms (u := .type "str") (by decide +kernel) (show RelV (.ty "str") (.type "str") from rfl)) pa_nil)))))
                (pw_or (pt_cmpR op_ne (pv 8) pe_str (nomark _))
                (pw_or1 (pt_not (pt_val (pe_callB call_isi (by rfl) mi PyProof.Rows.boot_isinstance (pa_cons (pv 9) (pa_cons (pe_bltn (by rfl) ms (u := .type "str") (by decide +kernel) (show RelV (.ty "str") (.type "str") from rfl)) pa_nil))))))))) (pss_one ps_dead) pss_nil)
            (pss_cons (ps_if (PW.pt (pw_or (pt_not (pt_val (pe_callB call_isi (by rfl) mi PyProof.Rows.boot_isinstance (pa_cons (pv 11) (pa_cons (pe_bltn (by rfl) mn (u := .type "int") (by decide +kernel) (show RelV (.ty "int") (.type "int") from rfl)) pa_nil)))))
                (pw_or (pt_not (pt_chain op_le op_lt pe_int (pv 11) (pe_dget hu (pv 2) (pv 9) (fun _ _ => rfl))))
                (pw_or (pt_cmpR op_isIB (pv 11) pe_bl (nomark _)) (pw_or1 (pt_cmpR op_isIB (pv 11) pe_bl (nomark _))))))) (pss_one ps_dead) pss_nil)
            (pss_one (ps_if (PW.pt (pw_or (pt_not (pt_val (pe_callB call_isi (by rfl) mi PyProof.Rows.boot_isinstance (pa_cons (pv 12) (pa_cons (pe_bltn (by rfl) mn (u := .type "int") (by decide +kernel) (show RelV (.ty "int") (.type "int") from rfl)) pa_nil)))))
                (pw_or (pt_not (pt_chain op_le op_le pe_int (pv 12) (pv 1)))
                (pw_or (pt_cmpR op_isIB (pv 12) pe_bl (nomark _)) (pw_or1 (pt_cmpR op_isIB (pv 12) pe_bl (nomark _))))))) (pss_one ps_dead) pss_nil)))))
            (pss_one (ps_if (PW.pt (pw_or (pt_cmpR op_ne (pv 7) pe_int (nomark _))
                (pw_or (pt_not (pt_val (pe_callB call_isi (by rfl) mi PyProof.Rows.boot_isinstance (pa_cons (pe_ix ix_tup (pv 6) pe_int (fun _ _ => rfl)) (pa_cons (pe_bltn (by rfl) ms (u := .type "str") (by decide +kernel) (show RelV (.ty "str") (.type "str") from rfl)) pa_nil)))))
                (pw_or1 (pt_cmpR op_notIn_seq (pe_ix ix_tup (pv 6) pe_int (fun _ _ => rfl)) (pe_tup (pa_cons pe_str (pa_cons pe_str pa_nil))) rfl))))) (pss_one ps_dead) pss_nil)))))))))))
    (pss_one (ps_ret pe_bl)), ?_⟩
  obtain ⟨a, xs, rfl, hs, hall⟩ := dp_tup hv
  have hxl : xs.length = rs.length := by rw [dpAll_len hall, List.length_map]
  refine ⟨_, rfl, a, rfl, ⟨_, hs⟩, for_tup (xs := xs)
    (fun i σ H3 => ∃ y6 y7 y8 y9 y10 y11 y12, σ = [some (.ref a), some (.int e), some (.ref sz), some (.ref tx), some (.ref hd), some (.str nm), y6, y7, y8, y9, y10, y11, y12] ∧ Same H H3)
    ⟨none, none, none, none, none, none, none, rfl, Same.refl _⟩ (fun i σ H3 _ hP => ?_) (fun i x σ H3 hx hP => ?_) (fun σ H3 hP => ?_)⟩
  · obtain ⟨_, _, _, _, _, _, _, _, sm⟩ := hP
    exact same_tup sm hs
  · obtain ⟨y6, y7, y8, y9, y10, y11, y12, rfl, sm⟩ := hP
    obtain ⟨d, hd1, hxd0⟩ := dpAll_get hall hx
    rw [List.getElem?_map] at hd1
    obtain ⟨r, hr1, rfl⟩ := Option.map_eq_some_iff.mp hd1
    have okr := hok r (List.mem_of_getElem? hr1)
    have hxd := dp_same sm _ _ hxd0
    have hz3 := hz.same sm
    have ht3 := ht.same sm
    have hh3 := hh.same sm
    clear hxd0 hd1 hz ht hh
    cases r with
    | set b sr =>
      obtain ⟨n, h1, h2⟩ := okr
      obtain ⟨c, v1, v2, v3, rfl, hc, g1, g2, g3⟩ := dp3 hxd
      cases dp_str g1
      cases dp_str g2
      refine ⟨_, rfl, _, _, _, _, _, rfl, .ty "tuple", dp_ty hxd, kit_tup K hxd, _, rfl, iteF ⟨_, rfl, c, _, rfl, .inr hc, ?_⟩⟩
      refine ⟨_, rfl, rfl, _, rfl, iteT ⟨_, rfl, c, _, rfl, hc, rfl, _, _, rfl, _, _, rfl, _, _, rfl, rfl, ?_⟩⟩
      refine ⟨_, rfl, _, _, _, _, _, rfl, .ty "str", dp_ty (.str "set"), kit_str K (H := H) (.str "set"), _, rfl, iteF ?_⟩
      refine ⟨_, rfl, _, _, _, _, _, rfl, .ty "str", dp_ty (.str b), kit_str K (H := H) (.str b), _, rfl, iteF ?_⟩
      refine ⟨_, rfl, rfl, _, rfl, iteT ?_⟩
      obtain ⟨ds, eds⟩ := src_tup (s := sr)
      have g3' := g3
      rw [eds] at g3'
      refine ⟨_, rfl, _, _, _, _, _, rfl, .ty "tuple", dp_ty g3', kit_tup K g3', _, rfl, iteF ?_⟩
      refine ⟨_, rfl, _, rfl, _, rfl, sz, _, rfl, hz3.get h1, _, rfl, _, rfl, v3, bs, b, n, sr, sz, rfl, g3, hz3, h2, _, rfl, iteF ?_⟩
      exact ⟨_, _, _, _, _, _, _, rfl, sm⟩
    | wait b v =>
      obtain ⟨n, h1, h2, h3⟩ := okr
      obtain ⟨c, v1, v2, v3, rfl, hc, g1, g2, g3⟩ := dp3 hxd
      cases dp_str g1
      cases dp_str g2
      cases dp_int g3
      refine ⟨_, rfl, _, _, _, _, _, rfl, .ty "tuple", dp_ty hxd, kit_tup K hxd, _, rfl, iteF ⟨_, rfl, c, _, rfl, .inr hc, ?_⟩⟩
      refine ⟨_, rfl, rfl, _, rfl, iteT ⟨_, rfl, c, _, rfl, hc, rfl, _, _, rfl, _, _, rfl, _, _, rfl, rfl, ?_⟩⟩
      refine ⟨_, rfl, _, _, _, _, _, rfl, .ty "str", dp_ty (.str "wait"), kit_str K (H := H) (.str "wait"), _, rfl, iteF ?_⟩
      refine ⟨_, rfl, _, _, _, _, _, rfl, .ty "str", dp_ty (.str b), kit_str K (H := H) (.str b), _, rfl, iteF ?_⟩
      refine ⟨_, rfl, rfl, _, rfl, iteF ⟨_, rfl, rfl, _, rfl, iteNS rfl ?_⟩⟩
      refine ⟨_, rfl, _, _, _, _, _, rfl, .ty "int", dp_ty (.int v), kit_int K (H := H) (.int v), _, rfl, iteF ?_⟩
      refine ⟨_, rfl, _, _, rfl, rfl, _, rfl, ?_⟩
      rw [decide_eq_true h2]
      refine iteT ⟨_, rfl, _, rfl, sz, _, rfl, hz3.get h1, _, _, rfl, rfl, _, rfl, ?_⟩
      rw [decide_eq_true h3]
      refine iteF ⟨_, rfl, _, _, rfl, rfl, _, rfl, iteF ⟨_, rfl, _, _, rfl, rfl, _, rfl, iteF ?_⟩⟩
      exact ⟨_, _, _, _, _, _, _, rfl, sm⟩
    | go ws =>
      obtain ⟨h1, h2, h3, h4⟩ := okr
      obtain ⟨c, v1, v2, rfl, hc, g1, g2⟩ := dp2 hxd
      cases dp_str g1
      refine ⟨_, rfl, _, _, _, _, _, rfl, .ty "tuple", dp_ty hxd, kit_tup K hxd, _, rfl, iteF ⟨_, rfl, c, _, rfl, .inr hc, ?_⟩⟩
      refine ⟨_, rfl, rfl, _, rfl, iteF ⟨_, rfl, rfl, _, rfl, iteT ⟨_, rfl, c, _, rfl, hc, rfl, _, _, rfl, _, _, rfl, rfl, ?_⟩⟩⟩
      refine ⟨_, rfl, _, _, _, _, _, rfl, .ty "str", dp_ty (.str "go"), kit_str K (H := H) (.str "go"), _, rfl, iteF ?_⟩
      refine ⟨_, rfl, rfl, _, rfl, iteT ⟨_, rfl, _, rfl, v2, ws, e, rfl, g2, h1, h2, h3, h4, _, rfl, iteF ?_⟩⟩
      exact ⟨_, _, _, _, _, _, _, rfl, sm⟩
    | call t =>
      have okr' : t ∈ titles := okr
      obtain ⟨c, v1, v2, rfl, hc, g1, g2⟩ := dp2 hxd
      cases dp_str g1
      cases dp_str g2
      obtain ⟨kt, rt, st⟩ := ht3
      refine ⟨_, rfl, _, _, _, _, _, rfl, .ty "tuple", dp_ty hxd, kit_tup K hxd, _, rfl, iteF ⟨_, rfl, c, _, rfl, .inr hc, ?_⟩⟩
      refine ⟨_, rfl, rfl, _, rfl, iteF ⟨_, rfl, rfl, _, rfl, iteT ⟨_, rfl, c, _, rfl, hc, rfl, _, _, rfl, _, _, rfl, rfl, ?_⟩⟩⟩
      refine ⟨_, rfl, _, _, _, _, _, rfl, .ty "str", dp_ty (.str "call"), kit_str K (H := H) (.str "call"), _, rfl, iteF ?_⟩
      refine ⟨_, rfl, rfl, _, rfl, iteF ?_⟩
      refine ⟨_, rfl, _, _, _, _, _, rfl, .ty "str", dp_ty (.str t), kit_str K (H := H) (.str t), _, rfl, iteF ?_⟩
      refine ⟨_, rfl, _, rfl, rfl, _, rfl, iteT ⟨_, rfl, tx, _, rfl, .inl ⟨kt, Sum.inr t, rt, rfl, rfl⟩, _, rfl, ?_⟩⟩
      rw [st t okr']
      exact iteF ⟨_, _, _, _, _, _, _, rfl, sm⟩
    | begin h =>
      have okr' : h ∈ others := okr
      have ne : h ≠ nm := fun z => hnm (z ▸ okr')
      obtain ⟨c, v1, v2, rfl, hc, g1, g2⟩ := dp2 hxd
      cases dp_str g1
      cases dp_str g2
      obtain ⟨kt, rt, st⟩ := hh3
      refine ⟨_, rfl, _, _, _, _, _, rfl, .ty "tuple", dp_ty hxd, kit_tup K hxd, _, rfl, iteF ⟨_, rfl, c, _, rfl, .inr hc, ?_⟩⟩
      refine ⟨_, rfl, rfl, _, rfl, iteF ⟨_, rfl, rfl, _, rfl, iteT ⟨_, rfl, c, _, rfl, hc, rfl, _, _, rfl, _, _, rfl, rfl, ?_⟩⟩⟩
      refine ⟨_, rfl, _, _, _, _, _, rfl, .ty "str", dp_ty (.str "begin"), kit_str K (H := H) (.str "begin"), _, rfl, iteF ?_⟩
      refine ⟨_, rfl, rfl, _, rfl, iteF ?_⟩
      refine ⟨_, rfl, _, _, _, _, _, rfl, .ty "str", dp_ty (.str h), kit_str K (H := H) (.str h), _, rfl, iteF ?_⟩
      refine ⟨_, rfl, _, rfl, rfl, _, rfl, iteF ⟨_, rfl, rfl, _, rfl, iteT ⟨_, rfl, _, rfl, rfl, _, rfl, ?_⟩⟩⟩
      rw [decide_eq_false (show ¬ V.str h = V.str nm from fun z => ne (V.str.inj z))]
      refine iteT ⟨_, rfl, hd, _, rfl, .inl ⟨kt, Sum.inr h, rt, rfl, rfl⟩, _, rfl, ?_⟩
      rw [st h okr']
      exact iteF ⟨_, _, _, _, _, _, _, rfl, sm⟩
    | ift b v r =>
      obtain ⟨n, h1, h2, h3, h4, h5⟩ := okr
      obtain ⟨c, v1, v2, v3, v4, rfl, hc, g1, g2, g3, g4⟩ := dp4 hxd
      cases dp_str g1
      cases dp_str g2
      cases dp_int g3
      cases dp_int g4
      refine ⟨_, rfl, _, _, _, _, _, rfl, .ty "tuple", dp_ty hxd, kit_tup K hxd, _, rfl, iteF ⟨_, rfl, c, _, rfl, .inr hc, ?_⟩⟩
      refine ⟨_, rfl, rfl, _, rfl, iteF ⟨_, rfl, rfl, _, rfl, iteF ⟨_, rfl, rfl, _, rfl, iteT ⟨_, rfl, c, _, rfl, hc, rfl, _, _, rfl, _, _, rfl, _, _, rfl, _, _, rfl, rfl, ?_⟩⟩⟩⟩
      refine ⟨_, rfl, _, _, _, _, _, rfl, .ty "str", dp_ty (.str "if"), kit_str K (H := H) (.str "if"), _, rfl, iteF ?_⟩
      refine ⟨_, rfl, rfl, _, rfl, iteNS rfl ?_⟩
      refine ⟨_, rfl, _, _, _, _, _, rfl, .ty "str", dp_ty (.str b), kit_str K (H := H) (.str b), _, rfl, iteF ?_⟩
      refine ⟨_, rfl, _, _, _, _, _, rfl, .ty "int", dp_ty (.int v), kit_int K (H := H) (.int v), _, rfl, iteF ?_⟩
      refine ⟨_, rfl, _, _, rfl, rfl, _, rfl, ?_⟩
      rw [decide_eq_true h2]
      refine iteT ⟨_, rfl, _, rfl, sz, _, rfl, hz3.get h1, _, _, rfl, rfl, _, rfl, ?_⟩
      rw [decide_eq_true h3]
      refine iteF ⟨_, rfl, _, _, rfl, rfl, _, rfl, iteF ⟨_, rfl, _, _, rfl, rfl, _, rfl, iteF ?_⟩⟩
      refine ⟨_, rfl, _, _, _, _, _, rfl, .ty "int", dp_ty (.int r), kit_int K (H := H) (.int r), _, rfl, iteF ?_⟩
      refine ⟨_, rfl, _, _, rfl, rfl, _, rfl, ?_⟩
      rw [decide_eq_true h4]
      refine iteT ⟨_, rfl, _, _, rfl, rfl, _, rfl, ?_⟩
      rw [decide_eq_true h5]
      refine iteF ⟨_, rfl, _, _, rfl, rfl, _, rfl, iteF ⟨_, rfl, _, _, rfl, rfl, _, rfl, iteF ?_⟩⟩
      exact ⟨_, _, _, _, _, _, _, rfl, sm⟩
    | back =>
      obtain ⟨c, v1, rfl, hc, g1⟩ := dp1 hxd
      cases dp_str g1
      refine ⟨_, rfl, _, _, _, _, _, rfl, .ty "tuple", dp_ty hxd, kit_tup K hxd, _, rfl, iteF ⟨_, rfl, c, _, rfl, .inr hc, ?_⟩⟩
      refine ⟨_, rfl, rfl, _, rfl, iteF ⟨_, rfl, rfl, _, rfl, iteF ⟨_, rfl, rfl, _, rfl, iteF ⟨_, rfl, rfl, _, rfl, iteNS rfl ?_⟩⟩⟩⟩
      refine ⟨_, rfl, c, _, 0, _, rfl, rfl, hc, atI_nat (j := 0) rfl, _, _, _, _, _, rfl, .ty "str", dp_ty (.str "back"), kit_str K (H := H) (.str "back"), _, rfl, iteF ?_⟩
      refine ⟨_, rfl, c, _, 0, _, rfl, rfl, hc, atI_nat (j := 0) rfl, by show 2 ≤ sizeLine; decide, fun p np => ?_⟩
      refine ⟨p, _, rfl, .inr (SqT.of upd_same), rfl, rfl, false, rfl, iteF ?_⟩
      exact ⟨_, _, _, _, _, _, _, rfl, sm.trans (same_new np)⟩
    | fault =>
      obtain ⟨c, v1, rfl, hc, g1⟩ := dp1 hxd
      cases dp_str g1
      refine ⟨_, rfl, _, _, _, _, _, rfl, .ty "tuple", dp_ty hxd, kit_tup K hxd, _, rfl, iteF ⟨_, rfl, c, _, rfl, .inr hc, ?_⟩⟩
      refine ⟨_, rfl, rfl, _, rfl, iteF ⟨_, rfl, rfl, _, rfl, iteF ⟨_, rfl, rfl, _, rfl, iteF ⟨_, rfl, rfl, _, rfl, iteNS rfl ?_⟩⟩⟩⟩
      refine ⟨_, rfl, c, _, 0, _, rfl, rfl, hc, atI_nat (j := 0) rfl, _, _, _, _, _, rfl, .ty "str", dp_ty (.str "fault"), kit_str K (H := H) (.str "fault"), _, rfl, iteF ?_⟩
      refine ⟨_, rfl, c, _, 0, _, rfl, rfl, hc, atI_nat (j := 0) rfl, by show 2 ≤ sizeLine; decide, fun p np => ?_⟩
      refine ⟨p, _, rfl, .inr (SqT.of upd_same), rfl, rfl, false, rfl, iteF ?_⟩
      exact ⟨_, _, _, _, _, _, _, rfl, sm.trans (same_new np)⟩
  · obtain ⟨_, _, _, _, _, _, _, rfl, sm⟩ := hP
    exact q H3 sm
end
end PP

set_option maxHeartbeats 4000000
namespace PP
open PySem PySem.Spec PyProof.Rows L2 G3 M0 PA
abbrev nScopes : List Str := ["common", "hands", "scopes", "hand", "name", "own", "thing", "sizes", "texts", "text", "title", "rows"]
theorem scScopes : FnScope nScopes ["common", "hands"] (defScope s_scopes_of) := ⟨rfl, rfl, rfl, by decide +kernel, rfl, by decide +kernel, by decide +kernel⟩
def txtK (x : Text × V) : Key × V := (Sum.inr x.1.1, x.2)
/-- what stands for a hand -/
def HandAt (K : PySem.W.Frag) (H0 H : Hp) (sc : Addr) (bs : List Box) (h : Hand) (e : Key × V) : Prop := ∃ (t z x : Addr) (vs : List V), e = (Sum.inr h.1, .ref t) ∧ H t = some (.tup [.ref z, .ref x]) ∧ H z = some (.dK ((bs ++ h.2.1).map boxK)) ∧ H x = some (.dK ((h.2.2.zip vs).map txtK)) ∧ z ≠ sc ∧ x ≠ sc ∧ H0 x = none ∧
  DpAll K H0 vs (h.2.2.map fun t => rowsD t.2)
def ScopesAt (K : PySem.W.Frag) (H0 H : Hp) (sc : Addr) (bs : List Box) (hs : List Hand) : Prop := ∃ kvs, H sc = some (.dK kvs) ∧ kvs.length = hs.length ∧ ∀ (i : Nat) (h : Hand) (e : Key × V), hs[i]? = some h → kvs[i]? = some e → HandAt K H0 H sc bs h e
theorem HandAt.keep {K : PySem.W.Frag} {H0 H H' : Hp} {sc : Addr} {bs : List Box} {h : Hand} {e : Key × V} (a : HandAt K H0 H sc bs h e) (s : ∀ b o, b ≠ sc → H b = some o → H' b = some o) (ns : ∀ xs, H sc ≠ some (.tup xs)) : HandAt K H0 H' sc bs h e := by
  obtain ⟨t, z, x, vs, e1, h1, h2, h3, n1, n2, nx, d⟩ := a
  exact ⟨t, z, x, vs, e1, s _ _ (fun q => ns _ (q ▸ h1)) h1, s _ _ n1 h2, s _ _ n2 h3, n1, n2, nx, d⟩
theorem val_names {kvs : List (Key × V)} {hs : List Hand} {nm : Str} (hl : kvs.length ≤ hs.length) (hk : ∀ (i : Nat) (h : Hand) (e : Key × V), hs[i]? = some h → kvs[i]? = some e → e.1 = Sum.inr h.1) (hn : ∀ h ∈ hs.take kvs.length, h.1 ≠ nm) : valV kvs (Sum.inr nm) = none := by
  unfold valV
  rw [Option.map_eq_none_iff, List.find?_eq_none]
  intro e he z
  obtain ⟨i, hi, rfl⟩ := List.getElem_of_mem he
  have hh : i < hs.length := by omega
  have e1 := hk i hs[i] kvs[i] (List.getElem?_eq_getElem hh) (List.getElem?_eq_getElem hi)
  have e2 := of_decide_eq_true z
  rw [e1] at e2
  refine hn hs[i] ?_ (Sum.inr.inj e2)
  exact List.mem_take_iff_getElem.mpr ⟨i, by omega, rfl⟩
theorem val_txts {ts : List Text} {vs : List V} {j : Nat} {z : Str} (hn : ∀ t ∈ ts.take j, t.1 ≠ z) : valV (((ts.zip vs).take j).map txtK) (Sum.inr z) = none := by
  unfold valV
  rw [Option.map_eq_none_iff, List.find?_eq_none]
  intro e he q
  obtain ⟨x, hx, rfl⟩ := List.mem_map.mp he
  obtain ⟨i, hi, ei⟩ := List.mem_take_iff_getElem.mp hx
  have hz : i < (ts.zip vs).length := by omega
  have ht : i < ts.length := by
    rw [List.length_zip] at hz
    omega
  have e2 : x.1 = ts[i] := by
    rw [← ei, List.getElem_zip]
  refine hn x.1 ?_ (Sum.inr.inj (of_decide_eq_true q))
  rw [e2]
  exact List.mem_take_iff_getElem.mpr ⟨i, by omega, rfl⟩
/-- the rows of each text -/
theorem txts_of {K : PySem.W.Frag} {H : Hp} : ∀ {tl : List Text} {ws : List V}, DpAll K H ws (tl.map textD) → ∃ us : List V, us.length = tl.length ∧ (∀ (j : Nat) (t : Text) (y : V), tl[j]? = some t → ws[j]? = some y → ∃ (ca : Addr) (r : V), us[j]? = some r ∧ y = .ref ca ∧ SqT K H ca [.str t.1, r] ∧ Dp K H r (rowsD t.2)) ∧ DpAll K H us (tl.map fun t => rowsD t.2)
  | [], _, h => by
    cases h
    exact ⟨[], rfl, fun j t y e => by simp at e, .nil⟩
  | t :: tl, _, h => by
    cases h with
    | cons k1 k2 =>
      obtain ⟨ca, r1, r2, rfl, kc, m1, m2⟩ := dp2 k1
      cases dp_str m1
      obtain ⟨us, e1, e2, e3⟩ := txts_of k2
      refine ⟨r2 :: us, by rw [List.length_cons, List.length_cons, e1], fun j t' y a b => ?_, .cons m2 e3⟩
      cases j with
      | zero =>
        simp at a b
        subst a b
        exact ⟨ca, r2, rfl, rfl, kc, m2⟩
      | succ j =>
        simp at a b
        obtain ⟨ca', r', q1, q2⟩ := e2 j t' y a b
        exact ⟨ca', r', by simpa using q1, q2⟩
structure HandsOk (bs : List Box) (hs : List Hand) : Prop where
  few : hs.length ≤ 4
  nm : ∀ h ∈ hs, nameB h.1 = true
  nd : (hs.map (·.1)).Nodup
  own : ∀ h ∈ hs, BoxesOk h.2.1 24 8 (bs.map (·.1))
  txt : ∀ h ∈ hs, 1 ≤ h.2.2.length ∧ h.2.2.length ≤ 32 ∧ (∀ t ∈ h.2.2, nameB t.1 = true ∧ 1 ≤ t.2.length ∧ t.2.length ≤ 2000) ∧ (h.2.2.map (·.1)).Nodup
theorem val_bs {bs : List Box} {z : Str} (h : z ∉ bs.map (·.1)) : valV (bs.map boxK) (Sum.inr z) = none := by
  have := val_boxes [] bs z rfl fun b hb e => h (e ▸ List.mem_map_of_mem hb)
  rw [List.nil_append] at this
  exact this
section
variable {P : Program} {w : World} {K : PySem.W.Frag} {mg : Str → Option Value} {base : Heap}
def spScopes (K : PySem.W.Frag) : Sp := fun vs H Q _ => ∃ (cA : Addr) (v : V) (bs : List Box) (hs : List Hand), vs = [.ref cA, v] ∧ H cA = some (.dK (bs.map boxK)) ∧ bs.length ≤ 8 ∧ Dp K H v (.tuple (hs.map handD)) ∧ HandsOk bs hs ∧
  ∀ H' sc, Same H H' → H sc = none → ScopesAt K H H' sc bs hs → Q (.ref sc) H'
set_option maxHeartbeats 8000000 in
theorem ok_scopes {f : Addr} {fd : FuncData} {k : Nat} {t8 t24 t9 t32 t2k : Tok} (F : Fun K "scopes_of" "scopes_of" s_scopes_of f fd) (DB : Def P w K mg base CX0 (k + 1) "are_boxes" ["thing", "most", "greatest", "sizes"] (spBoxes K))
    (mi : mg "isinstance" = none) (mt : mg "tuple" = none) (ms : mg "str" = none) (ml : mg "len" = none) (m8 : mg "LONGEST_NAME" = some (.int 8 t8)) (m24 : mg "MOST_OWN" = some (.int 24 t24)) (m9 : mg "GREATEST_OWN" = some (.int 8 t9)) (m32 : mg "MOST_TEXTS" = some (.int 32 t32)) (m2k : mg "MOST_ROWS" = some (.int 2000 t2k)) :
    FnOk P w K mg base CX0 (k + 1 + 1) f fd ["common", "hands"] (spScopes K) := by
  refine F.ok scScopes (fun vs H Q E h => ?_) (fun cdv A outer s H vs Q E hr h => ?_)
  · obtain ⟨cA, v, bs, hs, rfl, _⟩ := h
    rfl
  obtain ⟨cA, v, bs, hs, rfl, hcA, hb8, hv, ok, q⟩ := h
  have nd := scScopes.nd
  have hu := hu_of hr
  refine ⟨_, pss_cons (ps_set (i := 2) nd rfl (.inl rfl) pe_dnewK)
    (pss_cons (ps_for PassesOwn.never rfl (pi_tup (pv 1)) (pg_name (i := 3) nd rfl (.inl rfl))
      (pss_cons (ps_if (PW.pt (pw_or (pt_not (pt_val (pe_callB call_isi (by rfl) mi PyProof.Rows.boot_isinstance (pa_cons (pv 3) (pa_cons (pe_bltn (by rfl) mt (u := .type "tuple") (by decide +kernel) (show RelV (.ty "tuple") (.type "tuple") from rfl)) pa_nil)))))
          (pw_or1 (pt_cmpR op_ne (pe_callB call_len_seq (by rfl) ml PySem.boot_len (pa_cons (pv 3) pa_nil)) pe_int (nomark _))))) (pss_one ps_dead) pss_nil)
      (pss_cons (ps_asg (pv 3) (pg_tup rfl (pgs_cons (pg_name (i := 4) nd rfl (.inl rfl)) (pgs_cons (pg_name (i := 5) nd rfl (.inl rfl)) (pgs_cons (pg_name (i := 6) nd rfl (.inl rfl)) pgs_nil)))))
      (pss_cons (ps_if (PW.pt (pw_or (pt_not (pt_val (pe_callB call_isi (by rfl) mi PyProof.Rows.boot_isinstance (pa_cons (pv 4) (pa_cons (pe_bltn (by rfl) ms (u := .type "str") (by decide +kernel) (show RelV (.ty "str") (.type "str") from rfl)) pa_nil)))))
          (pw_or (pt_cmp (pc_din hu (pv 4) (pv 2)))
          (pw_or (pt_cmpR op_gt (pe_callB call_len_str (by rfl) ml PySem.boot_len (pa_cons (pv 4) pa_nil)) (pe_glob (v := .int 8) (by rfl) m8 ⟨_, rfl⟩) (nomark _))
          (pw_or1 (pt_not (pt_val (pe_callB call_isi (by rfl) mi PyProof.Rows.boot_isinstance (pa_cons (pv 6) (pa_cons (pe_bltn (by rfl) mt (u := .type "tuple") (by decide +kernel) (show RelV (.ty "tuple") (.type "tuple") from rfl)) pa_nil)))))))))) (pss_one ps_dead) pss_nil)
      (pss_cons (ps_if (PW.pt (pw_or (pt_not (pt_val (pe_m0 PySem.F.slot_str_isascii PySem.F.type_str_isascii mt_isascii (pv 4))))
          (pw_or (pt_not (pt_val (pe_m0 PySem.F.slot_str_isalpha PySem.F.type_str_isalpha mt_isalpha (pv 4))))
          (pw_or (pt_not (pt_val (pe_m0 PySem.F.slot_str_islower PySem.F.type_str_islower mt_islower (pv 4))))
          (pw_or1 (pt_not (pt_chain op_le op_le pe_int (pe_callB call_len_seq (by rfl) ml PySem.boot_len (pa_cons (pv 6) pa_nil)) (pe_glob (v := .int 32) (by rfl) m32 ⟨_, rfl⟩)))))))) (pss_one ps_dead) pss_nil)
      (pss_cons (ps_set (i := 7) nd rfl (.inl rfl) (pe_bm0 PySem.F.plainAttrs_dict PySem.F.slot_dict_copy PySem.F.type_dict_copy mt_copy (pv 0)))
      (pss_cons (ps_if (pt_not (pt_val (pe_call DB.ok hr (by rfl) DB.g DB.kp DB.b .nil pass0 (pa_cons (pv 5) (pa_cons (pe_glob (v := .int 24) (by rfl) m24 ⟨_, rfl⟩) (pa_cons (pe_glob (v := .int 8) (by rfl) m9 ⟨_, rfl⟩) (pa_cons (pv 7) pa_nil))))))) (pss_one ps_dead) pss_nil)
      (pss_cons (ps_set (i := 8) nd rfl (.inl rfl) pe_dnewK)
      (pss_cons (ps_for PassesOwn.never rfl (pi_tup (pv 6)) (pg_name (i := 9) nd rfl (.inl rfl))
        (pss_cons (ps_if (PW.pt (pw_or (pt_not (pt_val (pe_callB call_isi (by rfl) mi PyProof.Rows.boot_isinstance (pa_cons (pv 9) (pa_cons (pe_bltn (by rfl) mt (u := .type "tuple") (by decide +kernel) (show RelV (.ty "tuple") (.type "tuple") from rfl)) pa_nil)))))
            (pw_or1 (pt_cmpR op_ne (pe_callB call_len_seq (by rfl) ml PySem.boot_len (pa_cons (pv 9) pa_nil)) pe_int (nomark _))))) (pss_one ps_dead) pss_nil)
        (pss_cons (ps_asg (pv 9) (pg_tup rfl (pgs_cons (pg_name (i := 10) nd rfl (.inl rfl)) (pgs_cons (pg_name (i := 11) nd rfl (.inl rfl)) pgs_nil))))
        (pss_cons (ps_if (PW.pt (pw_or (pt_not (pt_val (pe_callB call_isi (by rfl) mi PyProof.Rows.boot_isinstance (pa_cons (pv 10) (pa_cons (pe_bltn (by rfl) ms (u := .type "str") (by decide +kernel) (show RelV (.ty "str") (.type "str") from rfl)) pa_nil)))))
            (pw_or (pt_cmp (pc_din hu (pv 10) (pv 8)))
            (pw_or1 (pt_cmpR op_gt (pe_callB call_len_str (by rfl) ml PySem.boot_len (pa_cons (pv 10) pa_nil)) (pe_glob (v := .int 8) (by rfl) m8 ⟨_, rfl⟩) (nomark _)))))) (pss_one ps_dead) pss_nil)
        (pss_cons (ps_if (PW.pt (pw_or (pt_not (pt_val (pe_m0 PySem.F.slot_str_isascii PySem.F.type_str_isascii mt_isascii (pv 10))))
            (pw_or (pt_not (pt_val (pe_m0 PySem.F.slot_str_isalpha PySem.F.type_str_isalpha mt_isalpha (pv 10))))
            (pw_or1 (pt_not (pt_val (pe_m0 PySem.F.slot_str_islower PySem.F.type_str_islower mt_islower (pv 10)))))))) (pss_one ps_dead) pss_nil)
        (pss_cons (ps_if (PW.pt (pw_or (pt_not (pt_val (pe_callB call_isi (by rfl) mi PyProof.Rows.boot_isinstance (pa_cons (pv 11) (pa_cons (pe_bltn (by rfl) mt (u := .type "tuple") (by decide +kernel) (show RelV (.ty "tuple") (.type "tuple") from rfl)) pa_nil)))))
            (pw_or1 (pt_not (pt_chain op_le op_le pe_int (pe_callB call_len_seq (by rfl) ml PySem.boot_len (pa_cons (pv 11) pa_nil)) (pe_glob (v := .int 2000) (by rfl) m2k ⟨_, rfl⟩)))))) (pss_one ps_dead) pss_nil)
        (pss_one (ps_dput hu (pv 8) (pv 10) (pv 11) rfl))))))))
      (pss_one (ps_dput hu (pv 2) (pv 4) (pe_tup (pa_cons (pv 7) (pa_cons (pv 8) pa_nil))) rfl)))))))))))
    (pss_one (ps_ret (pv 2)))), ?_⟩
  obtain ⟨a, xs, rfl, hs1, hall⟩ := dp_tup hv
  have hxl : xs.length = hs.length := by rw [dpAll_len hall, List.length_map]
  intro sc nsc
  have s1 : Same H (upd H sc (.dK [])) := same_new nsc
  refine ⟨_, rfl, a, rfl, ⟨_, same_tup s1 hs1⟩, for_tup (xs := xs)
    (fun i σ H3 => ∃ y3 y4 y5 y6 y7 y8 y9 y10 y11 kvs, σ = [some (.ref cA), some (.ref a), some (.ref sc), y3, y4, y5, y6, y7, y8, y9, y10, y11] ∧ Same H H3 ∧ H3 sc = some (.dK kvs) ∧ kvs.length = i ∧ ∀ (j : Nat) (h : Hand) (e : Key × V), hs[j]? = some h → kvs[j]? = some e → HandAt K H H3 sc bs h e)
    ⟨none, none, none, none, none, none, none, none, none, [], rfl, s1, upd_same, rfl, fun j h e _ z => by simp at z⟩ (fun i σ H3 _ hP => ?_) (fun i x σ H3 hx hP => ?_) (fun σ H3 hP => ?_)⟩
  · obtain ⟨_, _, _, _, _, _, _, _, _, _, _, sm, _⟩ := hP
    exact same_tup sm hs1
  · obtain ⟨y3, y4, y5, y6, y7, y8, y9, y10, y11, kvs, rfl, sm, hsc, hkl, hat⟩ := hP
    obtain ⟨d, hd1, hxd0⟩ := dpAll_get hall hx
    rw [List.getElem?_map] at hd1
    obtain ⟨h, hh1, rfl⟩ := Option.map_eq_some_iff.mp hd1
    have mh := List.mem_of_getElem? hh1
    have hi : i < hs.length := (List.getElem?_eq_some_iff.mp hh1).1
    have hfew := ok.few
    obtain ⟨p1, p2, p3, p4⟩ := name_parts (ok.nm h mh)
    obtain ⟨t1, t32, tnm, tnd⟩ := ok.txt h mh
    have own := ok.own h mh
    have hxd := dp_same sm _ _ hxd0
    obtain ⟨c, v1, v2, v3, rfl, hc0, g1, g20, g30⟩ := dp3 hxd0
    cases dp_str g1
    obtain ⟨ta, ws, rfl, hta0, hws⟩ := dp_tup g30
    have hc := same_tup sm hc0
    have g2 := dp_same sm _ _ g20
    have g3 := dp_same sm _ _ g30
    have hta := same_tup sm hta0
    have hwl : ws.length = h.2.2.length := by rw [dpAll_len hws, List.length_map]
    have hno : valV kvs (Sum.inr h.1) = none := val_names (hs := hs) (by omega) (fun j h' e a b => by
      obtain ⟨t, z, x, vs, e1, _⟩ := hat j h' e a b
      rw [e1]) (by rw [hkl]; exact take_fresh (·.1) ok.nd hh1)
    refine ⟨_, rfl, _, _, _, _, _, rfl, .ty "tuple", dp_ty hxd, kit_tup K hxd, _, rfl, iteF ⟨_, rfl, c, _, rfl, .inr hc, rfl, _, rfl, iteNS rfl ?_⟩⟩
    refine ⟨_, rfl, c, _, rfl, hc, rfl, _, _, rfl, _, _, rfl, _, _, rfl, rfl, ?_⟩
    refine ⟨_, rfl, _, _, _, _, _, rfl, .ty "str", dp_ty (.str h.1), kit_str K (H := H) (.str h.1), _, rfl, iteF ⟨_, rfl, _, rfl, sc, _, rfl, DGet.k (k := Sum.inr h.1) hsc, _, rfl, ?_⟩⟩
    rw [hno]
    refine iteF ⟨_, rfl, h.1, rfl, small_le (by omega), _, _, rfl, rfl, _, rfl, ?_⟩
    rw [decide_eq_false (show ¬ (8 : Int) < (h.1.length : Int) by omega)]
    refine iteF ⟨_, rfl, _, _, _, _, _, rfl, .ty "tuple", dp_ty g3, kit_tup K g3, _, rfl, iteF ?_⟩
    refine ⟨_, rfl, ⟨_, rfl⟩, _, rfl, rfl, trivial, _, rfl, ?_⟩
    rw [p2]
    refine iteF ⟨_, rfl, ⟨_, rfl⟩, _, rfl, rfl, trivial, _, rfl, ?_⟩
    rw [p3]
    refine iteF ⟨_, rfl, ⟨_, rfl⟩, _, rfl, rfl, trivial, _, rfl, ?_⟩
    rw [p4]
    refine iteF ⟨_, rfl, ta, _, rfl, .inr hta, _, _, rfl, rfl, _, rfl, ?_⟩
    rw [decide_eq_true (show (1 : Int) ≤ (ws.length : Int) by omega)]
    refine iteT ⟨_, _, rfl, rfl, _, rfl, ?_⟩
    rw [decide_eq_true (show (ws.length : Int) ≤ 32 by omega)]
    -- the sizes
    have hcA3 := sm _ _ hcA
    refine iteF ⟨_, rfl, .inr (.inr (.inl ⟨rfl, .inl ⟨_, hcA3⟩⟩)), cA, _, rfl, rfl, hcA3, fun z nz => ?_⟩
    have s4 : Same H3 (upd H3 z (.dK (bs.map boxK))) := same_new nz
    have ezs : z ≠ sc := fun e => by
      rw [e, hsc] at nz
      cases nz
    have hz4 : (upd H3 z (.dK (bs.map boxK))) z = some (.dK (bs.map boxK)) := upd_same
    refine ⟨_, rfl, _, rfl, v2, h.2.1, 24, 8, z, _, rfl, dp_same s4 _ _ g2, hz4, ?_, own.len, fun b hb => ?_, own.nd, _, rfl, iteF ?_⟩
    · have := own.len
      rw [List.length_map]
      omega
    · obtain ⟨q1, q2, q3, q4⟩ := own.nm b hb
      exact ⟨q1, q2, q3, val_bs q4⟩
    have nzH : H z = none := same_none sm nz
    have e5 : upd (upd H3 z (.dK (bs.map boxK))) z (.dK (bs.map boxK ++ h.2.1.map boxK)) = upd H3 z (.dK ((bs ++ h.2.1).map boxK)) := by
      funext b
      by_cases e : b = z
      · rw [e, upd_same, upd_same, List.map_append]
      · rw [upd_ne e, upd_ne e, upd_ne e]
    rw [e5]
    have s5 : Same H3 (upd H3 z (.dK ((bs ++ h.2.1).map boxK))) := same_new nz
    have hz5 : (upd H3 z (.dK ((bs ++ h.2.1).map boxK))) z = some (.dK ((bs ++ h.2.1).map boxK)) := upd_same
    generalize upd H3 z (.dK ((bs ++ h.2.1).map boxK)) = H5 at s5 hz5 ⊢
    clear e5 s4 hz4
    -- the texts
    intro x nx
    have exs : x ≠ sc := fun e => by
      rw [e, s5 _ _ hsc] at nx
      cases nx
    have exz : x ≠ z := fun e => by
      rw [e, hz5] at nx
      cases nx
    have nxH : H x = none := same_none (sm.trans s5) nx
    have hta5 := same_tup s5 hta
    obtain ⟨us, hul, hut, hud⟩ := txts_of hws
    have s6 : Same H5 (upd H5 x (.dK [])) := same_new nx
    refine ⟨_, rfl, ta, rfl, ⟨_, same_tup s6 hta5⟩, for_tup (xs := ws)
      (fun j σ H6 => ∃ w9 w10 w11, σ = [some (.ref cA), some (.ref a), some (.ref sc), some (.ref c), some (.str h.1), some v2, some (.ref ta), some (.ref z), some (.ref x), w9, w10, w11] ∧ H6 = upd H5 x (.dK (((h.2.2.zip us).take j).map txtK)))
      ⟨y9, y10, y11, rfl, rfl⟩ (fun j σ H6 _ hQ => ?_) (fun j y σ H6 hy hQ => ?_) (fun σ H6 hQ => ?_)⟩
    · obtain ⟨_, _, _, _, rfl⟩ := hQ
      exact same_tup (same_new nx) hta5
    · obtain ⟨w9, w10, w11, rfl, rfl⟩ := hQ
      have hj : j < h.2.2.length := by
        have := (List.getElem?_eq_some_iff.mp hy).1
        omega
      obtain ⟨ca, r, hr1, rfl, hca00, hr00⟩ := hut j h.2.2[j] y (List.getElem?_eq_getElem hj) hy
      have hca0 := same_tup (sm.trans s5) hca00
      have hr0 := dp_same (sm.trans s5) _ _ hr00
      clear hca00 hr00
      have et : h.2.2[j]? = some h.2.2[j] := List.getElem?_eq_getElem hj
      generalize h.2.2[j] = t at et hca0 hr0
      have mt2 := List.mem_of_getElem? et
      obtain ⟨k1, k2, k3⟩ := tnm t mt2
      obtain ⟨n1, n2, n3, n4⟩ := name_parts k1
      have sx : Same H5 (upd H5 x (.dK (((h.2.2.zip us).take j).map txtK))) := same_new nx
      have hca := same_tup sx hca0
      have hrd := dp_same sx _ _ hr0
      have hx6 : (upd H5 x (.dK (((h.2.2.zip us).take j).map txtK))) x = some (.dK (((h.2.2.zip us).take j).map txtK)) := upd_same
      have hno2 : valV (((h.2.2.zip us).take j).map txtK) (Sum.inr t.1) = none := val_txts (take_fresh (·.1) tnd et)
      have htd : Dp K (upd H5 x (.dK (((h.2.2.zip us).take j).map txtK))) (.ref ca) (textD t) := .tup hca (.cons (.str _) (.cons hrd .nil))
      obtain ⟨ra, rws, rfl, hra, hrr⟩ := dp_tup hrd
      have hrl : rws.length = t.2.length := by rw [dpAll_len hrr, List.length_map]
      refine ⟨_, rfl, _, _, _, _, _, rfl, .ty "tuple", dp_ty htd, kit_tup K htd, _, rfl, iteF ⟨_, rfl, ca, _, rfl, .inr hca, rfl, _, rfl, iteNS rfl ?_⟩⟩
      refine ⟨_, rfl, ca, _, rfl, hca, rfl, _, _, rfl, _, _, rfl, rfl, ?_⟩
      refine ⟨_, rfl, _, _, _, _, _, rfl, .ty "str", dp_ty (.str t.1), kit_str K (H := H) (.str t.1), _, rfl, iteF ⟨_, rfl, _, rfl, x, _, rfl, DGet.k (k := Sum.inr t.1) hx6, _, rfl, ?_⟩⟩
      rw [hno2]
      refine iteF ⟨_, rfl, t.1, rfl, small_le (by omega), _, _, rfl, rfl, _, rfl, ?_⟩
      rw [decide_eq_false (show ¬ (8 : Int) < (t.1.length : Int) by omega)]
      refine iteF ⟨_, rfl, ⟨_, rfl⟩, _, rfl, rfl, trivial, _, rfl, ?_⟩
      rw [n2]
      refine iteF ⟨_, rfl, ⟨_, rfl⟩, _, rfl, rfl, trivial, _, rfl, ?_⟩
      rw [n3]
      refine iteF ⟨_, rfl, ⟨_, rfl⟩, _, rfl, rfl, trivial, _, rfl, ?_⟩
      rw [n4]
      refine iteF ⟨_, rfl, _, _, _, _, _, rfl, .ty "tuple", dp_ty hrd, kit_tup K hrd, _, rfl, iteF ?_⟩
      refine ⟨_, rfl, ra, _, rfl, .inr hra, _, _, rfl, rfl, _, rfl, ?_⟩
      rw [decide_eq_true (show (1 : Int) ≤ (rws.length : Int) by omega)]
      refine iteT ⟨_, _, rfl, rfl, _, rfl, ?_⟩
      rw [decide_eq_true (show (rws.length : Int) ≤ 2000 by omega)]
      refine iteF ⟨_, rfl, _, rfl, _, rfl, x, _, rfl, DPut.k (k := Sum.inr t.1) hx6 ?_, ?_⟩
      · rw [List.length_map, List.length_take]
        exact small_lt (by omega)
      · refine ⟨_, _, _, rfl, ?_⟩
        have ez : (h.2.2.zip us)[j]? = some (t, .ref ra) := by
          rw [List.getElem?_zip_eq_some]
          exact ⟨et, hr1⟩
        have e1 : ((h.2.2.zip us).take (j + 1)).map txtK = ((h.2.2.zip us).take j).map txtK ++ [txtK (t, .ref ra)] := by
          rw [List.take_succ, ez, List.map_append]
          rfl
        rw [putK_new _ hno2, e1]
        funext b
        by_cases e : b = x
        · rw [e, upd_same, upd_same]
          rfl
        · rw [upd_ne e, upd_ne e, upd_ne e]
    · obtain ⟨w9, w10, w11, rfl, rfl⟩ := hQ
      have ez : (h.2.2.zip us).take ws.length = h.2.2.zip us := List.take_of_length_le (by rw [List.length_zip]; omega)
      rw [ez]
      have s7 : Same H5 (upd H5 x (.dK ((h.2.2.zip us).map txtK))) := same_new nx
      have hx7 : (upd H5 x (.dK ((h.2.2.zip us).map txtK))) x = some (.dK ((h.2.2.zip us).map txtK)) := upd_same
      have hz7 := s7 _ _ hz5
      have hsc7 := s7 _ _ (s5 _ _ hsc)
      have s37 := s5.trans s7
      generalize upd H5 x (.dK ((h.2.2.zip us).map txtK)) = H7 at s7 hx7 hz7 hsc7 s37 ⊢
      refine ⟨_, rfl, _, rfl, by show 2 ≤ sizeLine; decide, fun t nt => ?_⟩
      have s8 : Same H7 (upd H7 t (.tup [.ref z, .ref x])) := same_new nt
      have ht8 : (upd H7 t (.tup [.ref z, .ref x])) t = some (.tup [.ref z, .ref x]) := upd_same
      have hsc8 := s8 _ _ hsc7
      have hx8 := s8 _ _ hx7
      have hz8 := s8 _ _ hz7
      have s38 := s37.trans s8
      generalize upd H7 t (.tup [.ref z, .ref x]) = H8 at s8 ht8 hsc8 hx8 hz8 s38 ⊢
      refine ⟨_, rfl, _, rfl, sc, _, rfl, DPut.k (k := Sum.inr h.1) hsc8 (small_lt (by omega)), ?_⟩
      rw [putK_new _ hno]
      refine ⟨_, _, _, _, _, _, _, _, _, kvs ++ [(Sum.inr h.1, .ref t)], rfl, same_put (sm.trans s38) nsc, upd_same, by rw [List.length_append, hkl]; rfl, fun j h' e a b => ?_⟩
      have up : ∀ (b : Addr) (o : HO), b ≠ sc → H8 b = some o → (upd H8 sc (.dK (kvs ++ [(Sum.inr h.1, .ref t)]))) b = some o := fun b o nb q => by
        rw [upd_ne nb]
        exact q
      by_cases ej : j = i
      · subst ej
        rw [hh1] at a
        cases a
        rw [List.getElem?_append_right (by omega)] at b
        have b2 : e = (Sum.inr h.1, .ref t) := by
          rw [hkl, Nat.sub_self] at b
          simpa using b.symm
        subst b2
        refine ⟨t, z, x, us, rfl, up _ _ (fun q => by rw [q, hsc8] at ht8; cases ht8) ht8, up _ _ ezs hz8, up _ _ exs hx8, ezs, exs, nxH, hud⟩
      · have hj : j < kvs.length := by
          have := (List.getElem?_eq_some_iff.mp b).1
          rw [List.length_append] at this
          simp at this
          omega
        rw [List.getElem?_append_left hj] at b
        exact (hat j h' e a b).keep (fun b o nb q => up b o nb (s38 _ _ q)) fun xs z => by rw [hsc] at z; cases z
  · obtain ⟨_, _, _, _, _, _, _, _, _, kvs, rfl, sm, hsc, hkl, hat⟩ := hP
    exact ⟨_, rfl, q H3 sc sm nsc ⟨kvs, hsc, by omega, hat⟩⟩
end
end PP

set_option maxHeartbeats 4000000
namespace PP
open PySem PySem.Spec PyProof.Rows L2 G3 M0 PA
abbrev nAll : List Str := ["scopes", "name", "sizes", "texts", "rows"]
abbrev nLook : List Str := ["thing", "boxes", "hands", "common", "scopes"]
theorem scAll : FnScope nAll ["scopes"] (defScope s_are_all_rows) := ⟨rfl, rfl, rfl, by decide +kernel, rfl, by decide +kernel, by decide +kernel⟩
theorem scLook : FnScope nLook ["thing"] (defScope s_look_at_program) := ⟨rfl, rfl, rfl, by decide +kernel, rfl, by decide +kernel, by decide +kernel⟩
/-- locked, gone on, let go -/
theorem unlock_same {G H' : Hp} {d : Addr} {u : HO} {od : Obj} (h : G d = some u) (s : Same (upd G d (.frz od u)) H') : Same G (upd H' d u) := fun b o e => by
  by_cases z : b = d
  · rw [z, h] at e
    rw [z, upd_same]
    exact e
  · rw [upd_ne z]
    exact s b o (by rw [upd_ne z]; exact e)
theorem size_val {bs : List Box} {o : Str} {m : Int} (h : size? bs o = some m) : valV (bs.map boxK) (Sum.inr o) = some (.int m) := by
  unfold size? at h
  unfold valV
  obtain ⟨b, hb, rfl⟩ := Option.map_eq_some_iff.mp h
  rw [List.find?_map]
  have e : bs.find? ((fun kv : Key × V => decide (kv.1 = Sum.inr o)) ∘ boxK) = bs.find? fun x => decide (x.1 = o) := by
    congr 1
    funext x
    show decide ((Sum.inr x.1 : Key) = Sum.inr o) = decide (x.1 = o)
    rw [decide_eq_decide]
    exact ⟨fun z => Sum.inr.inj z, fun z => congrArg _ z⟩
  rw [e, hb]
  rfl
theorem txt_val {ts : List Text} {us : List V} (hl : us.length = ts.length) : ∀ z ∈ ts.map (·.1), (valV ((ts.zip us).map txtK) (Sum.inr z)).isSome = true := by
  intro z hz
  obtain ⟨t, ht, rfl⟩ := List.mem_map.mp hz
  obtain ⟨i, hi, e⟩ := List.getElem_of_mem ht
  rw [← valV_any, List.any_eq_true]
  refine ⟨txtK (t, us[i]'(by omega)), List.mem_map.mpr ⟨(t, us[i]'(by omega)), ?_, rfl⟩, decide_eq_true rfl⟩
  refine List.mem_of_getElem? (i := i) ?_
  rw [List.getElem?_zip_eq_some]
  exact ⟨by rw [List.getElem?_eq_getElem hi, e], List.getElem?_eq_getElem _⟩
theorem name_val {kvs : List (Key × V)} {hs : List Hand} (hl : kvs.length = hs.length) (hk : ∀ (i : Nat) (h : Hand) (e : Key × V), hs[i]? = some h → kvs[i]? = some e → e.1 = Sum.inr h.1) : ∀ z ∈ hs.map (·.1), (valV kvs (Sum.inr z)).isSome = true := by
  intro z hz
  obtain ⟨h, hh, rfl⟩ := List.mem_map.mp hz
  obtain ⟨i, hi, e⟩ := List.getElem_of_mem hh
  rw [← valV_any, List.any_eq_true]
  have hi2 : i < kvs.length := by omega
  have e2 := hk i h kvs[i] (by rw [List.getElem?_eq_getElem hi, e]) (List.getElem?_eq_getElem hi2)
  exact ⟨kvs[i], List.getElem_mem hi2, decide_eq_true e2⟩
section
variable {P : Program} {w : World} {K : PySem.W.Frag} {mg : Str → Option Value} {base : Heap}
def spAll (K : PySem.W.Frag) : Sp := fun vs H Q _ => ∃ (sc : Addr) (H0 : Hp) (bs : List Box) (hs : List Hand), vs = [.ref sc] ∧ Same H0 H ∧ H0 sc = none ∧ ScopesAt K H0 H sc bs hs ∧
  (∀ h ∈ hs, TextsOk (bs ++ h.2.1) ((hs.map (·.1)).filter fun z => decide (z ≠ h.1)) h.2.2) ∧ ∀ H', Same H H' → Q (.bl true) H'
set_option maxHeartbeats 8000000 in
theorem ok_all {f : Addr} {fd : FuncData} {k : Nat} (F : Fun K "are_all_rows" "are_all_rows" s_are_all_rows f fd) (DR : Def P w K mg base CX0 (k + 1) "are_rows" ["rows", "end", "sizes", "texts", "hands", "name"] (spRows K)) (ml : mg "len" = none) (mk : mg "KeyError" = none) : FnOk P w K mg base CX0 (k + 1 + 1) f fd ["scopes"] (spAll K) := by
  refine F.ok scAll (fun vs H Q E h => ?_) (fun cdv A outer s H vs Q E hr h => ?_)
  · obtain ⟨sc, H0, bs, hs, rfl, _⟩ := h
    rfl
  obtain ⟨sc, H0, bs, hs, rfl, s0, nsc, ⟨kvs, hsc, hkl, hat⟩, htx, q⟩ := h
  have nd := scAll.nd
  refine ⟨_, pss_cons (ps_try_only (c := .type "KeyError") (tb := fun _ => tLock (tFor (iItems (tVar 0)) (gTup K 2 (gCons (gName 1) (gCons (gTup K 2 (gCons (gName 2) (gCons (gName 3) gNil))) gNil)))
        (tLock (tFor (iVals (tVar 3)) (gName 4) (tIfS (tNot (tB (tCall (spRows K) [] E0 (tCons (tVar 4) (tCons (tCB (fun xs H Q => ∃ p ys, xs = [.ref p] ∧ (SqL K H p ys ∨ SqT K H p ys) ∧ Q (.int ys.length) H) (tCons (tVar 4) tNil)) (tCons (tVar 2) (tCons (tVar 3) (tCons (tVar 0) (tCons (tVar 1) tNil))))))))) (fun _ _ _ => False) tNext))))) (ts := fun _ _ _ => fun _ _ _ => False)
      rfl rfl ⟨by rfl, by decide, .inr ⟨mk, by decide +kernel, by decide⟩⟩ takes0
      (fun W pn xe tk po => pss_one (ps_lock (ps_for po rfl (pi_items (pv 0)) (pg_tup rfl (pgs_cons (pg_name (i := 1) nd rfl (.inl rfl)) (pgs_cons (pg_tup rfl (pgs_cons (pg_name (i := 2) nd rfl (.inl rfl)) (pgs_cons (pg_name (i := 3) nd rfl (.inl rfl)) pgs_nil))) pgs_nil)))
        (pss_one (ps_lock (ps_for po rfl (pi_values (pv 3)) (pg_name (i := 4) nd rfl (.inl rfl))
          (pss_one (ps_if (pt_not (pt_val (pe_call DR.ok hr (by rfl) DR.g DR.kp DR.b .nil pass0 (pa_cons (pv 4) (pa_cons (pe_callB call_len_seq (by rfl) ml PySem.boot_len (pa_cons (pv 4) pa_nil)) (pa_cons (pv 2) (pa_cons (pv 3) (pa_cons (pv 0) (pa_cons (pv 1) pa_nil))))))))) (pss_one ps_dead) pss_nil))))))))
      (fun a oe cls d pn _ _ => pss_one ps_dead))
    (pss_one (ps_ret pe_bl)), ?_⟩
  refine ⟨sc, .dK kvs, hsc, trivial, fun od => ⟨_, rfl, sc, od, kvs, rfl, upd_same, ?_⟩⟩
  have kn : ∀ (i : Nat) (h : Hand) (e : Key × V), hs[i]? = some h → kvs[i]? = some e → e.1 = Sum.inr h.1 := fun i h e a b => by
    obtain ⟨_, _, _, _, rfl, _⟩ := hat i h e a b
    rfl
  refine for_it walk_items (fun i σ H3 => ∃ a1 a2 a3 a4, σ = [some (.ref sc), a1, a2, a3, a4] ∧ Same (upd H sc (.frz od (.dK kvs))) H3) ⟨_, _, _, _, rfl, fun _ _ z => z⟩ (fun i σ H3 _ p => ?_) (fun i y σ H3 H4 hi p hy => ?_) (fun σ H3 p => ?_)
  · obtain ⟨_, _, _, _, _, sm⟩ := p
    exact sm _ _ upd_same
  · obtain ⟨a1, a2, a3, a4, rfl, sm⟩ := p
    obtain ⟨T, k1, k2, rfl, nT, rfl, hk1, hk2⟩ := hy
    have hhi : i < hs.length := by omega
    have e1 : hs[i]? = some hs[i] := List.getElem?_eq_getElem hhi
    have e2 : kvs[i]? = some kvs[i] := List.getElem?_eq_getElem hi
    have hA := hat i _ _ e1 e2
    have hm : hs[i] ∈ hs := List.getElem_mem hhi
    simp only [e2, Option.map_some] at hk1 hk2
    generalize kvs[i] = en at hA hk1 hk2
    generalize hs[i] = h at hA hm
    obtain ⟨t, z, x, vs, rfl, ht, hz, hx, n1, n2, nx0, hvs⟩ := hA
    cases hk1
    cases hk2
    have keep : ∀ b o, b ≠ sc → H b = some o → H3 b = some o := fun b o nb e => sm b o (by rw [upd_ne nb]; exact e)
    have nt : t ≠ sc := fun e => by
      rw [e, hsc] at ht
      cases ht
    have ht3 := keep _ _ nt ht
    have hz3 := keep _ _ n1 hz
    have hx3 := keep _ _ n2 hx
    have hsc3 := sm _ _ upd_same
    have sT : Same H3 (upd H3 T (.tup [.str h.1, .ref t])) := same_new nT
    have ht4 := sT _ _ ht3
    have hz4 := sT _ _ hz3
    have hx4 := sT _ _ hx3
    have hsc4 := sT _ _ hsc3
    have hT4 : (upd H3 T (.tup [.str h.1, .ref t])) T = some (.tup [.str h.1, .ref t]) := upd_same
    have sm4 := sm.trans sT
    show gTup K 2 _ _ _ (upd H3 T (.tup [.str h.1, .ref t])) _
    generalize upd H3 T (.tup [.str h.1, .ref t]) = G at sT ht4 hz4 hx4 hsc4 hT4 sm4 ⊢
    refine ⟨T, _, rfl, .inl (.inl hT4), rfl, _, _, rfl, _, _, rfl, t, _, rfl, .inl (.inl ht4), rfl, _, _, rfl, _, _, rfl, rfl, rfl, ?_⟩
    refine ⟨x, _, hx4, trivial, fun od2 => ⟨_, rfl, x, od2, _, rfl, upd_same, ?_⟩⟩
    refine for_it walk_values (fun j σ H5 => ∃ a4, σ = [some (.ref sc), some (.str h.1), some (.ref z), some (.ref x), a4] ∧ Same (upd G x (.frz od2 (.dK ((h.2.2.zip vs).map txtK)))) H5) ⟨_, rfl, fun _ _ z => z⟩ (fun j σ H5 _ p => ?_) (fun j y σ H5 H6 hj p hy => ?_) (fun σ H5 p => ?_)
    · obtain ⟨_, _, s5⟩ := p
      exact s5 _ _ upd_same
    · obtain ⟨w4, rfl, s5⟩ := p
      obtain ⟨rfl, ky, hky⟩ := hy
      have hvl : vs.length = h.2.2.length := by rw [dpAll_len hvs, List.length_map]
      rw [List.length_map, List.length_zip] at hj
      have hj1 : j < h.2.2.length := by omega
      have hj2 : j < vs.length := by omega
      have ey : y = vs[j] := by
        rw [List.getElem?_map, List.getElem?_eq_getElem (by rw [List.length_zip]; omega), List.getElem_zip] at hky
        cases hky
        rfl
      have hd0 : Dp K H0 vs[j] (rowsD h.2.2[j].2) := by
        obtain ⟨d, a, b⟩ := dpAll_get hvs (List.getElem?_eq_getElem hj2)
        rw [List.getElem?_map, List.getElem?_eq_getElem hj1] at a
        cases a
        exact b
      have hmt : h.2.2[j] ∈ h.2.2 := List.getElem_mem hj1
      rw [← ey] at hd0
      generalize h.2.2[j] = te at hd0 hmt
      have s05 : Same H0 H6 := fun b o e => by
        have nb1 : b ≠ sc := fun q => by
          rw [q, nsc] at e
          cases e
        have nb2 : b ≠ x := fun q => by
          rw [q, nx0] at e
          cases e
        refine s5 b o ?_
        rw [upd_ne nb2]
        refine sm4 b o ?_
        rw [upd_ne nb1]
        exact s0 b o e
      have hd5 := dp_same s05 _ _ hd0
      obtain ⟨ra, rws, rfl, hra, hrr⟩ := dp_tup hd5
      have hrl : rws.length = te.2.length := by rw [dpAll_len hrr, List.length_map]
      have rz : Rd H6 z (.dK ((bs ++ h.2.1).map boxK)) := by
        by_cases e : z = x
        · have e2 := hz4
          rw [e, hx4] at e2
          have e3 : HO.dK ((h.2.2.zip vs).map txtK) = HO.dK ((bs ++ h.2.1).map boxK) := Option.some.inj e2
          rw [← e3, e]
          exact .inr ⟨_, s5 _ _ upd_same⟩
        · exact .inl (s5 _ _ (by rw [upd_ne e]; exact hz4))
      have rsc : Rd H6 sc (.dK kvs) := .inr ⟨_, s5 _ _ (by rw [upd_ne (Ne.symm n2)]; exact hsc4)⟩
      refine ⟨_, rfl, _, rfl, ra, rws, rfl, .inr hra, _, rfl, _, rfl, _, rfl, _, rfl, .ref ra, te.2, _, z, x, sc, h.1, bs ++ h.2.1, h.2.2.map (·.1), (hs.map (·.1)).filter fun z => decide (z ≠ h.1), rfl, hd5, ⟨_, rz, fun o m => size_val⟩, ⟨_, .inr ⟨_, s5 _ _ upd_same⟩, txt_val hvl⟩, ⟨_, rsc, fun u hu => name_val hkl kn u (List.mem_filter.mp hu).1⟩, ?_, ?_, fun H7 s7 => ⟨_, rfl, iteF ?_⟩⟩
      · intro hu
        exact of_decide_eq_true (List.mem_filter.mp hu).2 rfl
      · intro r hr2
        rw [hrl]
        exact (htx h hm).row te hmt r hr2
      · exact ⟨_, rfl, s5.trans s7⟩
    · obtain ⟨w4, rfl, s5⟩ := p
      exact ⟨s5 _ _ upd_same, _, _, _, _, rfl, sm4.trans (unlock_same hx4 s5)⟩
  · obtain ⟨_, _, _, _, rfl, sm⟩ := p
    exact ⟨sm _ _ upd_same, q _ (unlock_same hsc sm)⟩
end
end PP

set_option maxHeartbeats 4000000
/-! tuple * 0, tuple * 1 -/
namespace TM
open PySem PySem.Spec PyProof.Rows L2
theorem mul_one (l : Addr) (its : Array Value) (n : Nat) (dd : Option Addr) (sl : Array (Option Value)) (u : Tok) :
    Meets (Builtin.«tuple.__mul__» ⟨[.ref l, .int 1 u], []⟩) (fun _ R s => s.heap.get? l = some { cls := .type "tuple", dict := dd, data := .seq its n, slots := sl } ∧ R (.ok (.ret (Value.ref l))) s) :=
  .of_wp fun prog w A R s h => by
    obtain ⟨hp, g, d, tk, os⟩ := s
    obtain ⟨hl, h⟩ := h
    have f1 := AutoSeq1.idx_int
    wp_walk using wpAny_loadPart' hl
    exact ⟨_, rfl, h⟩
theorem mul_nought (l : Addr) (its : Array Value) (n : Nat) (dd : Option Addr) (sl : Array (Option Value)) (u : Tok) (c1 : (its.isEmpty || (0 : Int) == 1) = false) :
    Meets (Builtin.«tuple.__mul__» ⟨[.ref l, .int 0 u], []⟩) (fun _ R s => s.heap.get? l = some { cls := .type "tuple", dict := dd, data := .seq its n, slots := sl } ∧
      R (.ok (.ret (Value.ref s.heap.objs.size))) { s with heap := s.heap.push { cls := Value.type "tuple", data := Data.seq #[] }, toks := s.toks }) :=
  .of_wp fun prog w A R s h => by
    obtain ⟨hp, g, d, tk, os⟩ := s
    obtain ⟨hl, h⟩ := h
    have f1 := AutoSeq1.idx_int
    wp_walk using wpAny_loadPart' hl
    repeat (first
      | (refine wpAny_ite_false (decide_eq_false (by rw [c1]; exact Bool.false_ne_true)) ?_; wp_walk using wpAny_loadPart' hl))
    exact ⟨_, rfl, h⟩
def rRep01 (K : PySem.W.Frag) : R2 := fun x y H Q => ∃ l k xs, x = .ref l ∧ y = .int k ∧ SqT K H l xs ∧ xs ≠ [] ∧ ((k = 1 ∧ Q (.ref l) H) ∨ (k = 0 ∧ ∀ p, H p = none → Q (.ref p) (upd H p (.tup []))))
section
variable {X : Cx}
theorem op_rep01 : OpR X (binaryOp .Mult) (rRep01 X.K) := by
  intro pins s σ H x y v u Q I rx ry h
  obtain ⟨l, k, xs, rfl, rfl, hT, hne, h⟩ := h
  cases rx
  obtain ⟨t, rfl⟩ := ry
  obtain ⟨its, r, ⟨⟨cls, dd, data, sl⟩, ho, hc, n, hd⟩, hs⟩ := I.tuple hT
  simp only at hc hd
  subst hc hd
  have hle : its.length = xs.length := r.length.symm
  have hi : its.toArray.isEmpty = false := by
    cases its with
    | nil => exact absurd (List.eq_nil_of_length_eq_zero hle.symm) hne
    | cons a b => rfl
  refine wpAny_binaryOp_repeat_ref (T := "tuple") (U := "int") (by decide) ⟨_, ho, rfl⟩ (fun s' => typeIs_int s' k t) noFill_tuple_mul F.fills_int_mul F.slot_int_rmul repeat_tuple F.slot_int_index.lookup
    (call_meets F.slot_int_rmul (typeIs_int s k t) F.entry_int_rmul (F.args_int_rmul_2 _ _) (int_rmul_tuple k t l its.toArray n dd sl) ⟨ho, rfl, ⟨_, ho, rfl⟩, ?_⟩)
  rcases h with ⟨rfl, q⟩ | ⟨rfl, q⟩
  · exact call_meets F.slot_tuple_mul ⟨_, ho, rfl⟩ F.entry_tuple_mul (F.args_tuple_mul_2 _ _) (mul_one l its.toArray n dd sl t) ⟨ho, .ref l, H, I, rfl, q⟩
  · refine call_meets F.slot_tuple_mul ⟨_, ho, rfl⟩ F.entry_tuple_mul (F.args_tuple_mul_2 _ _) (mul_nought l its.toArray n dd sl t (by rw [hi]; rfl)) ⟨ho, ?_⟩
    exact ⟨.ref s.heap.objs.size, _, I.laid (t' := s.toks) (o := .tup []) (fun b ob q => Heap.get?_push_of_some _ q) (Nat.le_refl _) ⟨Nat.zero_le _, [], .nil, IsTup.new _ _⟩, rfl, q _ (I.hok.fresh (Nat.le_refl _))⟩
end
end TM

set_option maxHeartbeats 4000000
/-! errors without fields, calls with keywords that may raise, isinstance of an error that is kept, tuple times int -/
namespace QA
open PySem PySem.Spec PyProof.Rows L2 G3 G5 E2 E3 E4 E5 E7 E8 E9 EB EC EE
section
variable {X : Cx}
/-- an error's own dict, where there is one -/
def DictOf (H : Hp) (d : Option Addr) : Prop := d = none ∨ ∃ (dd : Addr) (fs : List (Str × V)), d = some dd ∧ H dd = some (.xd fs)
theorem pmk_new0 {nm : Str} {p pos : Pos} (S : Err X.prog X.w X.K X.mg X.base nm []) (hr : Room 2 X.A) (hg : Gl X nm) (hdb : (nm == ("__debug__" : Str)) = false := by decide) :
    PMk X (.Call (.Name nm p) [] [] pos) (fun _ H Q => ∀ (d : Option Addr) H', Same H H' → DictOf H' d → Q (.ref S.C) d H') := by
  intro pins s σ H Q I hyp
  refine wpAny_Call_Name_kw (ld_glob I hg S.g ?_ hdb)
  refine PySem.W.callWith_K0 I.kIn S.T.kC (EA.run_mk (us := []) (vs := []) S.T S.ok hr S.kb I .nil (by decide) fun a na => ⟨a, [], rfl, rfl, upd_same, fun H2 gr en => ⟨rfl, ?_⟩⟩)
  rcases en with ⟨_, ea⟩ | ⟨dx, ea, ed, nd⟩
  · refine .inr ⟨ea, hyp _ _ (fun b o hb => ?_) (.inl rfl)⟩
    have nba := ne_of_none hb na
    rw [del_ne nba]
    exact gr b o (by rw [upd_ne nba]; exact hb) nba
  · have ne : dx ≠ a := fun e => by
      rw [e, upd_same] at nd
      cases nd
    have nd1 : H dx = none := by
      rw [upd_ne ne] at nd
      exact nd
    refine .inl ⟨dx, _, ea, ed, nd1, hyp _ _ (fun b o hb => ?_) (.inr ⟨dx, _, rfl, upd_same⟩)⟩
    have nba := ne_of_none hb na
    rw [upd_ne (ne_of_none hb nd1), del_ne nba]
    exact gr b o (by rw [upd_ne nba]; exact hb) nba
theorem ps_raise0 {nm : Str} {p pos pos' : Pos} {W : WX} (hc : X.calm = true) (tk : Takes X W) (S : Err X.prog X.w X.K X.mg X.base nm []) (hr : Room 2 X.A) (hg : Gl X nm) (hdb : (nm == ("__debug__" : Str)) = false := by decide) :
    PS X (.Raise (some (.Call (.Name nm p) [] [] pos)) none pos') (fun _ σ H => ∀ (d : Option Addr) H', Same H H' → DictOf H' d → W (.ref S.C) d σ H') := ps_raise hc tk (pmk_new0 S hr hg hdb)
/-- isinstance(e, c), e an error that was caught and kept -/
def rIsKept (K : PySem.W.Frag) : List V → Hp → VK → Prop := fun xs H Q => ∃ (a C : Addr) (d : Option Addr) (c : V) (u : Value) (b : Bool), xs = [.ref a, c] ∧ H a = some (exk a (.ref C) d) ∧ DictOf H d ∧ ExcC K C ∧ ClsV c u ∧ PySem.W.kitOne K (.ref C) u = some b ∧ Q (.bl b) H
theorem call_isKept : CallR X (.builtin "isinstance") (rIsKept X.K) := by
  intro pins s σ H xs us Q I r hyp
  obtain ⟨a, C, d, c, u, b, rfl, ea, dd, T, cv, e, q⟩ := hyp
  cases r with
  | cons rx rr =>
    cases rr with
    | cons rt rr =>
      cases rr
      cases rx
      have ec := cv.eq rt
      subst ec
      have hcl : (PySem.W.clsIn X.K C).isSome = true := by
        obtain ⟨cd, hc, _⟩ := PySem.W.any_some T.hd
        rw [hc]
        rfl
      obtain ⟨oe, vs, at0, z0, dt⟩ := exk_at I.hok ea
      have fin : ∀ {od : Option Obj}, PySem.W.InstAt s.heap a oe C od → wpAny (model X.prog X.w) X.A (call (.builtin "isinstance") [.ref a, _]) (EP X pins σ Q) X.xe s := fun {od} J =>
        PySem.W.kia_one (PySem.W.kitx_exc hcl T.hg T.hk T.hs T.ha T.hn T.ht T.hm) I.kIn J e (fun z => nomatch z) fun tk => ⟨.bl b, H, I.kept (t' := tk) fun _ _ z => z, rfl, q⟩
      rcases dd with rfl | ⟨dd, fs, rfl, ed⟩
      · exact fin (od := none) ⟨at0, z0.1, by unfold PySem.W.notCls; rw [dt] <;> rfl, by rw [z0.2]; trivial⟩
      · obtain ⟨mA, nsD, rel⟩ := (show ObjOk X.prog X.w H s.heap dd (.xd fs) from I.hok dd _ ed)
        obtain ⟨od, ho, hl⟩ := lookIn_ns nsD
        exact fin (od := some od) ⟨at0, z0.1, by unfold PySem.W.notCls; rw [dt] <;> rfl, by rw [z0.2]; exact ho⟩
/-- f(e, .., k = v, ..) that may raise, wished for at the caller's slots -/
def tCallKS (sp : Sp) (gV : List V → List V → List V) (E : L2.St → XK) (t tk : TA) : TE := fun σ H Q => t σ H fun vs H1 => tk σ H1 fun zs H2 => sp (gV vs zs) H2 Q (E σ)
theorem pe_callKS {CX : CXT} {k : Nat} {f : Addr} {fd : FuncData} {ps ks : List Str} {sp : Sp} {E : L2.St → XK} {x : Str} {p pos : Pos} {e : Expr} {es : List Expr} {kws : List Keyword} {t tk : TA} {g : List Value → List Value → List Value} {gV : List V → List V → List V}
    (F : FnOk X.prog X.w X.K X.mg X.base CX k f fd ps sp) (hr : Room k X.A) (hg : Gl X x) (hm : X.mg x = some (.ref f)) (hk : PySem.W.keepIn X.K (.ref f) = true) (hb : KBinds X.K fd ps ks g gV) (hx : ∀ σ, PassesAt CX X σ (E σ))
    (ha : PA X (e :: es) t) (hkw : PK X kws tk) (hall : (backToKw pos (keywordEach kws X.env)).all (·.1.isSome) = true := by rfl) (hks : (backToKw pos (keywordEach kws X.env)).filterMap (·.1) = ks := by rfl)
    (hdb : (x == ("__debug__" : Str)) = false := by decide) (he : starEach (e :: es) X.env = (false, eval e X.env) :: starEach es X.env := by rfl)
    (hpl : ((backTo pos (starEach (e :: es) X.env)).any (·.1) || (backToKw pos (keywordEach kws X.env)).any (·.1.isNone)) = false := by rfl) :
    PE X (.Call (.Name x p) (e :: es) kws pos) (tCallKS sp gV E t tk) := by
  refine ⟨fun pins s σ H Q I h => ?_⟩
  refine wpAny_Call_Name_kw (ld_glob I hg hm ?_ hdb)
  refine PySem.W.callWith_KW (h₀ := X.base) I.ok.mod.kin hk hall (thn (ha.run pos pins s σ H _ I h) fun us s1 ⟨vs, H1, I1, r, q⟩ => ?_) hpl he
  refine thn (hkw.run pos pins s1 σ H1 _ I1 q) fun ws s2 ⟨zs, H2, I2, rz, q2⟩ => ⟨I2.kIn, ?_⟩
  rw [hks]
  have r2 := hb.rel r rz
  have hl : (g us ws).length = ps.length := by rw [← r2.length]; exact F.len _ _ _ _ q2
  refine wpAny_call (codeAny_mono (F.run X.A X.stack s2 H2 ⟨us, ks.zip ws⟩ (g us ws) (gV vs zs) Q (E σ) hr I2.env0 (hb.to s2 us ws I2.kIn hl) r2 q2) fun r s' hq => ?_)
  cases r with
  | error e => exact hx σ pins H2 s2 e s' I2 hq
  | ok fl =>
    cases fl with
    | ret u => exact I2.after hq
    | next => exact False.elim hq
    | brk => exact False.elim hq
    | cont => exact False.elim hq
/-- two promises of one def -/
theorem fn_or {P : Program} {w : World} {K : PySem.W.Frag} {mg : Str → Option Value} {base : Heap} {CX : CXT} {k : Nat} {f : Addr} {fd : FuncData} {ps : List Str} {sp sp2 : Sp} (F : FnOk P w K mg base CX k f fd ps sp) (G : FnOk P w K mg base CX k f fd ps sp2) : FnOk P w K mg base CX k f fd ps (fun vs H Q E => sp vs H Q E ∨ sp2 vs H Q E) :=
  ⟨fun vs H Q E h => h.elim (F.len vs H Q E) (G.len vs H Q E), fun A outer s H args us vs Q E hr e0 b r h => h.elim (F.run A outer s H args us vs Q E hr e0 b r) (G.run A outer s H args us vs Q E hr e0 b r)⟩
theorem op_or {f : Value → Value → Sem Value} {r1 r2 : R2} (h1 : OpR X f r1) (h2 : OpR X f r2) : OpR X f (fun x y H Q => r1 x y H Q ∨ r2 x y H Q) := by
  intro pins s σ H x y v u Q I rx ry h
  exact h.elim (h1 pins s σ H x y v u Q I rx ry) (h2 pins s σ H x y v u Q I rx ry)
theorem op_repA : OpR X (binaryOp .Mult) (fun x y H Q => TM.rRep01 X.K x y H Q ∨ rRepT X.K x y H Q) := op_or TM.op_rep01 op_repT
theorem rep_any {K : PySem.W.Frag} {G : Hp} {t : Addr} {x : V} {n : Nat} {T : VK} (h : SqT K G t [x]) (n1 : 1 ≤ n) (n2 : n ≤ 1000) (go : ∀ ot G', SqT K G' ot (List.replicate n x) → Same G G' → T (.ref ot) G') : TM.rRep01 K (.ref t) (.int n) G T ∨ rRepT K (.ref t) (.int n) G T := by
  by_cases e : n = 1
  · subst e
    exact .inl ⟨t, _, _, rfl, rfl, h, by simp, .inl ⟨rfl, go t G h (Same.refl G)⟩⟩
  · refine .inr ⟨t, n, _, rfl, rfl, h, by simp, by omega, by omega, by simp, fun p np => ?_⟩
    have e2 : (List.replicate ((n : Nat) : Int).toNat [x]).flatten = List.replicate n x := by
      rw [Int.toNat_natCast, List.flatten_replicate_singleton]
    rw [e2]
    exact go p _ (SqT.of upd_same) (same_new np)
end
section
variable {X : Cx}
theorem call_reprBl : CallR X (.builtin "repr") (fun xs H Q => ∃ b, xs = [.bl b] ∧ Q (.str (if b then "True" else "False")) H) := by
  intro pins s σ H xs us Q I rel hyp
  obtain ⟨b, rfl, fin⟩ := hyp
  obtain ⟨u, rfl, ru⟩ := vals1 rel
  cases ru
  exact PySem.P.repr_of_bool ⟨.str _, H, I.tok _, ⟨_, rfl⟩, fin⟩
end
/-! how keywords come to parameters -/
def g21 {α : Type} : List α → List α → List α
  | [a, b], [c] => [a, b, c]
  | _, _ => []
def gS2 {α : Type} : List α → List α → List α
  | [], [c, d] => [c, d]
  | _, _ => []
def gR2 {α : Type} : List α → List α → List α
  | [], [c, d] => [d, c]
  | _, _ => []
def gR3 {α : Type} : List α → List α → List α
  | [], [c, d, e] => [e, d, c]
  | _, _ => []
theorem g21_rel {vs zs : List V} {us ws : List Value} (r : Vals vs us) (rz : Vals zs ws) : Vals (g21 vs zs) (g21 us ws) := by
  match vs, us, r, zs, ws, rz with
  | _, _, .cons r1 (.cons r2 .nil), _, _, .cons r3 .nil => exact .cons r1 (.cons r2 (.cons r3 .nil))
  | _, _, .nil, _, _, _ => exact .nil
  | _, _, .cons _ .nil, _, _, _ => exact .nil
  | _, _, .cons _ (.cons _ (.cons _ _)), _, _, _ => exact .nil
  | _, _, .cons _ (.cons _ .nil), _, _, .nil => exact .nil
  | _, _, .cons _ (.cons _ .nil), _, _, .cons _ (.cons _ _) => exact .nil
theorem gS2_rel {vs zs : List V} {us ws : List Value} (r : Vals vs us) (rz : Vals zs ws) : Vals (gS2 vs zs) (gS2 us ws) := by
  match vs, us, r, zs, ws, rz with
  | _, _, .nil, _, _, .cons r1 (.cons r2 .nil) => exact .cons r1 (.cons r2 .nil)
  | _, _, .cons _ _, _, _, _ => exact .nil
  | _, _, .nil, _, _, .nil => exact .nil
  | _, _, .nil, _, _, .cons _ .nil => exact .nil
  | _, _, .nil, _, _, .cons _ (.cons _ (.cons _ _)) => exact .nil
theorem gR2_rel {vs zs : List V} {us ws : List Value} (r : Vals vs us) (rz : Vals zs ws) : Vals (gR2 vs zs) (gR2 us ws) := by
  match vs, us, r, zs, ws, rz with
  | _, _, .nil, _, _, .cons r1 (.cons r2 .nil) => exact .cons r2 (.cons r1 .nil)
  | _, _, .cons _ _, _, _, _ => exact .nil
  | _, _, .nil, _, _, .nil => exact .nil
  | _, _, .nil, _, _, .cons _ .nil => exact .nil
  | _, _, .nil, _, _, .cons _ (.cons _ (.cons _ _)) => exact .nil
theorem gR3_rel {vs zs : List V} {us ws : List Value} (r : Vals vs us) (rz : Vals zs ws) : Vals (gR3 vs zs) (gR3 us ws) := by
  match vs, us, r, zs, ws, rz with
  | _, _, .nil, _, _, .cons r1 (.cons r2 (.cons r3 .nil)) => exact .cons r3 (.cons r2 (.cons r1 .nil))
  | _, _, .cons _ _, _, _, _ => exact .nil
  | _, _, .nil, _, _, .nil => exact .nil
  | _, _, .nil, _, _, .cons _ .nil => exact .nil
  | _, _, .nil, _, _, .cons _ (.cons _ .nil) => exact .nil
  | _, _, .nil, _, _, .cons _ (.cons _ (.cons _ (.cons _ _))) => exact .nil
theorem g21_len {α : Type} {us ws : List α} (h : (g21 us ws).length = 3) : ∃ a b c, us = [a, b] ∧ ws = [c] := by
  unfold g21 at h
  split at h
  · exact ⟨_, _, _, rfl, rfl⟩
  · simp at h
theorem gS2_len {α : Type} {us ws : List α} (h : (gS2 us ws).length = 2) : ∃ c d, us = [] ∧ ws = [c, d] := by
  unfold gS2 at h
  split at h
  · exact ⟨_, _, rfl, rfl⟩
  · simp at h
theorem gR2_len {α : Type} {us ws : List α} (h : (gR2 us ws).length = 2) : ∃ c d, us = [] ∧ ws = [c, d] := by
  unfold gR2 at h
  split at h
  · exact ⟨_, _, rfl, rfl⟩
  · simp at h
theorem gR3_len {α : Type} {us ws : List α} (h : (gR3 us ws).length = 3) : ∃ c d e, us = [] ∧ ws = [c, d, e] := by
  unfold gR3 at h
  split at h
  · exact ⟨_, _, _, rfl, rfl⟩
  · simp at h
end QA

set_option maxHeartbeats 4000000
/-! truths beside whole numbers: 0 <= x < n of a truth x -/
namespace HX
open PySem PySem.Spec PyProof.Rows L2 G3 QA
theorem sub_ib : isSubtype (.type "int") (.type "bool") = pure false := by rw [isSubtype_type]; kernel_rfl
theorem sub_bi : isSubtype (.type "bool") (.type "int") = pure true := by rw [isSubtype_type]; kernel_rfl
theorem gives_lt (a : Bool) (b : Int) (u : Tok) : Gives (Builtin.«int.__lt__» ⟨[.bool a, .int b u], []⟩) (.val (Value.bool (decide ((if a = true then (1 : Int) else 0) < b)))) :=
  .of_wp fun M A E s Q h => by
    obtain ⟨hp, g, d, tk, os⟩ := s
    wp_walk
    exact ⟨_, rfl, h⟩
theorem gives_ge (a : Bool) (b : Int) (u : Tok) : Gives (Builtin.«int.__ge__» ⟨[.bool a, .int b u], []⟩) (.val (Value.bool (decide ((if a = true then (1 : Int) else 0) ≥ b)))) :=
  .of_wp fun M A E s Q h => by
    obtain ⟨hp, g, d, tk, os⟩ := s
    wp_walk
    exact ⟨_, rfl, h⟩
section
variable {X : Cx}
theorem op_ltBI : OpR X (compareOp .Lt) (fun x y H Q => ∃ (a : Bool) (j : Int), x = .bl a ∧ y = .int j ∧ Q (.bl (decide ((if a = true then (1 : Int) else 0) < j))) H) := by
  intro pins s σ H x y v u Q I rx ry h
  obtain ⟨a, j, rfl, rfl, q⟩ := h
  cases (show v = Value.bool a from rx)
  obtain ⟨t, rfl⟩ := ry
  exact SeqAt.rc_left_or (op := .Lt) (s := s) (Ta := "bool") rfl (typeIs_int s j t) (by decide) sub_ib PySem.F.slot_bool_lt (call_gives PySem.F.slot_bool_lt rfl PySem.F.entry_int_lt (PySem.F.args_int_lt_2 _ _) (gives_lt a j t) ⟨nofun, ⟨.bl _, H, I, rfl, q⟩⟩) (.inl rfl)
theorem op_leIB : OpR X (compareOp .LtE) (fun x y H Q => ∃ (i : Int) (b : Bool), x = .int i ∧ y = .bl b ∧ Q (.bl (decide (i ≤ (if b = true then (1 : Int) else 0)))) H) := by
  intro pins s σ H x y v u Q I rx ry h
  obtain ⟨i, b, rfl, rfl, q⟩ := h
  obtain ⟨t, rfl⟩ := rx
  cases (show u = Value.bool b from ry)
  exact SeqAt.rc_sub_first_or (op := .LtE) (s := s) (Tb := "bool") (typeIs_int s i t) rfl (by decide) sub_bi PySem.F.slot_bool_ge_refl (call_gives PySem.F.slot_bool_ge_refl rfl PySem.F.entry_int_ge (PySem.F.args_int_ge_2 _ _) (gives_ge b i t) ⟨nofun, ⟨.bl _, H, I, rfl, q⟩⟩) (.inl rfl)
/-- i <= x, x a whole number or a truth -/
theorem op_leA : OpR X (compareOp .LtE) (fun x y H Q => (rI0 fun i j => .bl (decide (i ≤ j))) x y H Q ∨ ∃ (i : Int) (b : Bool), x = .int i ∧ y = .bl b ∧ Q (.bl (decide (i ≤ (if b = true then (1 : Int) else 0)))) H) := op_or op_le op_leIB
theorem op_ltA : OpR X (compareOp .Lt) (fun x y H Q => (rI0 fun i j => .bl (decide (i < j))) x y H Q ∨ ∃ (a : Bool) (j : Int), x = .bl a ∧ y = .int j ∧ Q (.bl (decide ((if a = true then (1 : Int) else 0) < j))) H) := op_or op_lt op_ltBI
theorem op_isIB : OpR X (compareOp .Is) (fun x y H Q => ∃ i b, x = .int i ∧ y = .bl b ∧ Q (.bl false) H) := by
  intro pins s σ H x y v u Q I rx ry h
  obtain ⟨i, b, rfl, rfl, q⟩ := h
  obtain ⟨t, rfl⟩ := rx
  cases (show u = Value.bool b from ry)
  exact wpAny_is_other rfl (fun z => nomatch z) ⟨.bl false, H, I, rfl, q⟩
/-- x is True, x a whole number or a truth -/
theorem op_isA : OpR X (compareOp .Is) (fun x y H Q => (∃ i b, x = .int i ∧ y = .bl b ∧ Q (.bl false) H) ∨ rIsB x y H Q) := op_or op_isIB op_isBl
end
end HX

set_option maxHeartbeats 4000000
namespace PP
open PySem PySem.Spec PyProof.Rows L2 G3 M0 PA EE QA HX
/-! ### what is a program, of any data -/
abbrev Dt := PyData
/-- a box, none of a name in seen -/
def boxP (gr : Int) (seen : List Str) : Dt → Option Box
  | .tuple [.str z, .int n] => if nameB z && (!decide (z ∈ seen) && (decide (1 ≤ n) && decide (n ≤ gr))) then some (z, n) else none
  | _ => none
def scanB (gr : Int) : List Str → List Dt → Option (List Box)
  | _, [] => some []
  | seen, d :: r => match boxP gr seen d with
    | some b => (scanB gr (seen ++ [b.1]) r).map (b :: ·)
    | none => none
def boxesP (most : Nat) (gr : Int) (seen : List Str) : Dt → Option (List Box)
  | .tuple ds => if ds.length ≤ most then scanB gr seen ds else none
  | _ => none
/-- a source of a box of a size -/
def srcP (bs : List Box) (b : Str) (size : Int) : List Dt → Bool
  | [.str w] => decide (w = "any")
  | [.str w, .int n] => if w = "to" then decide (0 ≤ n) && decide (n < size) else decide (w = "on") && (decide (1 ≤ n) && decide (n ≤ 3))
  | [.str w, .str o] => decide (w = "of") && (!decide (o = b) && (match size? bs o with | some m => decide (m ≤ size) | none => false))
  | _ => false
/-- rising numbers of rows -/
def waysR (e : Int) : Int → List Dt → Bool
  | _, [] => true
  | a, .int n :: r => decide (a < n) && (decide (n ≤ e) && waysR e n r)
  | _, _ => false
def waysP (e : Int) : Dt → Bool
  | .tuple ds => decide (1 ≤ ds.length) && (decide (ds.length ≤ 4) && waysR e (-1) ds)
  | _ => false
def inSize (bs : List Box) (b : Str) (v : Int) : Bool := match size? bs b with
  | some n => decide (0 ≤ v) && decide (v < n)
  | none => false
/-- a row, by its items -/
def row3 (bs : List Box) (w b : Str) : Dt → Bool
  | .tuple ds => decide (w = "set") && (match size? bs b with | some n => srcP bs b n ds | none => false)
  | .int v => !decide (w = "set") && (decide (w = "wait") && inSize bs b v)
  | _ => false
def row2 (titles hands : List Str) (me : Str) (e : Int) (w : Str) (d : Dt) : Bool :=
  if w = "go" then waysP e d else match d with
    | .str t => if w = "call" then decide (t ∈ titles) else decide (w = "begin") && (!decide (t = me) && decide (t ∈ hands))
    | _ => false
def row4 (bs : List Box) (e : Int) (w b : Str) : Dt → Dt → Bool
  | .int v, .int y => decide (w = "if") && (inSize bs b v && (decide (0 ≤ y) && decide (y ≤ e)))
  | _, _ => false
def rowP (bs : List Box) (titles hands : List Str) (me : Str) (e : Int) : Dt → Bool
  | .tuple [.str w] => decide (w = "back") || decide (w = "fault")
  | .tuple [.str w, d] => row2 titles hands me e w d
  | .tuple [.str w, .str b, d] => row3 bs w b d
  | .tuple [.str w, .str b, d, f] => row4 bs e w b d f
  | _ => false
/-! sizes by name -/
theorem size_valA {bs : List Box} (o : Str) : valV (bs.map boxK) (Sum.inr o) = (size? bs o).map V.int := by
  unfold size? valV
  rw [List.find?_map]
  have e : bs.find? ((fun kv : Key × V => decide (kv.1 = Sum.inr o)) ∘ boxK) = bs.find? fun x => decide (x.1 = o) := by
    congr 1
    funext x
    show decide ((Sum.inr x.1 : Key) = Sum.inr o) = decide (x.1 = o)
    rw [decide_eq_decide]
    exact ⟨fun z => Sum.inr.inj z, fun z => congrArg _ z⟩
  rw [e]
  cases bs.find? (fun x => decide (x.1 = o)) <;> rfl
theorem isB_int (d : Dt) (h : isInt d = true) : (∃ n, d = .int n) ∨ ∃ b, d = .bool b := by
  cases d with
  | int n => exact .inl ⟨n, rfl⟩
  | bool b => exact .inr ⟨b, rfl⟩
  | _ => cases h
theorem isS_str (d : Dt) (h : isStr d = true) : ∃ z, d = .str z := by
  cases d with
  | str z => exact ⟨z, rfl⟩
  | _ => cases h
theorem isT_tup (d : Dt) (h : isTup d = true) : ∃ ds, d = .tuple ds := by
  cases d with
  | tuple ds => exact ⟨ds, rfl⟩
  | _ => cases h
theorem name_of {z : Str} (h1 : z.length ≤ 8) (h2 : Txt.isascii z = true) (h3 : Txt.isalpha z = true) (h4 : Txt.islower z = true) : nameB z = true := by
  unfold nameB
  rw [decide_eq_true h1, h2, h3, h4]
  rfl
theorem nameB_no {z : Str} (h : ¬ z.length ≤ 8 ∨ Txt.isascii z = false ∨ Txt.isalpha z = false ∨ Txt.islower z = false) : nameB z = false := by
  unfold nameB
  rcases h with h | h | h | h
  · rw [decide_eq_false h]; rfl
  · rw [h]; simp
  · rw [h]; simp
  · rw [h]; simp
theorem small_of {K : PySem.W.Frag} {H : Hp} {v : V} {ds : List Dt} (h : Dp K H v (.tuple ds)) : ∃ a xs, v = .ref a ∧ SqT K H a xs ∧ DpAll K H xs ds ∧ xs.length = ds.length := by
  obtain ⟨a, xs, e, h1, h2⟩ := dp_tup h
  exact ⟨a, xs, e, h1, h2, dpAll_len h2⟩
/-- texts are not long -/
inductive SL : Dt → Prop where
  | non : SL .none
  | bl (b : Bool) : SL (.bool b)
  | int (i : Int) : SL (.int i)
  | str {z : Str} (h : z.length ≤ 1000) : SL (.str z)
  | lst {ds : List Dt} (h : ∀ d ∈ ds, SL d) : SL (.list ds)
  | tup {ds : List Dt} (h : ∀ d ∈ ds, SL d) : SL (.tuple ds)
theorem SL.of_tup {ds : List Dt} (h : SL (.tuple ds)) : ∀ d ∈ ds, SL d := by
  cases h with
  | tup h => exact h
theorem SL.of_str {z : Str} (h : SL (.str z)) : z.length ≤ 1000 := by
  cases h with
  | str h => exact h
theorem len2 {α : Type} : ∀ {es : List α}, es.length = 2 → ∃ a b, es = [a, b]
  | [a, b], _ => ⟨a, b, rfl⟩
  | [], h => by simp at h
  | [_], h => by simp at h
  | _ :: _ :: _ :: _, h => by simp at h
theorem len3 {α : Type} : ∀ {es : List α}, es.length = 3 → ∃ a b c, es = [a, b, c]
  | [a, b, c], _ => ⟨a, b, c, rfl⟩
  | [], h => by simp at h
  | [_], h => by simp at h
  | [_, _], h => by simp at h
  | _ :: _ :: _ :: _ :: _, h => by simp at h
theorem len4 {α : Type} : ∀ {es : List α}, es.length = 4 → ∃ a b c d, es = [a, b, c, d]
  | [a, b, c, d], _ => ⟨a, b, c, d, rfl⟩
  | [], h => by simp at h
  | [_], h => by simp at h
  | [_, _], h => by simp at h
  | [_, _, _], h => by simp at h
  | _ :: _ :: _ :: _ :: _ :: _, h => by simp at h
theorem len1 {α : Type} : ∀ {es : List α}, es.length = 1 → ∃ a, es = [a]
  | [a], _ => ⟨a, rfl⟩
  | [], h => by simp at h
  | _ :: _ :: _, h => by simp at h
theorem ne_int {a b : Int} (h : a ≠ b) : decide (V.int a = V.int b) = false := decide_eq_false fun e => h (V.int.inj e)
theorem eq_int {a b : Int} (h : a = b) : decide (V.int a = V.int b) = true := decide_eq_true (congrArg V.int h)
theorem ne_st {x y : Str} (h : x ≠ y) : decide (V.str x = V.str y) = false := decide_eq_false fun e => h (V.str.inj e)
/-- a dict is neither a list nor a tuple -/
theorem sqT_dict {K : PySem.W.Frag} {H : Hp} {a b : Addr} {kvs : List (Key × V)} {xs : List V} (hd : H a = some (.dK kvs)) (h : SqT K H b xs) : SqT K (M0.off a H) b xs := by
  rcases h with (h | ⟨o, h⟩) | h
  · exact .inl (.inl (by rw [off_ne (ne_of h hd (by intro z; cases z))]; exact h))
  · exact .inl (.inr ⟨o, by rw [off_ne (ne_of h hd (by intro z; cases z))]; exact h⟩)
  · exact .inr h
theorem sqL_dict {K : PySem.W.Frag} {H : Hp} {a b : Addr} {kvs : List (Key × V)} {xs : List V} (hd : H a = some (.dK kvs)) (h : SqL K H b xs) : SqL K (M0.off a H) b xs := by
  rcases h with (h | ⟨o, h⟩) | h
  · exact .inl (.inl (by rw [off_ne (ne_of h hd (by intro z; cases z))]; exact h))
  · exact .inl (.inr ⟨o, by rw [off_ne (ne_of h hd (by intro z; cases z))]; exact h⟩)
  · exact .inr h
mutual
theorem dp_offD {K : PySem.W.Frag} {H : Hp} {a : Addr} {kvs : List (Key × V)} (hd : H a = some (.dK kvs)) : ∀ (d : Dt) (v : V), Dp K H v d → Dp K (M0.off a H) v d
  | .none, _, h => by cases h; exact .non
  | .bool _, _, h => by cases h; exact .bl _
  | .int _, _, h => by cases h; exact .int _
  | .str _, _, h => by cases h; exact .str _
  | .list ds, _, h => by
    cases h with
    | lst hs ha => exact .lst (sqL_dict hd hs) (dpAll_offD hd ds _ ha)
  | .tuple ds, _, h => by
    cases h with
    | tup hs ha => exact .tup (sqT_dict hd hs) (dpAll_offD hd ds _ ha)
  | .dict _, _, h => by cases h
theorem dpAll_offD {K : PySem.W.Frag} {H : Hp} {a : Addr} {kvs : List (Key × V)} (hd : H a = some (.dK kvs)) : ∀ (ds : List Dt) (vs : List V), DpAll K H vs ds → DpAll K (M0.off a H) vs ds
  | [], _, h => by cases h; exact .nil
  | d :: ds, _, h => by
    cases h with
    | cons h1 h2 => exact .cons (dp_offD hd d _ h1) (dpAll_offD hd ds _ h2)
end
theorem off_to {H : Hp} {a : Addr} {o : HO} : Same (M0.off a H) (upd H a o) := fun b x e => by
  by_cases z : b = a
  · rw [z] at e
    unfold M0.off at e
    rw [if_pos rfl] at e
    cases e
  · rw [off_ne z] at e
    rw [upd_ne z]
    exact e
theorem dp_dictA {K : PySem.W.Frag} {H : Hp} {a : Addr} {kvs kvs2 : List (Key × V)} (hd : H a = some (.dK kvs)) {d : Dt} {v : V} (h : Dp K H v d) : Dp K (upd H a (.dK kvs2)) v d := dp_same off_to _ _ (dp_offD hd _ _ h)
section
variable {X : Cx}
theorem gives_le (a : Bool) (b : Int) (u : Tok) : Gives (Builtin.«int.__le__» ⟨[.bool a, .int b u], []⟩) (.val (Value.bool (decide ((if a = true then (1 : Int) else 0) ≤ b)))) :=
  .of_wp fun M A E s Q h => by
    obtain ⟨hp, g, d, tk, os⟩ := s
    wp_walk
    exact ⟨_, rfl, h⟩
theorem op_leB : OpR X (compareOp .LtE) (fun x y H Q => ∃ (a : Bool) (j : Int), x = .bl a ∧ y = .int j ∧ Q (.bl (decide ((if a = true then (1 : Int) else 0) ≤ j))) H) := by
  intro pins s σ H x y v u Q I rx ry h
  obtain ⟨a, j, rfl, rfl, q⟩ := h
  cases (show v = Value.bool a from rx)
  obtain ⟨t, rfl⟩ := ry
  exact SeqAt.rc_left_or (op := .LtE) (s := s) (Ta := "bool") rfl (typeIs_int s j t) (by decide) HX.sub_ib PySem.F.slot_bool_le (call_gives PySem.F.slot_bool_le rfl PySem.F.entry_int_le (PySem.F.args_int_le_2 _ _) (gives_le a j t) ⟨nofun, ⟨.bl _, H, I, rfl, q⟩⟩) (.inl rfl)
/-- x <= j, x a whole number or a truth -/
theorem op_leBI : OpR X (compareOp .LtE) (fun x y H Q => (rI0 fun i j => .bl (decide (i ≤ j))) x y H Q ∨ ∃ (a : Bool) (j : Int), x = .bl a ∧ y = .int j ∧ Q (.bl (decide ((if a = true then (1 : Int) else 0) ≤ j))) H) := op_or op_le op_leB
end
end PP

set_option maxHeartbeats 4000000
namespace PP
open PySem PySem.Spec PyProof.Rows L2 G3 M0 PA EE QA
/-! ### boxes, of any data -/
theorem scan_none {gr : Int} {seen : List Str} {d : Dt} {r : List Dt} (h : boxP gr seen d = none) : scanB gr seen (d :: r) = none := by
  show (match boxP gr seen d with | some b => (scanB gr (seen ++ [b.1]) r).map (b :: ·) | none => none) = none
  rw [h]
theorem scan_some {gr : Int} {seen : List Str} {d : Dt} {r : List Dt} {b : Box} (h : boxP gr seen d = some b) : scanB gr seen (d :: r) = (scanB gr (seen ++ [b.1]) r).map (b :: ·) := by
  show (match boxP gr seen d with | some b => (scanB gr (seen ++ [b.1]) r).map (b :: ·) | none => none) = _
  rw [h]
theorem box_iff {gr : Int} {seen : List Str} {z : Str} {n : Int} : boxP gr seen (.tuple [.str z, .int n]) = if nameB z && (!decide (z ∈ seen) && (decide (1 ≤ n) && decide (n ≤ gr))) then some (z, n) else none := rfl
theorem val_seen {kvs : List (Key × V)} {seen : List Str} (h : ∀ z, (valV kvs (Sum.inr z)).isSome = decide (z ∈ seen)) (bs : List Box) (z : Str) : (valV (kvs ++ bs.map boxK) (Sum.inr z)).isSome = decide (z ∈ seen ++ bs.map (·.1)) := by
  rw [← valV_any, List.any_append, valV_any, h z]
  have e : (bs.map boxK).any (fun kv => decide (kv.1 = Sum.inr z)) = decide (z ∈ bs.map (·.1)) := by
    rw [List.any_map, Bool.eq_iff_iff, List.any_eq_true, decide_eq_true_eq, List.mem_map]
    constructor
    · rintro ⟨b, hb, e⟩
      exact ⟨b, hb, Sum.inr.inj (of_decide_eq_true e)⟩
    · rintro ⟨b, hb, rfl⟩
      exact ⟨b, hb, decide_eq_true rfl⟩
  rw [e, Bool.eq_iff_iff, Bool.or_eq_true, decide_eq_true_eq, decide_eq_true_eq, decide_eq_true_eq, List.mem_append]
section
variable {P : Program} {w : World} {K : PySem.W.Frag} {mg : Str → Option Value} {base : Heap}
def spBoxesA (K : PySem.W.Frag) : Sp := fun vs H Q _ => ∃ (v : V) (d : Dt) (most : Nat) (gr : Int) (sz : Addr) (kvs : List (Key × V)) (seen : List Str), vs = [v, .int most, .int gr, .ref sz] ∧ Dp K H v d ∧ SL d ∧ H sz = some (.dK kvs) ∧ kvs.length ≤ 1000 ∧ most ≤ 100 ∧
  (∀ z, (valV kvs (Sum.inr z)).isSome = decide (z ∈ seen)) ∧ (∀ bs, boxesP most gr seen d = some bs → Q (.bl true) (upd H sz (.dK (kvs ++ bs.map boxK)))) ∧ (boxesP most gr seen d = none → ∀ kvs', Q (.bl false) (upd H sz (.dK kvs')))
set_option maxHeartbeats 16000000 in
theorem ok_boxesA {f : Addr} {fd : FuncData} {k : Nat} {t8 : Tok} (F : Fun K "are_boxes" "are_boxes" s_are_boxes f fd) (mi : mg "isinstance" = none) (mt : mg "tuple" = none) (ms : mg "str" = none) (mn : mg "int" = none) (ml : mg "len" = none) (m8 : mg "LONGEST_NAME" = some (.int 8 t8)) :
    FnOk P w K mg base CX0 (k + 1) f fd ["thing", "most", "greatest", "sizes"] (spBoxesA K) := by
  refine F.ok scBoxes (fun vs H Q E h => ?_) (fun cdv A outer s H vs Q E hr h => ?_)
  · obtain ⟨v, d, most, gr, sz, kvs, seen, rfl, _⟩ := h
    rfl
  obtain ⟨v, d, most, gr, sz, kvs, seen, rfl, hv, sl, hz, hlen, hmost, hsn, qy, qn⟩ := h
  have nd := scBoxes.nd
  have hu := hu_of hr
  refine ⟨_, pss_cons (ps_if (PW.pt (pw_or (pt_not (pt_val (pe_callB call_isi (by rfl) mi PyProof.Rows.boot_isinstance (pa_cons (pv 0) (pa_cons (pe_bltn (by rfl) mt (u := .type "tuple") (by decide +kernel) (show RelV (.ty "tuple") (.type "tuple") from rfl)) pa_nil)))))
        (pw_or1 (pt_cmpR op_gt (pe_callB call_len_seq (by rfl) ml PySem.boot_len (pa_cons (pv 0) pa_nil)) (pv 1) (nomark _)))))
      (pss_one (ps_ret pe_bl)) pss_nil)
    (pss_cons (ps_for PassesOwn.never rfl (pi_tup (pv 0)) (pg_name (i := 4) nd rfl (.inl rfl))
      (pss_cons (ps_if (PW.pt (pw_or (pt_not (pt_val (pe_callB call_isi (by rfl) mi PyProof.Rows.boot_isinstance (pa_cons (pv 4) (pa_cons (pe_bltn (by rfl) mt (u := .type "tuple") (by decide +kernel) (show RelV (.ty "tuple") (.type "tuple") from rfl)) pa_nil)))))
          (pw_or1 (pt_cmpR op_ne (pe_callB call_len_seq (by rfl) ml PySem.boot_len (pa_cons (pv 4) pa_nil)) pe_int (nomark _)))))
        (pss_one (ps_ret pe_bl)) pss_nil)
      (pss_cons (ps_asg (pv 4) (pg_tup rfl (pgs_cons (pg_name (i := 5) nd rfl (.inl rfl)) (pgs_cons (pg_name (i := 6) nd rfl (.inl rfl)) pgs_nil))))
      (pss_cons (ps_if (PW.pt (pw_or (pt_not (pt_val (pe_callB call_isi (by rfl) mi PyProof.Rows.boot_isinstance (pa_cons (pv 5) (pa_cons (pe_bltn (by rfl) ms (u := .type "str") (by decide +kernel) (show RelV (.ty "str") (.type "str") from rfl)) pa_nil)))))
          (pw_or (pt_cmp (pc_din hu (pv 5) (pv 3)))
          (pw_or1 (pt_cmpR op_gt (pe_callB call_len_str (by rfl) ml PySem.boot_len (pa_cons (pv 5) pa_nil)) (pe_glob (v := .int 8) (by rfl) m8 ⟨_, rfl⟩) (nomark _))))))
        (pss_one (ps_ret pe_bl)) pss_nil)
      (pss_cons (ps_if (PW.pt (pw_or (pt_not (pt_val (pe_m0 PySem.F.slot_str_isascii PySem.F.type_str_isascii mt_isascii (pv 5))))
          (pw_or (pt_not (pt_val (pe_m0 PySem.F.slot_str_isalpha PySem.F.type_str_isalpha mt_isalpha (pv 5))))
          (pw_or1 (pt_not (pt_val (pe_m0 PySem.F.slot_str_islower PySem.F.type_str_islower mt_islower (pv 5))))))))
        (pss_one (ps_ret pe_bl)) pss_nil)
      (pss_cons (ps_if (PW.pt (pw_or (pt_not (pt_val (pe_callB call_isi (by rfl) mi PyProof.Rows.boot_isinstance (pa_cons (pv 6) (pa_cons (pe_bltn (by rfl) mn (u := .type "int") (by decide +kernel) (show RelV (.ty "int") (.type "int") from rfl)) pa_nil)))))
          (pw_or (pt_not (pt_chain HX.op_leA PP.op_leBI pe_int (pv 6) (pv 2)))
          (pw_or1 (pt_cmpR HX.op_isA (pv 6) pe_bl (nomark _))))))
        (pss_one (ps_ret pe_bl)) pss_nil)
      (pss_one (ps_dput hu (pv 3) (pv 5) (pv 6) rfl))))))))
    (pss_one (ps_ret pe_bl))), ?_⟩
  have q0 : boxesP most gr seen d = none → Q (.bl false) H := fun e => by
    have z := qn e kvs
    rwa [upd_id hz] at z
  by_cases ht : isTup d = true
  rotate_left
  · have e : boxesP most gr seen d = none := by
      cases d with
      | tuple ds => exact absurd rfl ht
      | _ => rfl
    refine ⟨_, rfl, _, _, _, _, _, rfl, .ty "tuple", dp_ty hv, kit_tup K hv, _, rfl, ?_⟩
    rw [show isTup d = false by simpa using ht]
    exact iteT (iteT (q0 e))
  obtain ⟨ds, rfl⟩ := isT_tup d ht
  obtain ⟨a, xs, rfl, hs, hall, hxl⟩ := small_of hv
  refine ⟨_, rfl, _, _, _, _, _, rfl, .ty "tuple", dp_ty hv, kit_tup K hv, _, rfl, iteF ⟨_, rfl, a, _, rfl, .inr hs, _, rfl, _, _, rfl, rfl, _, rfl, ?_⟩⟩
  by_cases hm : ds.length ≤ most
  rotate_left
  · have e : boxesP most gr seen (.tuple ds) = none := if_neg hm
    rw [decide_eq_true (show (most : Int) < (xs.length : Int) by omega)]
    exact iteT (q0 e)
  have ep : boxesP most gr seen (.tuple ds) = scanB gr seen ds := if_pos hm
  rw [ep] at qy qn
  rw [decide_eq_false (show ¬ (most : Int) < (xs.length : Int) by omega)]
  refine iteF ⟨_, rfl, a, rfl, ⟨_, hs⟩, for_tup (xs := xs)
    (fun i σ H3 => ∃ y4 y5 y6 bs, σ = [some (.ref a), some (.int most), some (.int gr), some (.ref sz), y4, y5, y6] ∧ H3 = upd H sz (.dK (kvs ++ bs.map boxK)) ∧ bs.length = i ∧ scanB gr seen ds = (scanB gr (seen ++ bs.map (·.1)) (ds.drop i)).map (bs ++ ·))
    ⟨none, none, none, [], rfl, by rw [List.map_nil, List.append_nil, upd_id hz], rfl, by simp⟩ (fun i σ H3 _ hP => ?_) (fun i x σ H3 hx hP => ?_) (fun σ H3 hP => ?_)⟩
  · obtain ⟨_, _, _, _, _, rfl, _⟩ := hP
    exact dict_tup hz hs
  · obtain ⟨y4, y5, y6, bs, rfl, rfl, hbl, hsc⟩ := hP
    have hi : i < ds.length := by
      have := (List.getElem?_eq_some_iff.mp hx).1
      omega
    obtain ⟨e, he, hxe0⟩ := dpAll_get hall hx
    have hdr : ds.drop i = e :: ds.drop (i + 1) := by
      rw [List.drop_eq_getElem_cons hi]
      rw [List.getElem?_eq_getElem hi] at he
      rw [Option.some.inj he]
    rw [hdr] at hsc
    have hz2 : (upd H sz (.dK (kvs ++ bs.map boxK))) sz = some (.dK (kvs ++ bs.map boxK)) := upd_same
    have hsn2 := val_seen hsn bs
    have keep : ∀ {b : Addr} {ys : List V}, SqT K H b ys → SqT K (upd H sz (.dK (kvs ++ bs.map boxK))) b ys := fun h => dict_tup hz h
    have fail : boxP gr (seen ++ bs.map (·.1)) e = none → Q (.bl false) (upd H sz (.dK (kvs ++ bs.map boxK))) := fun z => by
      rw [scan_none z] at hsc
      exact qn hsc _
    by_cases het : isTup e = true
    rotate_left
    · refine ⟨_, rfl, _, _, _, _, _, rfl, .ty "tuple", dp_ty (dp_dictA (kvs2 := kvs ++ bs.map boxK) hz hxe0), kit_tup K hxe0, _, rfl, ?_⟩
      rw [show isTup e = false by simpa using het]
      refine iteT (iteT (fail ?_))
      cases e with
      | tuple es => exact absurd rfl het
      | _ => rfl
    obtain ⟨es, rfl⟩ := isT_tup e het
    obtain ⟨c, ys, rfl, hc, hys, hyl⟩ := small_of hxe0
    have hxe := dp_dictA (kvs2 := kvs ++ bs.map boxK) hz hxe0
    refine ⟨_, rfl, _, _, _, _, _, rfl, .ty "tuple", dp_ty hxe, kit_tup K hxe, _, rfl, iteF ⟨_, rfl, c, _, rfl, .inr (keep hc), rfl, _, rfl, ?_⟩⟩
    by_cases hl2 : es.length = 2
    rotate_left
    · rw [ne_int (show (ys.length : Int) ≠ 2 by omega)]
      refine iteT (fail ?_)
      unfold boxP
      split
      · rename_i heq
        cases heq
        exact absurd rfl hl2
      · rfl
    rw [eq_int (show (ys.length : Int) = 2 by omega)]
    obtain ⟨e1, e2, rfl⟩ := len2 hl2
    cases hys with
    | @cons x1 _ _ _ h1 hys2 =>
    cases hys2 with
    | @cons x2 _ _ _ h2 hys3 =>
      cases hys3
      have sle := (sl.of_tup _ (List.mem_of_getElem? he)).of_tup
      refine iteF ⟨_, rfl, c, _, rfl, keep hc, rfl, _, _, rfl, _, _, rfl, rfl, ?_⟩
      have g1 := dp_dictA (kvs2 := kvs ++ bs.map boxK) hz h1
      have g2 := dp_dictA (kvs2 := kvs ++ bs.map boxK) hz h2
      by_cases hes : isStr e1 = true
      rotate_left
      · refine ⟨_, rfl, _, _, _, _, _, rfl, .ty "str", dp_ty g1, kit_str K g1, _, rfl, ?_⟩
        rw [show isStr e1 = false by simpa using hes]
        refine iteT (iteT (fail ?_))
        cases e1 with
        | str z => exact absurd rfl hes
        | _ => rfl
      obtain ⟨z, rfl⟩ := isS_str e1 hes
      cases dp_str h1
      refine ⟨_, rfl, _, _, _, _, _, rfl, .ty "str", dp_ty g1, kit_str K g1, _, rfl, iteF ⟨_, rfl, _, rfl, sz, _, rfl, DGet.k (k := Sum.inr z) hz2, _, rfl, ?_⟩⟩
      rw [hsn2 z]
      have no : (nameB z = false ∨ z ∈ seen ++ bs.map (·.1) ∨ (isInt e2 = false) ∨ (∃ b, e2 = .bool b) ∨ ∃ n, e2 = .int n ∧ ¬ (1 ≤ n ∧ n ≤ gr)) → boxP gr (seen ++ bs.map (·.1)) (.tuple [.str z, e2]) = none := by
        intro h
        cases e2 with
        | int n =>
          rw [box_iff]
          rcases h with h | h | h | ⟨b, h⟩ | ⟨m, h, h2⟩
          · rw [h]; rfl
          · rw [decide_eq_true h]; simp
          · cases h
          · cases h
          · cases h
            by_cases q1 : 1 ≤ n
            · rw [decide_eq_false (show ¬ n ≤ gr from fun q => h2 ⟨q1, q⟩)]; simp
            · rw [decide_eq_false q1]; simp
        | _ => rfl
      by_cases hin : z ∈ seen ++ bs.map (·.1)
      · rw [decide_eq_true hin]
        exact iteT (iteT (fail (no (.inr (.inl hin)))))
      rw [decide_eq_false hin]
      have zl := (sle _ List.mem_cons_self).of_str
      refine iteF ⟨_, rfl, z, rfl, small_le (by omega), _, _, rfl, rfl, _, rfl, ?_⟩
      by_cases l8 : z.length ≤ 8
      rotate_left
      · rw [decide_eq_true (show (8 : Int) < (z.length : Int) by omega)]
        exact iteT (fail (no (.inl (nameB_no (.inl l8)))))
      rw [decide_eq_false (show ¬ (8 : Int) < (z.length : Int) by omega)]
      refine iteF ⟨_, rfl, ⟨_, rfl⟩, _, rfl, rfl, trivial, _, rfl, ?_⟩
      cases p2 : Txt.isascii z with
      | false => exact iteT (iteT (fail (no (.inl (nameB_no (.inr (.inl p2)))))))
      | true =>
      refine iteF ⟨_, rfl, ⟨_, rfl⟩, _, rfl, rfl, trivial, _, rfl, ?_⟩
      cases p3 : Txt.isalpha z with
      | false => exact iteT (iteT (fail (no (.inl (nameB_no (.inr (.inr (.inl p3))))))))
      | true =>
      refine iteF ⟨_, rfl, ⟨_, rfl⟩, _, rfl, rfl, trivial, _, rfl, ?_⟩
      cases p4 : Txt.islower z with
      | false => exact iteT (fail (no (.inl (nameB_no (.inr (.inr (.inr p4)))))))
      | true =>
      refine iteF ⟨_, rfl, _, _, _, _, _, rfl, .ty "int", dp_ty g2, kit_int K g2, _, rfl, ?_⟩
      cases h2 with
      | int n =>
        refine iteF ⟨_, rfl, .inl ⟨_, _, rfl, rfl, _, rfl, ?_⟩⟩
        by_cases q1 : 1 ≤ n
        rotate_left
        · rw [decide_eq_false q1]
          exact iteF ⟨_, rfl, iteT (iteT (fail (no (.inr (.inr (.inr (.inr ⟨n, rfl, fun q => q1 q.1⟩)))))))⟩
        rw [decide_eq_true q1]
        refine iteT ⟨_, rfl, .inl ⟨_, _, rfl, rfl, _, rfl, ?_⟩⟩
        by_cases q2 : n ≤ gr
        rotate_left
        · rw [decide_eq_false q2]
          exact iteT (iteT (fail (no (.inr (.inr (.inr (.inr ⟨n, rfl, fun q => q2 q.2⟩)))))))
        rw [decide_eq_true q2]
        refine iteF ⟨_, rfl, .inl ⟨_, _, rfl, rfl, _, rfl, iteF ?_⟩⟩
        have yes : boxP gr (seen ++ bs.map (·.1)) (.tuple [.str z, .int n]) = some (z, n) := by
          rw [box_iff, name_of l8 p2 p3 p4, decide_eq_false hin, decide_eq_true q1, decide_eq_true q2]
          rfl
        have hno : valV (kvs ++ bs.map boxK) (Sum.inr z) = none := by
          have := hsn2 z
          rw [decide_eq_false hin] at this
          exact Option.isNone_iff_eq_none.mp (by rw [← Option.not_isSome, this]; rfl)
        refine ⟨_, rfl, _, rfl, _, rfl, sz, _, rfl, DPut.k (k := Sum.inr z) hz2 ?_, ?_⟩
        · rw [List.length_append, List.length_map]
          exact small_lt (by omega)
        · refine ⟨_, _, _, bs ++ [(z, n)], rfl, ?_, by rw [List.length_append, hbl]; rfl, ?_⟩
          · rw [putK_new _ hno, upd_upd, List.map_append, List.append_assoc]
            rfl
          · rw [hsc, scan_some yes, Option.map_map, List.map_append, ← List.append_assoc]
            congr 1
            funext l
            simp
      | bl b =>
        have nb : boxP gr (seen ++ bs.map (·.1)) (.tuple [.str z, .bool b]) = none := rfl
        refine iteF ⟨_, rfl, .inr ⟨_, _, rfl, rfl, _, rfl, ?_⟩⟩
        cases b with
        | false => exact iteF ⟨_, rfl, iteT (iteT (fail nb))⟩
        | true =>
          refine iteT ⟨_, rfl, .inr ⟨_, _, rfl, rfl, _, rfl, ?_⟩⟩
          cases q2 : decide ((if true = true then (1 : Int) else 0) ≤ gr) with
          | false => exact iteT (iteT (fail nb))
          | true => exact iteF ⟨_, rfl, .inr ⟨_, _, rfl, rfl, _, rfl, iteT (fail nb)⟩⟩
      | _ => exact iteT (iteT (fail (no (.inr (.inr (.inl rfl))))))
  · obtain ⟨y4, y5, y6, bs, rfl, rfl, hbl, hsc⟩ := hP
    refine qy bs ?_
    rw [hsc, hxl, List.drop_length]
    simp [scanB]
end
end PP

set_option maxHeartbeats 4000000
namespace PP
open PySem PySem.Spec PyProof.Rows L2 G3 M0 PA EE QA
/-! ### sources and ways, of any data -/
/-- a dict of just these sizes -/
def SizesE (H : Hp) (a : Addr) (bs : List Box) : Prop := ∃ kvs, Rd H a (.dK kvs) ∧ ∀ o, valV kvs (Sum.inr o) = (size? bs o).map V.int
theorem SizesE.same {H H' : Hp} {a : Addr} {bs : List Box} (h : SizesE H a bs) (s : Same H H') : SizesE H' a bs := by
  obtain ⟨kvs, hr, hk⟩ := h
  exact ⟨kvs, rd_same s hr, hk⟩
theorem SizesE.get {H : Hp} {a : Addr} {bs : List Box} (h : SizesE H a bs) (o : Str) : DGet H a (.str o) ((size? bs o).map V.int) := by
  obtain ⟨kvs, hr, hk⟩ := h
  exact .inl ⟨kvs, Sum.inr o, hr, rfl, (hk o).symm⟩
section
variable {X : Cx}
theorem gives_gt (a : Bool) (b : Int) (u : Tok) : Gives (Builtin.«int.__gt__» ⟨[.bool a, .int b u], []⟩) (.val (Value.bool (decide ((if a = true then (1 : Int) else 0) > b)))) :=
  .of_wp fun M A E s Q h => by
    obtain ⟨hp, g, d, tk, os⟩ := s
    wp_walk
    exact ⟨_, rfl, h⟩
theorem op_ltIB : OpR X (compareOp .Lt) (fun x y H Q => ∃ (i : Int) (b : Bool), x = .int i ∧ y = .bl b ∧ Q (.bl (decide (i < (if b = true then (1 : Int) else 0)))) H) := by
  intro pins s σ H x y v u Q I rx ry h
  obtain ⟨i, b, rfl, rfl, q⟩ := h
  obtain ⟨t, rfl⟩ := rx
  cases (show u = Value.bool b from ry)
  exact SeqAt.rc_sub_first_or (op := .Lt) (s := s) (Tb := "bool") (typeIs_int s i t) rfl (by decide) HX.sub_bi PySem.F.slot_bool_gt_refl (call_gives PySem.F.slot_bool_gt_refl rfl PySem.F.entry_int_gt (PySem.F.args_int_gt_2 _ _) (gives_gt b i t) ⟨nofun, ⟨.bl _, H, I, rfl, q⟩⟩) (.inl rfl)
theorem op_ltI : OpR X (compareOp .Lt) (fun x y H Q => (rI0 fun i j => .bl (decide (i < j))) x y H Q ∨ ∃ (i : Int) (b : Bool), x = .int i ∧ y = .bl b ∧ Q (.bl (decide (i < (if b = true then (1 : Int) else 0)))) H) := op_or op_lt op_ltIB
end
section
variable {P : Program} {w : World} {K : PySem.W.Frag} {mg : Str → Option Value} {base : Heap}
def spSourceA (K : PySem.W.Frag) : Sp := fun vs H Q E => ∃ (v : V) (ds : List Dt) (bs : List Box) (b : Str) (n : Int) (sz : Addr), vs = [v, .int n, .str b, .ref sz] ∧ Dp K H v (.tuple ds) ∧ SizesE H sz bs ∧
  (srcP bs b n ds = true → Q (.bl true) H) ∧ (srcP bs b n ds = false → Q (.bl false) H ∧ ∀ d, E (.type "KeyError") d H)
set_option maxHeartbeats 16000000 in
theorem ok_sourceA {f : Addr} {fd : FuncData} {k : Nat} (F : Fun K "is_source" "is_source" s_is_source f fd) (mi : mg "isinstance" = none) (ms : mg "str" = none) (mn : mg "int" = none) (ml : mg "len" = none) :
    FnOk P w K mg base (L2.CX P w) (k + 1) f fd ["source", "size", "box", "sizes"] (spSourceA K) := by
  refine F.okX scSource (fun vs H Q E h => ?_) (fun cdv A outer s H vs Q E hr h => ?_)
  · obtain ⟨v, ds, bs, b, n, sz, rfl, _⟩ := h
    rfl
  obtain ⟨v, ds, bs, b, n, sz, rfl, hv, hz, qy, qn⟩ := h
  have nd := scSource.nd
  have hu := hu_of hr
  refine ⟨_, pss_cons (ps_if (pt_cmpR op_ne (pe_callB call_len_seq (by rfl) ml PySem.boot_len (pa_cons (pv 0) pa_nil)) pe_int (nomark _))
      (pss_one (ps_ret (pe_and (pe_cmpR op_eq (pe_callB call_len_seq (by rfl) ml PySem.boot_len (pa_cons (pv 0) pa_nil)) pe_int (nomark _))
        (pe_and (pe_callB call_isi (by rfl) mi PyProof.Rows.boot_isinstance (pa_cons (pe_ix ix_tup (pv 0) pe_int (fun _ _ => rfl)) (pa_cons (pe_bltn (by rfl) ms (u := .type "str") (by decide +kernel) (show RelV (.ty "str") (.type "str") from rfl)) pa_nil)))
        (pe_one (pe_cmpR op_eq (pe_ix ix_tup (pv 0) pe_int (fun _ _ => rfl)) pe_str (nomark _))))))) pss_nil)
    (pss_cons (ps_asg (pv 0) (pg_tup rfl (pgs_cons (pg_name (i := 4) nd rfl (.inl rfl)) (pgs_cons (pg_name (i := 5) nd rfl (.inl rfl)) pgs_nil))))
    (pss_cons (ps_if (pt_not (pt_val (pe_callB call_isi (by rfl) mi PyProof.Rows.boot_isinstance (pa_cons (pv 4) (pa_cons (pe_bltn (by rfl) ms (u := .type "str") (by decide +kernel) (show RelV (.ty "str") (.type "str") from rfl)) pa_nil)))))
      (pss_one (ps_ret pe_bl)) pss_nil)
    (pss_cons (ps_if (pt_val (pe_callB call_isi (by rfl) mi PyProof.Rows.boot_isinstance (pa_cons (pv 5) (pa_cons (pe_bltn (by rfl) mn (u := .type "int") (by decide +kernel) (show RelV (.ty "int") (.type "int") from rfl)) pa_nil))))
      (pss_cons (ps_if (PW.pt (pw_or (pt_cmpR HX.op_isA (pv 5) pe_bl (nomark _)) (pw_or1 (pt_cmpR HX.op_isA (pv 5) pe_bl (nomark _))))) (pss_one (ps_ret pe_bl)) pss_nil)
      (pss_one (ps_ret (pe_ifExp (pt_cmpR op_eq (pv 4) pe_str (nomark _)) (pe_chain op_le op_lt pe_int (pv 5) (pv 1)) (pe_and (pe_cmpR op_eq (pv 4) pe_str (nomark _)) (pe_one (pe_chain op_le op_le pe_int (pv 5) pe_int))))))) pss_nil)
    (pss_one (ps_ret (pe_and (pe_cmpR op_eq (pv 4) pe_str (nomark _)) (pe_and (pe_callB call_isi (by rfl) mi PyProof.Rows.boot_isinstance (pa_cons (pv 5) (pa_cons (pe_bltn (by rfl) ms (u := .type "str") (by decide +kernel) (show RelV (.ty "str") (.type "str") from rfl)) pa_nil)))
      (pe_and (pe_cmpR op_ne (pv 5) (pv 2) (nomark _)) (pe_one (pe_cmpR op_le (pe_dgetX rfl hu (takes_of rfl rfl rfl rfl) (pv 3) (pv 5) (fun _ _ => rfl)) (pv 1) (nomark _))))))))))), ?_⟩
  obtain ⟨a, xs, rfl, hs, hall, hxl⟩ := small_of hv
  have fin : ∀ b' : Bool, srcP bs b n ds = b' → Q (.bl b') H := fun b' e => by
    cases b' with
    | true => exact qy e
    | false => exact (qn e).1
  by_cases hl : ds.length = 2
  · obtain ⟨e1, e2, rfl⟩ := len2 hl
    cases hall with
    | @cons x1 _ _ _ h1 hall2 =>
    cases hall2 with
    | @cons x2 _ _ _ h2 hall3 =>
    cases hall3
    refine ⟨_, rfl, a, _, rfl, .inr hs, rfl, _, rfl, iteF ?_⟩
    refine ⟨_, rfl, a, _, rfl, hs, rfl, _, _, rfl, _, _, rfl, rfl, ?_⟩
    by_cases hes : isStr e1 = true
    rotate_left
    · refine ⟨_, rfl, _, _, _, _, _, rfl, .ty "str", dp_ty h1, kit_str K h1, _, rfl, ?_⟩
      rw [show isStr e1 = false by simpa using hes]
      refine iteT (fin false ?_)
      cases e1 with
      | str z => exact absurd rfl hes
      | _ => rfl
    obtain ⟨z, rfl⟩ := isS_str e1 hes
    cases dp_str h1
    refine ⟨_, rfl, _, _, _, _, _, rfl, .ty "str", dp_ty h1, kit_str K h1, _, rfl, iteF ?_⟩
    refine ⟨_, rfl, _, _, _, _, _, rfl, .ty "int", dp_ty h2, kit_int K h2, _, rfl, ?_⟩
    have other : isInt e2 = false → srcP bs b n [.str z, e2] = (decide (z = "of") && (match e2 with | .str o => !decide (o = b) && (match size? bs o with | some m => decide (m ≤ n) | none => false) | _ => false)) := fun h => by
      cases e2 with
      | str o => rfl
      | int i => cases h
      | bool b => cases h
      | none => exact (Bool.and_false _).symm
      | list l => exact (Bool.and_false _).symm
      | tuple l => exact (Bool.and_false _).symm
      | dict l => exact (Bool.and_false _).symm
    have hh := h2
    cases h2 with
    | int i =>
      refine iteT ⟨_, rfl, .inl ⟨_, _, rfl, rfl, _, rfl, iteF ⟨_, rfl, .inl ⟨_, _, rfl, rfl, _, rfl, iteF ?_⟩⟩⟩⟩
      have es : srcP bs b n [.str z, .int i] = if z = "to" then decide (0 ≤ i) && decide (i < n) else decide (z = "on") && (decide (1 ≤ i) && decide (i ≤ 3)) := rfl
      refine ⟨_, rfl, rfl, _, rfl, ?_⟩
      by_cases ez : z = "to"
      · rw [if_pos ez] at es
        rw [show decide (V.str z = V.str "to") = true from decide_eq_true (congrArg V.str ez)]
        refine iteT ⟨_, rfl, _, _, rfl, rfl, _, rfl, ?_⟩
        cases q1 : decide (0 ≤ i) with
        | false => exact iteF (fin false (by rw [es, q1]; rfl))
        | true =>
          refine iteT ⟨_, rfl, _, _, rfl, rfl, ?_⟩
          exact fin (decide (i < n)) (by rw [es, q1, Bool.true_and])
      · rw [if_neg ez] at es
        rw [ne_st ez]
        refine iteF ⟨_, rfl, rfl, _, rfl, ?_⟩
        by_cases ez2 : z = "on"
        · rw [decide_eq_true ez2, Bool.true_and] at es
          rw [show decide (V.str z = V.str "on") = true from decide_eq_true (congrArg V.str ez2)]
          refine iteT ⟨_, rfl, _, _, rfl, rfl, _, rfl, ?_⟩
          cases q1 : decide (1 ≤ i) with
          | false => exact iteF (fin false (by rw [es, q1]; rfl))
          | true =>
            refine iteT ⟨_, _, rfl, rfl, ?_⟩
            exact fin (decide (i ≤ 3)) (by rw [es, q1, Bool.true_and])
        · rw [decide_eq_false ez2, Bool.false_and] at es
          rw [ne_st ez2]
          exact iteF (fin false es)
    | bl c =>
      refine iteT ⟨_, rfl, .inr ⟨_, _, rfl, rfl, _, rfl, ?_⟩⟩
      cases c with
      | true => exact iteT (iteT (fin false rfl))
      | false => exact iteF ⟨_, rfl, .inr ⟨_, _, rfl, rfl, _, rfl, iteT (fin false rfl)⟩⟩
    | str o =>
      have es := other rfl
      refine iteF ⟨_, rfl, rfl, _, rfl, ?_⟩
      by_cases ez : z = "of"
      · rw [show decide (V.str z = V.str "of") = true from decide_eq_true (congrArg V.str ez)]
        rw [decide_eq_true ez, Bool.true_and] at es
        refine iteT ⟨_, rfl, _, _, _, _, _, rfl, .ty "str", dp_ty (.str o), kit_str K (H := H) (.str o), _, rfl, iteT ?_⟩
        refine ⟨_, rfl, _, rfl, rfl, _, rfl, ?_⟩
        by_cases eo : o = b
        · rw [show decide (V.str o = V.str b) = true from decide_eq_true (congrArg V.str eo)]
          exact iteF (fin false (by rw [es]; show (!decide (o = b) && _) = false; rw [decide_eq_true eo]; rfl))
        · rw [ne_st eo]
          replace es : srcP bs b n [.str z, .str o] = (match size? bs o with | some m => decide (m ≤ n) | none => false) := by
            rw [es]
            show (!decide (o = b) && _) = _
            rw [decide_eq_false eo]
            rfl
          refine iteT ⟨_, rfl, _, rfl, sz, _, rfl, hz.get o, fun v1 hv1 => ?_, fun hn d => ?_⟩
          · obtain ⟨m, hm, rfl⟩ := Option.map_eq_some_iff.mp hv1
            rw [hm] at es
            exact ⟨_, rfl, _, _, rfl, rfl, fin (decide (m ≤ n)) es⟩
          · have hm : size? bs o = none := Option.map_eq_none_iff.mp hn
            rw [hm] at es
            exact (qn es).2 d
      · rw [ne_st ez]
        rw [decide_eq_false ez, Bool.false_and] at es
        exact iteF (fin false es)
    | _ =>
      have es := other rfl
      rw [Bool.and_false] at es
      refine iteF ⟨_, rfl, rfl, _, rfl, ?_⟩
      by_cases ez : z = "of"
      · rw [show decide (V.str z = V.str "of") = true from decide_eq_true (congrArg V.str ez)]
        exact iteT ⟨_, rfl, _, _, _, _, _, rfl, .ty "str", dp_ty hh, kit_str K hh, _, rfl, iteF (fin false es)⟩
      · rw [ne_st ez]
        exact iteF (fin false es)
  · refine ⟨_, rfl, a, _, rfl, .inr hs, rfl, _, rfl, ?_⟩
    rw [ne_int (show (xs.length : Int) ≠ 2 by omega)]
    refine iteT ⟨_, rfl, a, _, rfl, .inr hs, rfl, _, rfl, ?_⟩
    by_cases h1 : ds.length = 1
    · obtain ⟨e1, rfl⟩ := len1 h1
      cases hall with
      | @cons x1 _ _ _ h1 hall2 =>
      cases hall2
      refine iteT ⟨_, rfl, a, _, 0, _, rfl, rfl, hs, atI_nat (j := 0) rfl, _, _, _, _, _, rfl, .ty "str", dp_ty h1, kit_str K h1, _, rfl, ?_⟩
      by_cases hes : isStr e1 = true
      · obtain ⟨z, rfl⟩ := isS_str e1 hes
        cases dp_str h1
        refine iteT ⟨_, rfl, a, _, 0, _, rfl, rfl, hs, atI_nat (j := 0) rfl, rfl, ?_⟩
        have e : decide (V.str z = V.str "any") = srcP bs b n [.str z] := by
          show _ = decide (z = "any")
          rw [decide_eq_decide]
          exact ⟨fun e => V.str.inj e, fun e => congrArg _ e⟩
        show Q (.bl (decide (V.str z = V.str "any"))) H
        rw [e]
        exact fin _ rfl
      · rw [show isStr e1 = false by simpa using hes]
        refine iteF (fin false ?_)
        cases e1 with
        | str z => exact absurd rfl hes
        | _ => rfl
    · rw [ne_int (show (xs.length : Int) ≠ 1 by omega)]
      refine iteF (fin false ?_)
      unfold srcP
      split
      · simp at h1
      · simp at hl
      · simp at hl
      · rfl
def spWaysA (K : PySem.W.Frag) : Sp := fun vs H Q _ => ∃ (v : V) (d : Dt) (e : Int), vs = [v, .int e] ∧ Dp K H v d ∧ Q (.bl (waysP e d)) H
set_option maxHeartbeats 16000000 in
theorem ok_waysA {f : Addr} {fd : FuncData} {k : Nat} (F : Fun K "are_ways" "are_ways" s_are_ways f fd) (mi : mg "isinstance" = none) (mt : mg "tuple" = none) (mn : mg "int" = none) (ml : mg "len" = none) :
    FnOk P w K mg base CX0 (k + 1) f fd ["thing", "end"] (spWaysA K) := by
  refine F.ok scWays (fun vs H Q E h => ?_) (fun cdv A outer s H vs Q E hr h => ?_)
  · obtain ⟨v, d, e, rfl, _⟩ := h
    rfl
  obtain ⟨v, d, e, rfl, hv, q⟩ := h
  have nd := scWays.nd
  refine ⟨_, pss_cons (ps_if (PW.pt (pw_or (pt_not (pt_val (pe_callB call_isi (by rfl) mi PyProof.Rows.boot_isinstance (pa_cons (pv 0) (pa_cons (pe_bltn (by rfl) mt (u := .type "tuple") (by decide +kernel) (show RelV (.ty "tuple") (.type "tuple") from rfl)) pa_nil)))))
        (pw_or1 (pt_not (pt_chain op_le op_le pe_int (pe_callB call_len_seq (by rfl) ml PySem.boot_len (pa_cons (pv 0) pa_nil)) pe_int)))))
      (pss_one (ps_ret pe_bl)) pss_nil)
    (pss_cons (ps_set (i := 2) nd rfl (.inl rfl) (pe_un un_neg pe_int))
    (pss_cons (ps_for PassesOwn.never rfl (pi_tup (pv 0)) (pg_name (i := 3) nd rfl (.inl rfl))
      (pss_cons (ps_if (PW.pt (pw_or (pt_not (pt_val (pe_callB call_isi (by rfl) mi PyProof.Rows.boot_isinstance (pa_cons (pv 3) (pa_cons (pe_bltn (by rfl) mn (u := .type "int") (by decide +kernel) (show RelV (.ty "int") (.type "int") from rfl)) pa_nil)))))
          (pw_or (pt_not (pt_chain op_ltI op_leBI (pv 2) (pv 3) (pv 1)))
          (pw_or (pt_cmpR HX.op_isA (pv 3) pe_bl (nomark _)) (pw_or1 (pt_cmpR HX.op_isA (pv 3) pe_bl (nomark _)))))))
        (pss_one (ps_ret pe_bl)) pss_nil)
      (pss_one (ps_set (i := 2) nd rfl (.inl rfl) (pv 3)))))
    (pss_one (ps_ret pe_bl)))), ?_⟩
  by_cases ht : isTup d = true
  rotate_left
  · have ep : waysP e d = false := by
      cases d with
      | tuple ds => exact absurd rfl ht
      | _ => rfl
    rw [ep] at q
    refine ⟨_, rfl, _, _, _, _, _, rfl, .ty "tuple", dp_ty hv, kit_tup K hv, _, rfl, ?_⟩
    rw [show isTup d = false by simpa using ht]
    exact iteT (iteT q)
  obtain ⟨ds, rfl⟩ := isT_tup d ht
  obtain ⟨a, xs, rfl, hs, hall, hxl⟩ := small_of hv
  have ep : waysP e (.tuple ds) = (decide (1 ≤ ds.length) && (decide (ds.length ≤ 4) && waysR e (-1) ds)) := rfl
  refine ⟨_, rfl, _, _, _, _, _, rfl, .ty "tuple", dp_ty hv, kit_tup K hv, _, rfl, iteF ⟨_, rfl, a, _, rfl, .inr hs, _, _, rfl, rfl, _, rfl, ?_⟩⟩
  by_cases l1 : 1 ≤ ds.length
  rotate_left
  · rw [decide_eq_false l1, Bool.false_and] at ep
    rw [ep] at q
    rw [decide_eq_false (show ¬ (1 : Int) ≤ (xs.length : Int) by omega)]
    exact iteF ⟨_, rfl, iteT q⟩
  rw [decide_eq_true (show (1 : Int) ≤ (xs.length : Int) by omega)]
  refine iteT ⟨_, _, rfl, rfl, _, rfl, ?_⟩
  by_cases l4 : ds.length ≤ 4
  rotate_left
  · rw [decide_eq_false l4, Bool.false_and, Bool.and_false] at ep
    rw [ep] at q
    rw [decide_eq_false (show ¬ (xs.length : Int) ≤ 4 by omega)]
    exact iteT q
  rw [decide_eq_true (show (xs.length : Int) ≤ 4 by omega)]
  rw [decide_eq_true l1, decide_eq_true l4, Bool.true_and, Bool.true_and] at ep
  rw [ep] at q
  refine iteF ⟨1, rfl, ?_⟩
  refine ⟨_, rfl, a, rfl, ⟨_, hs⟩, for_tup (xs := xs)
    (fun i σ H3 => ∃ y3 c, σ = [some (.ref a), some (.int e), some (.int c), y3] ∧ H3 = H ∧ waysR e (-1) ds = waysR e c (ds.drop i))
    ⟨none, -1, rfl, rfl, by rw [List.drop_zero]⟩ (fun i σ H3 _ hP => ?_) (fun i x σ H3 hx hP => ?_) (fun σ H3 hP => ?_)⟩
  · obtain ⟨_, _, _, rfl, _⟩ := hP
    exact hs
  · obtain ⟨y3, c, rfl, rfl, hc⟩ := hP
    have hi : i < ds.length := by
      have := (List.getElem?_eq_some_iff.mp hx).1
      omega
    obtain ⟨e1, he, h1⟩ := dpAll_get hall hx
    have hdr : ds.drop i = e1 :: ds.drop (i + 1) := by
      rw [List.drop_eq_getElem_cons hi]
      rw [List.getElem?_eq_getElem hi] at he
      rw [Option.some.inj he]
    rw [hdr] at hc
    have fail : waysR e c (e1 :: ds.drop (i + 1)) = false → Q (.bl false) H3 := fun z => by
      rw [z] at hc
      rw [hc] at q
      exact q
    refine ⟨_, rfl, _, _, _, _, _, rfl, .ty "int", dp_ty h1, kit_int K h1, _, rfl, ?_⟩
    cases h1 with
    | int n =>
      have ew : waysR e c (.int n :: ds.drop (i + 1)) = (decide (c < n) && (decide (n ≤ e) && waysR e n (ds.drop (i + 1)))) := rfl
      refine iteF ⟨_, rfl, _, rfl, .inl ⟨_, _, rfl, rfl, _, rfl, ?_⟩⟩
      cases q1 : decide (c < n) with
      | false => exact iteF ⟨_, rfl, iteT (iteT (fail (by rw [ew, q1]; rfl)))⟩
      | true =>
        refine iteT ⟨_, rfl, .inl ⟨_, _, rfl, rfl, _, rfl, ?_⟩⟩
        cases q2 : decide (n ≤ e) with
        | false => exact iteT (iteT (fail (by rw [ew, q1, q2]; rfl)))
        | true =>
          refine iteF ⟨_, rfl, .inl ⟨_, _, rfl, rfl, _, rfl, iteF ⟨_, rfl, .inl ⟨_, _, rfl, rfl, _, rfl, iteF ?_⟩⟩⟩⟩
          refine ⟨_, rfl, _, n, rfl, rfl, ?_⟩
          rw [hc, ew, q1, q2, Bool.true_and, Bool.true_and]
    | bl b =>
      refine iteF ⟨_, rfl, _, rfl, .inr ⟨_, _, rfl, rfl, _, rfl, ?_⟩⟩
      cases q1 : decide (c < (if b = true then (1 : Int) else 0)) with
      | false => exact iteF ⟨_, rfl, iteT (iteT (fail rfl))⟩
      | true =>
        refine iteT ⟨_, rfl, .inr ⟨_, _, rfl, rfl, _, rfl, ?_⟩⟩
        cases q2 : decide ((if b = true then (1 : Int) else 0) ≤ e) with
        | false => exact iteT (iteT (fail rfl))
        | true =>
          refine iteF ⟨_, rfl, .inr ⟨_, _, rfl, rfl, _, rfl, ?_⟩⟩
          cases b with
          | true => exact iteT (iteT (fail rfl))
          | false => exact iteF ⟨_, rfl, .inr ⟨_, _, rfl, rfl, _, rfl, iteT (fail rfl)⟩⟩
    | _ => exact iteT (iteT (fail rfl))
  · obtain ⟨y3, c, rfl, rfl, hc⟩ := hP
    rw [hxl, List.drop_length] at hc
    rw [hc] at q
    exact q
end
end PP

set_option maxHeartbeats 4000000
namespace PP
open PySem PySem.Spec PyProof.Rows L2 G3 M0 PA EE QA
/-! ### rows, of any data -/
def KeysE (H : Hp) (a : Addr) (zs : List Str) : Prop := ∃ kvs, Rd H a (.dK kvs) ∧ ∀ z, (valV kvs (Sum.inr z)).isSome = decide (z ∈ zs)
theorem KeysE.same {H H' : Hp} {a : Addr} {zs : List Str} (h : KeysE H a zs) (s : Same H H') : KeysE H' a zs := by
  obtain ⟨kvs, hr, hk⟩ := h
  exact ⟨kvs, rd_same s hr, hk⟩
theorem KeysE.get {H : Hp} {a : Addr} {zs : List Str} (h : KeysE H a zs) (o : Str) : ∃ r : Option V, DGet H a (.str o) r ∧ r.isSome = decide (o ∈ zs) := by
  obtain ⟨kvs, hr, hk⟩ := h
  exact ⟨_, .inl ⟨kvs, Sum.inr o, hr, rfl, rfl⟩, hk o⟩
theorem lz2' : 2 ≤ sizeLine := by decide
def row3w (bs : List Box) (w b : Str) : Dt → Bool
  | .int v => decide (w = "wait") && inSize bs b v
  | _ => false
theorem row3_no {bs : List Box} {w b : Str} (d : Dt) (h : ¬ w = "set") : row3 bs w b d = row3w bs w b d := by
  cases d with
  | tuple l => show (decide (w = "set") && _) = false; rw [decide_eq_false h]; rfl
  | int v => show (!decide (w = "set") && _) = (decide (w = "wait") && inSize bs b v); rw [decide_eq_false h]; rfl
  | _ => rfl
def row3s (bs : List Box) (b : Str) (ss : List Dt) : Bool := match size? bs b with
  | some n => srcP bs b n ss
  | none => false
theorem row3_set {bs : List Box} {w b : Str} (ss : List Dt) (h : w = "set") : row3 bs w b (.tuple ss) = row3s bs b ss := by
  show (decide (w = "set") && row3s bs b ss) = _
  rw [decide_eq_true h, Bool.true_and]
theorem row3s_some {bs : List Box} {b : Str} {ss : List Dt} {n : Int} (h : size? bs b = some n) : row3s bs b ss = srcP bs b n ss := by
  unfold row3s
  rw [h]
theorem row3s_none {bs : List Box} {b : Str} {ss : List Dt} (h : size? bs b = none) : row3s bs b ss = false := by
  unfold row3s
  rw [h]
theorem inSize_some {bs : List Box} {b : Str} {v n : Int} (h : size? bs b = some n) : inSize bs b v = (decide (0 ≤ v) && decide (v < n)) := by
  unfold inSize
  rw [h]
theorem inSize_none {bs : List Box} {b : Str} {v : Int} (h : size? bs b = none) : inSize bs b v = false := by
  unfold inSize
  rw [h]
theorem inSize_neg {bs : List Box} {b : Str} {v : Int} (h : decide (0 ≤ v) = false) : inSize bs b v = false := by
  cases e : size? bs b with
  | none => exact inSize_none e
  | some n => rw [inSize_some e, h]; rfl
def row2t (titles hands : List Str) (me w t : Str) : Bool := if w = "call" then decide (t ∈ titles) else decide (w = "begin") && (!decide (t = me) && decide (t ∈ hands))
def row2s (titles hands : List Str) (me w : Str) : Dt → Bool
  | .str t => row2t titles hands me w t
  | _ => false
theorem row2_no {titles hands : List Str} {me w : Str} {e : Int} (d : Dt) (h : ¬ w = "go") : row2 titles hands me e w d = row2s titles hands me w d := by
  unfold row2
  rw [if_neg h]
  cases d <;> rfl
theorem row1_in (w : Str) : inV (.str w) [.str "back", .str "fault"] = (decide (w = "back") || decide (w = "fault")) := by
  by_cases h1 : w = "back"
  · rw [h1]
    decide +kernel
  · by_cases h2 : w = "fault"
    · rw [h2]
      decide +kernel
    · rw [decide_eq_false h1, decide_eq_false h2]
      simp only [inV, List.any_cons, List.any_nil, eqV, Bool.or_false, Bool.or_eq_false_iff, beq_eq_false_iff_ne, ne_eq, decide_eq_false_iff_not]
      exact ⟨fun e => h1 e.symm, fun e => h2 e.symm⟩
section
variable {X : Cx}
theorem op_dNotIn (hu : X.A.units + 1 < cLine) : OpR X (compareOp .NotIn) (fun x y H Q => ∃ a o, y = .ref a ∧ DGet H a x o ∧ Q (.bl (!o.isSome)) H) := by
  intro pins s σ H x y v u Q I rx ry h
  obtain ⟨a, o, rfl, g, q⟩ := h
  cases ry
  exact d_notIn hu I g rx fun s' I' => ⟨.bl _, H, I', rfl, q⟩
theorem op_notInA (hu : X.A.units + 1 < cLine) : OpR X (compareOp .NotIn) (fun x y H Q => (∃ a o, y = .ref a ∧ DGet H a x o ∧ Q (.bl (!o.isSome)) H) ∨ rIn X.K true x y H Q) := op_or (op_dNotIn hu) op_notIn_seq
end
section
variable {P : Program} {w : World} {K : PySem.W.Frag} {mg : Str → Option Value} {base : Heap}
def spRowsA (K : PySem.W.Frag) : Sp := fun vs H Q E => ∃ (v : V) (ds : List Dt) (e : Int) (sz tx hd : Addr) (nm : Str) (bs : List Box) (titles hands : List Str), vs = [v, .int e, .ref sz, .ref tx, .ref hd, .str nm] ∧ Dp K H v (.tuple ds) ∧ SizesE H sz bs ∧ KeysE H tx titles ∧ KeysE H hd hands ∧
  (ds.all (rowP bs titles hands nm e) = true → ∀ H', Same H H' → Q (.bl true) H') ∧ (ds.all (rowP bs titles hands nm e) = false → ∀ H', Same H H' → Q (.bl false) H' ∧ ∀ d, E (.type "KeyError") d H')
set_option maxHeartbeats 32000000 in
theorem ok_rowsA {f : Addr} {fd : FuncData} {k : Nat} (F : Fun K "are_rows" "are_rows" s_are_rows f fd) (DS : Def P w K mg base (L2.CX P w) (k + 1) "is_source" ["source", "size", "box", "sizes"] (spSourceA K)) (DW : Def P w K mg base CX0 (k + 1) "are_ways" ["thing", "end"] (spWaysA K))
    (mi : mg "isinstance" = none) (mt : mg "tuple" = none) (ms : mg "str" = none) (mn : mg "int" = none) (ml : mg "len" = none) : FnOk P w K mg base (L2.CX P w) (k + 1 + 1) f fd ["rows", "end", "sizes", "texts", "hands", "name"] (spRowsA K) := by
  refine F.okX scRows (fun vs H Q E h => ?_) (fun cdv A outer s H vs Q E hr h => ?_)
  · obtain ⟨v, ds, e, sz, tx, hd, nm, bs, titles, hands, rfl, _⟩ := h
    rfl
  obtain ⟨v, ds, e, sz, tx, hd, nm, bs, titles, hands, rfl, hv, hz, ht, hh, qy, qn⟩ := h
  have nd := scRows.nd
  have hu := hu_of hr
  refine ⟨_, pss_cons (ps_for (passes_of rfl) rfl (pi_tup (pv 0)) (pg_name (i := 6) nd rfl (.inl rfl))
      (pss_cons (ps_if (pt_not (pt_val (pe_callB call_isi (by rfl) mi PyProof.Rows.boot_isinstance (pa_cons (pv 6) (pa_cons (pe_bltn (by rfl) mt (u := .type "tuple") (by decide +kernel) (show RelV (.ty "tuple") (.type "tuple") from rfl)) pa_nil))))) (pss_one (ps_ret pe_bl)) pss_nil)
      (pss_cons (ps_set (i := 7) nd rfl (.inl rfl) (pe_callB call_len_seq (by rfl) ml PySem.boot_len (pa_cons (pv 6) pa_nil)))
      (pss_one (ps_if (pt_cmpR op_eq (pv 7) pe_int (nomark _))
        (pss_cons (ps_asg (pv 6) (pg_tup rfl (pgs_cons (pg_name (i := 8) nd rfl (.inl rfl)) (pgs_cons (pg_name (i := 9) nd rfl (.inl rfl)) (pgs_cons (pg_name (i := 10) nd rfl (.inl rfl)) pgs_nil)))))
        (pss_cons (ps_if (PW.pt (pw_or (pt_not (pt_val (pe_callB call_isi (by rfl) mi PyProof.Rows.boot_isinstance (pa_cons (pv 8) (pa_cons (pe_bltn (by rfl) ms (u := .type "str") (by decide +kernel) (show RelV (.ty "str") (.type "str") from rfl)) pa_nil)))))
            (pw_or1 (pt_not (pt_val (pe_callB call_isi (by rfl) mi PyProof.Rows.boot_isinstance (pa_cons (pv 9) (pa_cons (pe_bltn (by rfl) ms (u := .type "str") (by decide +kernel) (show RelV (.ty "str") (.type "str") from rfl)) pa_nil)))))))) (pss_one (ps_ret pe_bl)) pss_nil)
        (pss_one (ps_if (pt_cmpR op_eq (pv 8) pe_str (nomark _))
          (pss_one (ps_if (PW.pt (pw_or (pt_not (pt_val (pe_callB call_isi (by rfl) mi PyProof.Rows.boot_isinstance (pa_cons (pv 10) (pa_cons (pe_bltn (by rfl) mt (u := .type "tuple") (by decide +kernel) (show RelV (.ty "tuple") (.type "tuple") from rfl)) pa_nil)))))
            (pw_or1 (pt_not (pt_val (pe_callS DS.ok hr (by rfl) DS.g DS.kp DS.b (fun σ => passAt (takes_of rfl rfl rfl rfl) σ) (pa_cons (pv 10) (pa_cons (pe_dgetX rfl hu (takes_of rfl rfl rfl rfl) (pv 2) (pv 9) (fun _ _ => rfl)) (pa_cons (pv 9) (pa_cons (pv 2) pa_nil)))))))))) (pss_one (ps_ret pe_bl)) pss_nil))
          (pss_one (ps_if (PW.pt (pw_or (pt_cmpR op_ne (pv 8) pe_str (nomark _))
              (pw_or (pt_not (pt_val (pe_callB call_isi (by rfl) mi PyProof.Rows.boot_isinstance (pa_cons (pv 10) (pa_cons (pe_bltn (by rfl) mn (u := .type "int") (by decide +kernel) (show RelV (.ty "int") (.type "int") from rfl)) pa_nil)))))
              (pw_or1 (pt_not (pt_chain HX.op_leA HX.op_ltA pe_int (pv 10) (pe_dgetX rfl hu (takes_of rfl rfl rfl rfl) (pv 2) (pv 9) (fun _ _ => rfl))))))))
            (pss_one (ps_ret pe_bl))
            (pss_one (ps_if (PW.pt (pw_or (pt_cmpR HX.op_isA (pv 10) pe_bl (nomark _)) (pw_or1 (pt_cmpR HX.op_isA (pv 10) pe_bl (nomark _))))) (pss_one (ps_ret pe_bl)) pss_nil))))))))
        (pss_one (ps_if (pt_cmpR op_eq (pv 7) pe_int (nomark _))
          (pss_cons (ps_asg (pv 6) (pg_tup rfl (pgs_cons (pg_name (i := 8) nd rfl (.inl rfl)) (pgs_cons (pg_name (i := 10) nd rfl (.inl rfl)) pgs_nil))))
          (pss_cons (ps_if (pt_not (pt_val (pe_callB call_isi (by rfl) mi PyProof.Rows.boot_isinstance (pa_cons (pv 8) (pa_cons (pe_bltn (by rfl) ms (u := .type "str") (by decide +kernel) (show RelV (.ty "str") (.type "str") from rfl)) pa_nil))))) (pss_one (ps_ret pe_bl)) pss_nil)
          (pss_one (ps_if (pt_cmpR op_eq (pv 8) pe_str (nomark _))
            (pss_one (ps_if (pt_not (pt_val (pe_call DW.ok hr (by rfl) DW.g DW.kp DW.b .nil pass0 (pa_cons (pv 10) (pa_cons (pv 1) pa_nil))))) (pss_one (ps_ret pe_bl)) pss_nil))
            (pss_one (ps_if (pt_not (pt_val (pe_callB call_isi (by rfl) mi PyProof.Rows.boot_isinstance (pa_cons (pv 10) (pa_cons (pe_bltn (by rfl) ms (u := .type "str") (by decide +kernel) (show RelV (.ty "str") (.type "str") from rfl)) pa_nil))))) (pss_one (ps_ret pe_bl))
              (pss_one (ps_if (pt_cmpR (op_notInA hu) (pv 10) (pe_ifExp (pt_cmpR op_eq (pv 8) pe_str (nomark _)) (pv 3) (pe_ifExp (PW.pt (pw_and (pt_cmpR op_eq (pv 8) pe_str (nomark _)) (pw_and1 (pt_cmpR op_ne (pv 10) (pv 5) (nomark _))))) (pv 4) (pe_tup pa_nil))) (by rfl)) (pss_one (ps_ret pe_bl)) pss_nil))))))))
          (pss_one (ps_if (pt_cmpR op_eq (pv 7) pe_int (nomark _))
            (pss_cons (ps_asg (pv 6) (pg_tup rfl (pgs_cons (pg_name (i := 8) nd rfl (.inl rfl)) (pgs_cons (pg_name (i := 9) nd rfl (.inl rfl)) (pgs_cons (pg_name (i := 11) nd rfl (.inl rfl)) (pgs_cons (pg_name (i := 12) nd rfl (.inl rfl)) pgs_nil))))))
            (pss_cons (ps_if (PW.pt (pw_or (pt_not (pt_val (pe_callB call_isi (by rfl) mi PyProof.Rows.boot_isinstance (pa_cons (pv 8) (pa_cons (pe_bltn (by rfl) ms (u := .type "str") (by decide +kernel) (show RelV (.ty "str") (.type "str") from rfl)) pa_nil)))))
                (pw_or (pt_cmpR op_ne (pv 8) pe_str (nomark _))
                (pw_or1 (pt_not (pt_val (pe_callB call_isi (by rfl) mi PyProof.Rows.boot_isinstance (pa_cons (pv 9) (pa_cons (pe_bltn (by rfl) ms (u := .type "str") (by decide +kernel) (show RelV (.ty "str") (.type "str") from rfl)) pa_nil))))))))) (pss_one (ps_ret pe_bl)) pss_nil)
            (pss_cons (ps_if (PW.pt (pw_or (pt_not (pt_val (pe_callB call_isi (by rfl) mi PyProof.Rows.boot_isinstance (pa_cons (pv 11) (pa_cons (pe_bltn (by rfl) mn (u := .type "int") (by decide +kernel) (show RelV (.ty "int") (.type "int") from rfl)) pa_nil)))))
                (pw_or (pt_not (pt_chain HX.op_leA HX.op_ltA pe_int (pv 11) (pe_dgetX rfl hu (takes_of rfl rfl rfl rfl) (pv 2) (pv 9) (fun _ _ => rfl))))
                (pw_or (pt_cmpR HX.op_isA (pv 11) pe_bl (nomark _)) (pw_or1 (pt_cmpR HX.op_isA (pv 11) pe_bl (nomark _))))))) (pss_one (ps_ret pe_bl)) pss_nil)
            (pss_one (ps_if (PW.pt (pw_or (pt_not (pt_val (pe_callB call_isi (by rfl) mi PyProof.Rows.boot_isinstance (pa_cons (pv 12) (pa_cons (pe_bltn (by rfl) mn (u := .type "int") (by decide +kernel) (show RelV (.ty "int") (.type "int") from rfl)) pa_nil)))))
                (pw_or (pt_not (pt_chain HX.op_leA op_leBI pe_int (pv 12) (pv 1)))
                (pw_or (pt_cmpR HX.op_isA (pv 12) pe_bl (nomark _)) (pw_or1 (pt_cmpR HX.op_isA (pv 12) pe_bl (nomark _))))))) (pss_one (ps_ret pe_bl)) pss_nil)))))
            (pss_one (ps_if (PW.pt (pw_or (pt_cmpR op_ne (pv 7) pe_int (nomark _))
                (pw_or (pt_not (pt_val (pe_callB call_isi (by rfl) mi PyProof.Rows.boot_isinstance (pa_cons (pe_ix ix_tup (pv 6) pe_int (fun _ _ => rfl)) (pa_cons (pe_bltn (by rfl) ms (u := .type "str") (by decide +kernel) (show RelV (.ty "str") (.type "str") from rfl)) pa_nil)))))
                (pw_or1 (pt_cmpR op_notIn_seq (pe_ix ix_tup (pv 6) pe_int (fun _ _ => rfl)) (pe_tup (pa_cons pe_str (pa_cons pe_str pa_nil))) rfl))))) (pss_one (ps_ret pe_bl)) pss_nil)))))))))))
    (pss_one (ps_ret pe_bl)), ?_⟩
  obtain ⟨a, xs, rfl, hs, hall, hxl⟩ := small_of hv
  refine ⟨_, rfl, a, rfl, ⟨_, hs⟩, for_tup (xs := xs)
    (fun i σ H3 => ∃ y6 y7 y8 y9 y10 y11 y12, σ = [some (.ref a), some (.int e), some (.ref sz), some (.ref tx), some (.ref hd), some (.str nm), y6, y7, y8, y9, y10, y11, y12] ∧ Same H H3 ∧ (ds.take i).all (rowP bs titles hands nm e) = true)
    ⟨none, none, none, none, none, none, none, rfl, Same.refl _, rfl⟩ (fun i σ H3 _ hP => ?_) (fun i x σ H3 hx hP => ?_) (fun σ H3 hP => ?_)⟩
  · obtain ⟨_, _, _, _, _, _, _, _, sm, _⟩ := hP
    exact same_tup sm hs
  · obtain ⟨y6, y7, y8, y9, y10, y11, y12, rfl, sm, hpre⟩ := hP
    obtain ⟨e1, he, hx0⟩ := dpAll_get hall hx
    have hxd := dp_same sm _ _ hx0
    have hz3 := hz.same sm
    have ht3 := ht.same sm
    have hh3 := hh.same sm
    have hm := List.mem_of_getElem? he
    have bad : rowP bs titles hands nm e e1 = false → ds.all (rowP bs titles hands nm e) = false := fun z => by
      cases q : ds.all (rowP bs titles hands nm e) with
      | false => rfl
      | true =>
        rw [List.all_eq_true.mp q e1 hm] at z
        cases z
    have F : rowP bs titles hands nm e e1 = false → ∀ G, Same H3 G → Q (.bl false) G := fun z G s => (qn (bad z) G (sm.trans s)).1
    have F0 : rowP bs titles hands nm e e1 = false → Q (.bl false) H3 := fun z => F z H3 (Same.refl _)
    have FE : rowP bs titles hands nm e e1 = false → ∀ d, E (.type "KeyError") d H3 := fun z => (qn (bad z) H3 sm).2
    have good : rowP bs titles hands nm e e1 = true → (ds.take (i + 1)).all (rowP bs titles hands nm e) = true := fun z => by
      rw [List.take_succ, he, List.all_append, hpre]
      simp [z]
    by_cases het : isTup e1 = true
    rotate_left
    · refine ⟨_, rfl, _, _, _, _, _, rfl, .ty "tuple", dp_ty hxd, kit_tup K hxd, _, rfl, ?_⟩
      rw [show isTup e1 = false by simpa using het]
      refine iteT (F0 ?_)
      cases e1 with
      | tuple es => exact absurd rfl het
      | _ => rfl
    obtain ⟨es, rfl⟩ := isT_tup e1 het
    obtain ⟨c, ys, rfl, hc, hys, hyl⟩ := small_of hxd
    refine ⟨_, rfl, _, _, _, _, _, rfl, .ty "tuple", dp_ty hxd, kit_tup K hxd, _, rfl, iteF ⟨_, rfl, c, _, rfl, .inr hc, ?_⟩⟩
    by_cases l3 : es.length = 3
    · obtain ⟨d1, d2, d3, rfl⟩ := len3 l3
      cases hys with
      | @cons x1 _ _ _ h1 hys =>
      cases hys with
      | @cons x2 _ _ _ h2 hys =>
      cases hys with
      | @cons x3 _ _ _ h3 hys =>
      cases hys
      refine ⟨_, rfl, rfl, _, rfl, iteT ⟨_, rfl, c, _, rfl, hc, rfl, _, _, rfl, _, _, rfl, _, _, rfl, rfl, ?_⟩⟩
      by_cases s1 : isStr d1 = true
      rotate_left
      · refine ⟨_, rfl, _, _, _, _, _, rfl, .ty "str", dp_ty h1, kit_str K h1, _, rfl, ?_⟩
        rw [show isStr d1 = false by simpa using s1]
        refine iteT (iteT (F0 ?_))
        cases d1 with
        | str z => exact absurd rfl s1
        | _ => rfl
      obtain ⟨wd, rfl⟩ := isS_str d1 s1
      cases dp_str h1
      refine ⟨_, rfl, _, _, _, _, _, rfl, .ty "str", dp_ty h1, kit_str K h1, _, rfl, iteF ?_⟩
      by_cases s2 : isStr d2 = true
      rotate_left
      · refine ⟨_, rfl, _, _, _, _, _, rfl, .ty "str", dp_ty h2, kit_str K h2, _, rfl, ?_⟩
        rw [show isStr d2 = false by simpa using s2]
        refine iteT (F0 ?_)
        cases d2 with
        | str z => exact absurd rfl s2
        | _ => rfl
      obtain ⟨b, rfl⟩ := isS_str d2 s2
      cases dp_str h2
      have er : rowP bs titles hands nm e (.tuple [.str wd, .str b, d3]) = row3 bs wd b d3 := rfl
      rw [er] at F F0 FE good
      refine ⟨_, rfl, _, _, _, _, _, rfl, .ty "str", dp_ty h2, kit_str K h2, _, rfl, iteF ⟨_, rfl, rfl, _, rfl, ?_⟩⟩
      by_cases ew : wd = "set"
      · rw [show decide (V.str wd = V.str "set") = true from decide_eq_true (congrArg V.str ew)]
        refine iteT ?_
        by_cases t3 : isTup d3 = true
        rotate_left
        · refine ⟨_, rfl, _, _, _, _, _, rfl, .ty "tuple", dp_ty h3, kit_tup K h3, _, rfl, ?_⟩
          rw [show isTup d3 = false by simpa using t3]
          refine iteT (iteT (F0 ?_))
          cases d3 with
          | tuple es => exact absurd rfl t3
          | int v => show (!decide (wd = "set") && _) = false; rw [decide_eq_true ew]; rfl
          | _ => rfl
        obtain ⟨ss, rfl⟩ := isT_tup d3 t3
        have er3 := row3_set (bs := bs) (b := b) ss ew
        rw [er3] at F F0 FE good
        refine ⟨_, rfl, _, _, _, _, _, rfl, .ty "tuple", dp_ty h3, kit_tup K h3, _, rfl, iteF ?_⟩
        refine ⟨_, rfl, _, rfl, _, rfl, sz, _, rfl, hz3.get b, fun v1 hv1 => ?_, fun hn d => ?_⟩
        · obtain ⟨m, hm2, rfl⟩ := Option.map_eq_some_iff.mp hv1
          rw [row3s_some hm2] at F F0 FE good
          refine ⟨_, rfl, _, rfl, x3, ss, bs, b, m, sz, rfl, h3, hz3, fun sy => ⟨_, rfl, iteF ?_⟩, fun sn => ⟨⟨_, rfl, iteT (F0 sn)⟩, fun d => FE sn d⟩⟩
          exact ⟨_, _, _, _, _, _, _, rfl, sm, good sy⟩
        · have hm2 : size? bs b = none := Option.map_eq_none_iff.mp hn
          exact FE (row3s_none hm2) d
      · rw [ne_st ew]
        have er3 := row3_no (bs := bs) (b := b) d3 ew
        rw [er3] at F F0 FE good
        refine iteF ⟨_, rfl, rfl, _, rfl, ?_⟩
        by_cases ew2 : wd = "wait"
        rotate_left
        · rw [ne_st ew2]
          refine iteT (iteT (F0 ?_))
          cases d3 with
          | int v => show (decide (wd = "wait") && inSize bs b v) = false; rw [decide_eq_false ew2]; rfl
          | _ => rfl
        rw [show decide (V.str wd = V.str "wait") = true from decide_eq_true (congrArg V.str ew2)]
        refine iteF ⟨_, rfl, _, _, _, _, _, rfl, .ty "int", dp_ty h3, kit_int K h3, _, rfl, ?_⟩
        cases h3 with
        | int v =>
          have e4 : row3w bs wd b (.int v) = inSize bs b v := by
            show (decide (wd = "wait") && inSize bs b v) = _
            rw [decide_eq_true ew2, Bool.true_and]
          rw [e4] at F F0 FE good
          refine iteF ⟨_, rfl, .inl ⟨_, _, rfl, rfl, _, rfl, ?_⟩⟩
          cases q1 : decide (0 ≤ v) with
          | false => exact iteF ⟨_, rfl, iteT (F0 (inSize_neg q1))⟩
          | true =>
            refine iteT ⟨_, rfl, _, rfl, sz, _, rfl, hz3.get b, fun v1 hv1 => ?_, fun hn d => ?_⟩
            · obtain ⟨m, hm2, rfl⟩ := Option.map_eq_some_iff.mp hv1
              rw [inSize_some hm2] at F F0 FE good
              refine .inl ⟨_, _, rfl, rfl, _, rfl, ?_⟩
              cases q2 : decide (v < m) with
              | false => exact iteT (F0 (by show (decide (0 ≤ v) && decide (v < m)) = false; rw [q1, q2]; rfl))
              | true =>
                refine iteF ⟨_, rfl, .inl ⟨_, _, rfl, rfl, _, rfl, iteF ⟨_, rfl, .inl ⟨_, _, rfl, rfl, _, rfl, iteF ?_⟩⟩⟩⟩
                exact ⟨_, _, _, _, _, _, _, rfl, sm, good (by show (decide (0 ≤ v) && decide (v < m)) = true; rw [q1, q2]; rfl)⟩
            · have hm2 : size? bs b = none := Option.map_eq_none_iff.mp hn
              exact FE (inSize_none hm2) d
        | bl v =>
          have nb : row3w bs wd b (.bool v) = false := rfl
          refine iteF ⟨_, rfl, .inr ⟨_, _, rfl, rfl, _, rfl, ?_⟩⟩
          cases q1 : decide ((0 : Int) ≤ (if v = true then (1 : Int) else 0)) with
          | false => exact iteF ⟨_, rfl, iteT (F0 nb)⟩
          | true =>
            refine iteT ⟨_, rfl, _, rfl, sz, _, rfl, hz3.get b, fun v1 hv1 => ?_, fun hn d => FE nb d⟩
            obtain ⟨m, hm2, rfl⟩ := Option.map_eq_some_iff.mp hv1
            refine .inr ⟨_, _, rfl, rfl, _, rfl, ?_⟩
            cases q2 : decide ((if v = true then (1 : Int) else 0) < m) with
            | false => exact iteT (F0 nb)
            | true =>
              refine iteF ⟨_, rfl, .inr ⟨_, _, rfl, rfl, _, rfl, ?_⟩⟩
              cases v with
              | true => exact iteT (iteT (F0 nb))
              | false => exact iteF ⟨_, rfl, .inr ⟨_, _, rfl, rfl, _, rfl, iteT (F0 nb)⟩⟩
        | _ => exact iteT (iteT (F0 rfl))
    refine ⟨_, rfl, rfl, _, rfl, ?_⟩
    rw [ne_int (show (ys.length : Int) ≠ 3 by omega)]
    refine iteF ⟨_, rfl, rfl, _, rfl, ?_⟩
    by_cases l2 : es.length = 2
    · rw [eq_int (show (ys.length : Int) = 2 by omega)]
      obtain ⟨d1, d2, rfl⟩ := len2 l2
      cases hys with
      | @cons x1 _ _ _ h1 hys =>
      cases hys with
      | @cons x2 _ _ _ h2 hys =>
      cases hys
      refine iteT ⟨_, rfl, c, _, rfl, hc, rfl, _, _, rfl, _, _, rfl, rfl, ?_⟩
      by_cases s1 : isStr d1 = true
      rotate_left
      · refine ⟨_, rfl, _, _, _, _, _, rfl, .ty "str", dp_ty h1, kit_str K h1, _, rfl, ?_⟩
        rw [show isStr d1 = false by simpa using s1]
        refine iteT (F0 ?_)
        cases d1 with
        | str z => exact absurd rfl s1
        | _ => rfl
      obtain ⟨wd, rfl⟩ := isS_str d1 s1
      cases dp_str h1
      have er : rowP bs titles hands nm e (.tuple [.str wd, d2]) = row2 titles hands nm e wd d2 := rfl
      rw [er] at F F0 FE good
      refine ⟨_, rfl, _, _, _, _, _, rfl, .ty "str", dp_ty h1, kit_str K h1, _, rfl, iteF ⟨_, rfl, rfl, _, rfl, ?_⟩⟩
      by_cases ew : wd = "go"
      · have er2 : row2 titles hands nm e wd d2 = waysP e d2 := if_pos ew
        rw [er2] at F F0 FE good
        rw [show decide (V.str wd = V.str "go") = true from decide_eq_true (congrArg V.str ew)]
        refine iteT ⟨_, rfl, _, rfl, x2, d2, e, rfl, h2, ?_⟩
        cases q1 : waysP e d2 with
        | false => exact ⟨_, rfl, iteT (F0 q1)⟩
        | true => exact ⟨_, rfl, iteF ⟨_, _, _, _, _, _, _, rfl, sm, good q1⟩⟩
      · have er2 := row2_no (titles := titles) (hands := hands) (me := nm) (e := e) d2 ew
        rw [er2] at F F0 FE good
        rw [ne_st ew]
        refine iteF ⟨_, rfl, _, _, _, _, _, rfl, .ty "str", dp_ty h2, kit_str K h2, _, rfl, ?_⟩
        by_cases s2 : isStr d2 = true
        rotate_left
        · rw [show isStr d2 = false by simpa using s2]
          refine iteT (F0 ?_)
          cases d2 with
          | str z => exact absurd rfl s2
          | _ => rfl
        obtain ⟨t, rfl⟩ := isS_str d2 s2
        cases dp_str h2
        have e2t : row2s titles hands nm wd (.str t) = (if wd = "call" then decide (t ∈ titles) else decide (wd = "begin") && (!decide (t = nm) && decide (t ∈ hands))) := rfl
        rw [e2t] at F good
        refine iteF ⟨_, rfl, _, rfl, rfl, _, rfl, ?_⟩
        by_cases ew2 : wd = "call"
        · rw [if_pos ew2] at F good
          rw [show decide (V.str wd = V.str "call") = true from decide_eq_true (congrArg V.str ew2)]
          obtain ⟨r, hr1, hr2⟩ := ht3.get t
          refine iteT ⟨_, rfl, .inl ⟨tx, r, rfl, hr1, _, rfl, ?_⟩⟩
          rw [hr2]
          cases q1 : decide (t ∈ titles) with
          | false => exact iteT (F q1 _ (Same.refl _))
          | true => exact iteF ⟨_, _, _, _, _, _, _, rfl, sm, good q1⟩
        · rw [if_neg ew2] at F good
          rw [ne_st ew2]
          refine iteF ⟨_, rfl, rfl, _, rfl, ?_⟩
          by_cases ew3 : wd = "begin"
          · rw [show decide (V.str wd = V.str "begin") = true from decide_eq_true (congrArg V.str ew3)]
            rw [decide_eq_true ew3, Bool.true_and] at F good
            refine iteT ⟨_, rfl, _, rfl, rfl, _, rfl, ?_⟩
            by_cases en : t = nm
            · rw [show decide (V.str t = V.str nm) = true from decide_eq_true (congrArg V.str en)]
              rw [decide_eq_true en] at F
              refine iteF ⟨Nat.zero_le _, fun t0 nt0 => .inr ⟨t0, [], rfl, .inr (SqT.of upd_same), rfl, rfl, _, rfl, iteT (F rfl _ (same_new nt0))⟩⟩
            · rw [ne_st en]
              rw [decide_eq_false en] at F good
              obtain ⟨r, hr1, hr2⟩ := hh3.get t
              refine iteT ⟨_, rfl, .inl ⟨hd, r, rfl, hr1, _, rfl, ?_⟩⟩
              rw [hr2]
              cases q1 : decide (t ∈ hands) with
              | false => exact iteT (F (by rw [q1]; rfl) _ (Same.refl _))
              | true => exact iteF ⟨_, _, _, _, _, _, _, rfl, sm, good (by rw [q1]; rfl)⟩
          · rw [ne_st ew3]
            rw [decide_eq_false ew3] at F
            refine iteF (iteF ⟨Nat.zero_le _, fun t0 nt0 => .inr ⟨t0, [], rfl, .inr (SqT.of upd_same), rfl, rfl, _, rfl, iteT (F rfl _ (same_new nt0))⟩⟩)
    rw [ne_int (show (ys.length : Int) ≠ 2 by omega)]
    refine iteF ⟨_, rfl, rfl, _, rfl, ?_⟩
    by_cases l4 : es.length = 4
    · rw [eq_int (show (ys.length : Int) = 4 by omega)]
      obtain ⟨d1, d2, d3, d4, rfl⟩ := len4 l4
      cases hys with
      | @cons x1 _ _ _ h1 hys =>
      cases hys with
      | @cons x2 _ _ _ h2 hys =>
      cases hys with
      | @cons x3 _ _ _ h3 hys =>
      cases hys with
      | @cons x4 _ _ _ h4 hys =>
      cases hys
      refine iteT ⟨_, rfl, c, _, rfl, hc, rfl, _, _, rfl, _, _, rfl, _, _, rfl, _, _, rfl, rfl, ?_⟩
      by_cases s1 : isStr d1 = true
      rotate_left
      · refine ⟨_, rfl, _, _, _, _, _, rfl, .ty "str", dp_ty h1, kit_str K h1, _, rfl, ?_⟩
        rw [show isStr d1 = false by simpa using s1]
        refine iteT (iteT (F0 ?_))
        cases d1 with
        | str z => exact absurd rfl s1
        | _ => rfl
      obtain ⟨wd, rfl⟩ := isS_str d1 s1
      cases dp_str h1
      refine ⟨_, rfl, _, _, _, _, _, rfl, .ty "str", dp_ty h1, kit_str K h1, _, rfl, iteF ⟨_, rfl, rfl, _, rfl, ?_⟩⟩
      by_cases ew : wd = "if"
      rotate_left
      · rw [ne_st ew]
        refine iteT (iteT (F0 ?_))
        cases d2 with
        | str b =>
          show row4 bs e wd b d3 d4 = false
          cases d3 with
          | int v =>
            cases d4 with
            | int y => show (decide (wd = "if") && _) = false; rw [decide_eq_false ew]; rfl
            | _ => rfl
          | _ => rfl
        | _ => rfl
      rw [show decide (V.str wd = V.str "if") = true from decide_eq_true (congrArg V.str ew)]
      refine iteF ?_
      by_cases s2 : isStr d2 = true
      rotate_left
      · refine ⟨_, rfl, _, _, _, _, _, rfl, .ty "str", dp_ty h2, kit_str K h2, _, rfl, ?_⟩
        rw [show isStr d2 = false by simpa using s2]
        refine iteT (F0 ?_)
        cases d2 with
        | str z => exact absurd rfl s2
        | _ => rfl
      obtain ⟨b, rfl⟩ := isS_str d2 s2
      cases dp_str h2
      have er : rowP bs titles hands nm e (.tuple [.str wd, .str b, d3, d4]) = row4 bs e wd b d3 d4 := rfl
      rw [er] at F F0 FE good
      refine ⟨_, rfl, _, _, _, _, _, rfl, .ty "str", dp_ty h2, kit_str K h2, _, rfl, iteF ⟨_, rfl, _, _, _, _, _, rfl, .ty "int", dp_ty h3, kit_int K h3, _, rfl, ?_⟩⟩
      cases h3 with
      | int v =>
        refine iteF ⟨_, rfl, .inl ⟨_, _, rfl, rfl, _, rfl, ?_⟩⟩
        have n1 : inSize bs b v = false → row4 bs e wd b (.int v) d4 = false := fun z => by
          cases d4 with
          | int y => show (decide (wd = "if") && (inSize bs b v && _)) = false; rw [z]; simp
          | _ => rfl
        cases q1 : decide (0 ≤ v) with
        | false => exact iteF ⟨_, rfl, iteT (iteT (F0 (n1 (inSize_neg q1))))⟩
        | true =>
          refine iteT ⟨_, rfl, _, rfl, sz, _, rfl, hz3.get b, fun v1 hv1 => ?_, fun hn d => ?_⟩
          · obtain ⟨m, hm2, rfl⟩ := Option.map_eq_some_iff.mp hv1
            refine .inl ⟨_, _, rfl, rfl, _, rfl, ?_⟩
            cases q2 : decide (v < m) with
            | false => exact iteT (iteT (F0 (n1 (by rw [inSize_some hm2, q1, q2]; rfl))))
            | true =>
              have y1 : inSize bs b v = true := by
                rw [inSize_some hm2, q1, q2]
                rfl
              refine iteF ⟨_, rfl, .inl ⟨_, _, rfl, rfl, _, rfl, iteF ⟨_, rfl, .inl ⟨_, _, rfl, rfl, _, rfl, iteF ?_⟩⟩⟩⟩
              refine ⟨_, rfl, _, _, _, _, _, rfl, .ty "int", dp_ty h4, kit_int K h4, _, rfl, ?_⟩
              cases h4 with
              | int y =>
                have er4 : row4 bs e wd b (.int v) (.int y) = (decide (0 ≤ y) && decide (y ≤ e)) := by
                  show (decide (wd = "if") && (inSize bs b v && _)) = _
                  rw [decide_eq_true ew, y1, Bool.true_and, Bool.true_and]
                rw [er4] at F F0 FE good
                refine iteF ⟨_, rfl, .inl ⟨_, _, rfl, rfl, _, rfl, ?_⟩⟩
                cases p1 : decide (0 ≤ y) with
                | false => exact iteF ⟨_, rfl, iteT (iteT (F0 (by rw [p1]; rfl)))⟩
                | true =>
                  refine iteT ⟨_, rfl, .inl ⟨_, _, rfl, rfl, _, rfl, ?_⟩⟩
                  cases p2 : decide (y ≤ e) with
                  | false => exact iteT (iteT (F0 (by rw [p1, p2]; rfl)))
                  | true =>
                    refine iteF ⟨_, rfl, .inl ⟨_, _, rfl, rfl, _, rfl, iteF ⟨_, rfl, .inl ⟨_, _, rfl, rfl, _, rfl, iteF ?_⟩⟩⟩⟩
                    exact ⟨_, _, _, _, _, _, _, rfl, sm, good (by rw [p1, p2]; rfl)⟩
              | bl y =>
                refine iteF ⟨_, rfl, .inr ⟨_, _, rfl, rfl, _, rfl, ?_⟩⟩
                cases p1 : decide ((0 : Int) ≤ (if y = true then (1 : Int) else 0)) with
                | false => exact iteF ⟨_, rfl, iteT (iteT (F0 rfl))⟩
                | true =>
                  refine iteT ⟨_, rfl, .inr ⟨_, _, rfl, rfl, _, rfl, ?_⟩⟩
                  cases p2 : decide ((if y = true then (1 : Int) else 0) ≤ e) with
                  | false => exact iteT (iteT (F0 rfl))
                  | true =>
                    refine iteF ⟨_, rfl, .inr ⟨_, _, rfl, rfl, _, rfl, ?_⟩⟩
                    cases y with
                    | true => exact iteT (iteT (F0 rfl))
                    | false => exact iteF ⟨_, rfl, .inr ⟨_, _, rfl, rfl, _, rfl, iteT (F0 rfl)⟩⟩
              | _ => exact iteT (iteT (F0 rfl))
          · have hm2 : size? bs b = none := Option.map_eq_none_iff.mp hn
            exact FE (n1 (inSize_none hm2)) d
      | bl v =>
        have nb : row4 bs e wd b (.bool v) d4 = false := rfl
        refine iteF ⟨_, rfl, .inr ⟨_, _, rfl, rfl, _, rfl, ?_⟩⟩
        cases q1 : decide ((0 : Int) ≤ (if v = true then (1 : Int) else 0)) with
        | false => exact iteF ⟨_, rfl, iteT (iteT (F0 nb))⟩
        | true =>
          refine iteT ⟨_, rfl, _, rfl, sz, _, rfl, hz3.get b, fun v1 hv1 => ?_, fun hn d => FE nb d⟩
          obtain ⟨m, hm2, rfl⟩ := Option.map_eq_some_iff.mp hv1
          refine .inr ⟨_, _, rfl, rfl, _, rfl, ?_⟩
          cases q2 : decide ((if v = true then (1 : Int) else 0) < m) with
          | false => exact iteT (iteT (F0 nb))
          | true =>
            refine iteF ⟨_, rfl, .inr ⟨_, _, rfl, rfl, _, rfl, ?_⟩⟩
            cases v with
            | true => exact iteT (iteT (F0 nb))
            | false => exact iteF ⟨_, rfl, .inr ⟨_, _, rfl, rfl, _, rfl, iteT (F0 nb)⟩⟩
      | _ => exact iteT (iteT (F0 rfl))
    rw [ne_int (show (ys.length : Int) ≠ 4 by omega)]
    refine iteF ⟨_, rfl, rfl, _, rfl, ?_⟩
    by_cases l1 : es.length = 1
    rotate_left
    · rw [ne_int (show (ys.length : Int) ≠ 1 by omega)]
      refine iteT (iteT (F0 ?_))
      unfold rowP
      split
      · rename_i heq; cases heq; exact absurd rfl l1
      · rename_i heq; cases heq; exact absurd rfl l2
      · rename_i heq; cases heq; exact absurd rfl l3
      · rename_i heq; cases heq; exact absurd rfl l4
      · rfl
    rw [eq_int (show (ys.length : Int) = 1 by omega)]
    obtain ⟨d1, rfl⟩ := len1 l1
    cases hys with
    | @cons x1 _ _ _ h1 hys =>
    cases hys
    refine iteF ⟨_, rfl, c, _, 0, _, rfl, rfl, hc, atI_nat (j := 0) rfl, _, _, _, _, _, rfl, .ty "str", dp_ty h1, kit_str K h1, _, rfl, ?_⟩
    by_cases s1 : isStr d1 = true
    rotate_left
    · rw [show isStr d1 = false by simpa using s1]
      refine iteT (iteT (F0 ?_))
      cases d1 with
      | str z => exact absurd rfl s1
      | _ => rfl
    obtain ⟨wd, rfl⟩ := isS_str d1 s1
    cases dp_str h1
    have er : rowP bs titles hands nm e (.tuple [.str wd]) = (decide (wd = "back") || decide (wd = "fault")) := rfl
    rw [er] at F good
    rw [show isStr (PyData.str wd) = true from rfl]
    refine iteF ⟨_, rfl, c, _, 0, _, rfl, rfl, hc, atI_nat (j := 0) rfl, lz2', fun t0 nt0 => ⟨t0, _, rfl, .inr (SqT.of upd_same), rfl, rfl, _, rfl, ?_⟩⟩
    rw [if_pos rfl, row1_in]
    cases q1 : (decide (wd = "back") || decide (wd = "fault")) with
    | false => exact iteT (F q1 _ (same_new nt0))
    | true => exact iteF ⟨_, _, _, _, _, _, _, rfl, sm.trans (same_new nt0), good q1⟩
  · obtain ⟨y6, y7, y8, y9, y10, y11, y12, rfl, sm, hpre⟩ := hP
    rw [hxl, List.take_length] at hpre
    exact qy hpre H3 sm
end
end PP

set_option maxHeartbeats 4000000
namespace PP
open PySem PySem.Spec PyProof.Rows L2 G3 M0 PA EE QA
/-! ### hands, of any data -/
abbrev TxD := Str × List Dt
structure HnD where
  nm : Str
  own : List Box
  ts : List TxD
def textP (seen : List Str) : Dt → Option TxD
  | .tuple [.str z, .tuple rs] => if nameB z && (!decide (z ∈ seen) && (decide (1 ≤ rs.length) && decide (rs.length ≤ 2000))) then some (z, rs) else none
  | _ => none
def preT (tl : List TxD) : List TxD ⊕ Nat → List TxD ⊕ Nat
  | .inl l => .inl (tl ++ l)
  | .inr j => .inr j
def scanT : List Str → Nat → List Dt → List TxD ⊕ Nat
  | _, _, [] => .inl []
  | seen, i, d :: r => match textP seen d with
    | some t => preT [t] (scanT (seen ++ [t.1]) (i + 1) r)
    | none => .inr i
def handP (bs : List Box) (seen : List Str) : Dt → HnD ⊕ Option Nat
  | .tuple [.str z, o, .tuple ts] => if nameB z && (!decide (z ∈ seen) && (decide (1 ≤ ts.length) && decide (ts.length ≤ 32))) then
      (match boxesP 24 8 (bs.map (·.1)) o with
        | some own => (match scanT [] 0 ts with | .inl l => .inl ⟨z, own, l⟩ | .inr j => .inr (some j))
        | none => .inr none) else .inr none
  | _ => .inr none
def preH (hl : List HnD) : List HnD ⊕ (Nat × Option Nat) → List HnD ⊕ (Nat × Option Nat)
  | .inl l => .inl (hl ++ l)
  | .inr j => .inr j
def scanH (bs : List Box) : List Str → Nat → List Dt → List HnD ⊕ (Nat × Option Nat)
  | _, _, [] => .inl []
  | seen, i, d :: r => match handP bs seen d with
    | .inl h => preH [h] (scanH bs (seen ++ [h.nm]) (i + 1) r)
    | .inr j => .inr (i, j)
theorem scanT_no {seen : List Str} {i : Nat} {d : Dt} {r : List Dt} (h : textP seen d = none) : scanT seen i (d :: r) = .inr i := by
  show (match textP seen d with | some t => _ | none => _) = _
  rw [h]
theorem scanT_yes {seen : List Str} {i : Nat} {d : Dt} {r : List Dt} {t : TxD} (h : textP seen d = some t) : scanT seen i (d :: r) = preT [t] (scanT (seen ++ [t.1]) (i + 1) r) := by
  show (match textP seen d with | some t => _ | none => _) = _
  rw [h]
theorem preT_app (a b : List TxD) (r : List TxD ⊕ Nat) : preT a (preT b r) = preT (a ++ b) r := by
  cases r with
  | inl l => show Sum.inl (a ++ (b ++ l)) = Sum.inl ((a ++ b) ++ l); rw [List.append_assoc]
  | inr j => rfl
theorem scanH_no {bs : List Box} {seen : List Str} {i : Nat} {d : Dt} {r : List Dt} {j : Option Nat} (h : handP bs seen d = .inr j) : scanH bs seen i (d :: r) = .inr (i, j) := by
  show (match handP bs seen d with | .inl h => _ | .inr j => _) = _
  rw [h]
theorem scanH_yes {bs : List Box} {seen : List Str} {i : Nat} {d : Dt} {r : List Dt} {h : HnD} (e : handP bs seen d = .inl h) : scanH bs seen i (d :: r) = preH [h] (scanH bs (seen ++ [h.nm]) (i + 1) r) := by
  show (match handP bs seen d with | .inl h => _ | .inr j => _) = _
  rw [e]
theorem preH_app (a b : List HnD) (r : List HnD ⊕ (Nat × Option Nat)) : preH a (preH b r) = preH (a ++ b) r := by
  cases r with
  | inl l => show Sum.inl (a ++ (b ++ l)) = Sum.inl ((a ++ b) ++ l); rw [List.append_assoc]
  | inr j => rfl
theorem preH_nil (r : List HnD ⊕ (Nat × Option Nat)) : preH [] r = r := by cases r <;> rfl
theorem preT_nil (r : List TxD ⊕ Nat) : preT [] r = r := by cases r <;> rfl
def headB (seen : List Str) (z : Str) (ts : List Dt) : Bool := nameB z && (!decide (z ∈ seen) && (decide (1 ≤ ts.length) && decide (ts.length ≤ 32)))
theorem hand_no {bs : List Box} {seen : List Str} {z : Str} {o : Dt} {ts : List Dt} (h : headB seen z ts = false) : handP bs seen (.tuple [.str z, o, .tuple ts]) = .inr none := by
  show (if headB seen z ts then _ else _) = _
  rw [h]
  rfl
theorem hand_box {bs : List Box} {seen : List Str} {z : Str} {o : Dt} {ts : List Dt} (h : headB seen z ts = true) (b : boxesP 24 8 (bs.map (·.1)) o = none) : handP bs seen (.tuple [.str z, o, .tuple ts]) = .inr none := by
  show (if headB seen z ts then (match boxesP 24 8 (bs.map (·.1)) o with | some own => _ | none => _) else _) = _
  rw [h, b]
  rfl
theorem hand_txt {bs : List Box} {seen : List Str} {z : Str} {o : Dt} {ts : List Dt} {own : List Box} {j : Nat} (h : headB seen z ts = true) (b : boxesP 24 8 (bs.map (·.1)) o = some own) (t : scanT [] 0 ts = .inr j) : handP bs seen (.tuple [.str z, o, .tuple ts]) = .inr (some j) := by
  show (if headB seen z ts then (match boxesP 24 8 (bs.map (·.1)) o with | some own => (match scanT [] 0 ts with | .inl l => _ | .inr j => _) | none => _) else _) = _
  rw [h, b]
  show (match scanT [] 0 ts with | .inl l => _ | .inr j => _) = _
  rw [t]
theorem hand_yes {bs : List Box} {seen : List Str} {z : Str} {o : Dt} {ts : List Dt} {own : List Box} {l : List TxD} (h : headB seen z ts = true) (b : boxesP 24 8 (bs.map (·.1)) o = some own) (t : scanT [] 0 ts = .inl l) : handP bs seen (.tuple [.str z, o, .tuple ts]) = .inl ⟨z, own, l⟩ := by
  show (if headB seen z ts then (match boxesP 24 8 (bs.map (·.1)) o with | some own => (match scanT [] 0 ts with | .inl l => _ | .inr j => _) | none => _) else _) = _
  rw [h, b]
  show (match scanT [] 0 ts with | .inl l => _ | .inr j => _) = _
  rw [t]
def oV : Option Nat → V
  | none => .non
  | some j => .int j
/-- names as keys -/
def KeyN (kvs : List (Key × V)) (ns : List Str) : Prop := ∀ z, (valV kvs (Sum.inr z)).isSome = decide (z ∈ ns)
theorem KeyN.snoc {kvs : List (Key × V)} {ns : List Str} (h : KeyN kvs ns) (z : Str) (v : V) : KeyN (kvs ++ [(Sum.inr z, v)]) (ns ++ [z]) := fun y => by
  rw [← valV_any, List.any_append, valV_any, h y, Bool.eq_iff_iff, Bool.or_eq_true, decide_eq_true_eq, decide_eq_true_eq, List.mem_append, List.any_cons, List.any_nil, Bool.or_false, decide_eq_true_eq, List.mem_singleton]
  exact ⟨fun q => q.elim .inl fun q => .inr (Sum.inr.inj q).symm, fun q => q.elim .inl fun q => .inr (congrArg _ q.symm)⟩
theorem KeyN.none {kvs : List (Key × V)} {ns : List Str} (h : KeyN kvs ns) {z : Str} (n : ¬ z ∈ ns) : valV kvs (Sum.inr z) = .none := by
  have := h z
  rw [decide_eq_false n] at this
  exact Option.isNone_iff_eq_none.mp (by rw [← Option.not_isSome, this]; rfl)
/-- a dict of texts -/
def TxAt (K : PySem.W.Frag) (B : Hp) (kvx : List (Key × V)) (ts : List TxD) : Prop := kvx.length = ts.length ∧ KeyN kvx (ts.map (·.1)) ∧ ∀ (j : Nat) (t : TxD), ts[j]? = some t → ∃ v, kvx[j]? = some (Sum.inr t.1, v) ∧ Dp K B v (.tuple t.2)
theorem TxAt.snoc {K : PySem.W.Frag} {B : Hp} {kvx : List (Key × V)} {ts : List TxD} (h : TxAt K B kvx ts) {t : TxD} {v : V} (d : Dp K B v (.tuple t.2)) : TxAt K B (kvx ++ [(Sum.inr t.1, v)]) (ts ++ [t]) := by
  obtain ⟨a, b, c⟩ := h
  refine ⟨by rw [List.length_append, List.length_append, a]; rfl, ?_, fun j t' hj => ?_⟩
  · rw [List.map_append]
    exact b.snoc t.1 v
  · rcases Nat.lt_or_ge j ts.length with z | z
    · rw [List.getElem?_append_left z] at hj
      rw [List.getElem?_append_left (by omega)]
      exact c j t' hj
    · rw [List.getElem?_append_right z] at hj
      rw [List.getElem?_append_right (by omega)]
      have z2 : j - ts.length = 0 := by
        rcases Nat.eq_zero_or_pos (j - ts.length) with q | q
        · exact q
        · rw [List.getElem?_eq_none (by simp; omega)] at hj
          cases hj
      rw [z2] at hj
      cases hj
      exact ⟨v, by rw [a, z2]; rfl, d⟩
/-- a hand's entry -/
def HatD (K : PySem.W.Frag) (B H : Hp) (sc : Addr) (bs : List Box) (h : HnD) (e : Key × V) : Prop :=
  ∃ t z x kvx, e = (Sum.inr h.nm, .ref t) ∧ H t = some (.tup [.ref z, .ref x]) ∧ H z = some (.dK ((bs ++ h.own).map boxK)) ∧ H x = some (.dK kvx) ∧ z ≠ sc ∧ x ≠ sc ∧ x ≠ z ∧ B x = none ∧ B z = none ∧ TxAt K B kvx h.ts
def ScD (K : PySem.W.Frag) (B H : Hp) (sc : Addr) (bs : List Box) (hs : List HnD) (kvs : List (Key × V)) : Prop :=
  H sc = some (.dK kvs) ∧ kvs.length = hs.length ∧ KeyN kvs (hs.map (·.nm)) ∧ ∀ (j : Nat) (h : HnD), hs[j]? = some h → ∃ e, kvs[j]? = some e ∧ HatD K B H sc bs h e
theorem HatD.keep {K : PySem.W.Frag} {B H H' : Hp} {sc : Addr} {bs : List Box} {h : HnD} {e : Key × V} (a : HatD K B H sc bs h e) (k : ∀ b o, b ≠ sc → H b = some o → H' b = some o) (st : ∀ xs, H sc ≠ some (.tup xs)) : HatD K B H' sc bs h e := by
  obtain ⟨t, z, x, kvx, e1, e2, e3, e4, e5, e6, e7, e8, e9, e10⟩ := a
  exact ⟨t, z, x, kvx, e1, k _ _ (fun q => st _ (q ▸ e2)) e2, k _ _ e5 e3, k _ _ e6 e4, e5, e6, e7, e8, e9, e10⟩
section
variable {P : Program} {w : World} {K : PySem.W.Frag} {mg : Str → Option Value} {base : Heap}
def spScopesA (K : PySem.W.Frag) (C : Addr) : Sp := fun vs H Q E => ∃ (cA : Addr) (v : V) (bs : List Box) (ds : List Dt), vs = [.ref cA, v] ∧ H cA = some (.dK (bs.map boxK)) ∧ bs.length ≤ 8 ∧ Dp K H v (.tuple ds) ∧ SL (.tuple ds) ∧ ds.length ≤ 4 ∧
  (∀ hs, scanH bs [] 0 ds = .inl hs → ∀ H' sc kvs, Same H H' → H sc = none → ScD K H H' sc bs hs kvs → Q (.ref sc) H') ∧
  (∀ i j, scanH bs [] 0 ds = .inr (i, j) → ∀ dd H', H dd = none → Same H H' → H' dd = some (.xd (E9.names ["hand", "text", "row"] [.int (i : Nat), oV j, .non])) → E (.ref C) (some dd) H')
set_option maxHeartbeats 32000000 in
theorem ok_scopesA {f : Addr} {fd : FuncData} {k : Nat} {t8 t24 t9 t32 t2k : Tok} (F : Fun K "scopes_of" "scopes_of" s_scopes_of f fd) (S : Err P w K mg base "NoProgram" ["hand", "text", "row"]) (DB : Def P w K mg base CX0 (k + 2) "are_boxes" ["thing", "most", "greatest", "sizes"] (spBoxesA K))
    (mi : mg "isinstance" = none) (mt : mg "tuple" = none) (ms : mg "str" = none) (ml : mg "len" = none) (m8 : mg "LONGEST_NAME" = some (.int 8 t8)) (m24 : mg "MOST_OWN" = some (.int 24 t24)) (m9 : mg "GREATEST_OWN" = some (.int 8 t9)) (m32 : mg "MOST_TEXTS" = some (.int 32 t32)) (m2k : mg "MOST_ROWS" = some (.int 2000 t2k)) :
    FnOk P w K mg base (L2.CX P w) (k + 2 + 1) f fd ["common", "hands"] (spScopesA K S.C) := by
  refine F.okX scScopes (fun vs H Q E h => ?_) (fun cdv A outer s H vs Q E hr h => ?_)
  · obtain ⟨cA, v, bs, ds, rfl, _⟩ := h
    rfl
  obtain ⟨cA, v, bs, ds, rfl, hcA, hb8, hv, sl, l4, qy, qn⟩ := h
  have nd := scScopes.nd
  have hu := hu_of hr
  refine ⟨_, pss_cons (ps_set (i := 2) nd rfl (.inl rfl) pe_dnewK)
    (pss_cons (ps_for (passes_of rfl) rfl (pi_tup (pv 1)) (pg_name (i := 3) nd rfl (.inl rfl))
      (pss_cons (ps_if (PW.pt (pw_or (pt_not (pt_val (pe_callB call_isi (by rfl) mi PyProof.Rows.boot_isinstance (pa_cons (pv 3) (pa_cons (pe_bltn (by rfl) mt (u := .type "tuple") (by decide +kernel) (show RelV (.ty "tuple") (.type "tuple") from rfl)) pa_nil)))))
          (pw_or1 (pt_cmpR op_ne (pe_callB call_len_seq (by rfl) ml PySem.boot_len (pa_cons (pv 3) pa_nil)) pe_int (nomark _))))) (pss_one (ps_raiseN rfl (takes_of rfl rfl rfl rfl) S (hr.mono (by omega)) (by rfl) (pa_cons (pe_callB call_lenD (by rfl) ml PySem.boot_len (pa_cons (pv 2) pa_nil)) (pa_cons pe_non (pa_cons pe_non pa_nil))))) pss_nil)
      (pss_cons (ps_asg (pv 3) (pg_tup rfl (pgs_cons (pg_name (i := 4) nd rfl (.inl rfl)) (pgs_cons (pg_name (i := 5) nd rfl (.inl rfl)) (pgs_cons (pg_name (i := 6) nd rfl (.inl rfl)) pgs_nil)))))
      (pss_cons (ps_if (PW.pt (pw_or (pt_not (pt_val (pe_callB call_isi (by rfl) mi PyProof.Rows.boot_isinstance (pa_cons (pv 4) (pa_cons (pe_bltn (by rfl) ms (u := .type "str") (by decide +kernel) (show RelV (.ty "str") (.type "str") from rfl)) pa_nil)))))
          (pw_or (pt_cmp (pc_din hu (pv 4) (pv 2)))
          (pw_or (pt_cmpR op_gt (pe_callB call_len_str (by rfl) ml PySem.boot_len (pa_cons (pv 4) pa_nil)) (pe_glob (v := .int 8) (by rfl) m8 ⟨_, rfl⟩) (nomark _))
          (pw_or1 (pt_not (pt_val (pe_callB call_isi (by rfl) mi PyProof.Rows.boot_isinstance (pa_cons (pv 6) (pa_cons (pe_bltn (by rfl) mt (u := .type "tuple") (by decide +kernel) (show RelV (.ty "tuple") (.type "tuple") from rfl)) pa_nil)))))))))) (pss_one (ps_raiseN rfl (takes_of rfl rfl rfl rfl) S (hr.mono (by omega)) (by rfl) (pa_cons (pe_callB call_lenD (by rfl) ml PySem.boot_len (pa_cons (pv 2) pa_nil)) (pa_cons pe_non (pa_cons pe_non pa_nil))))) pss_nil)
      (pss_cons (ps_if (PW.pt (pw_or (pt_not (pt_val (pe_m0 PySem.F.slot_str_isascii PySem.F.type_str_isascii mt_isascii (pv 4))))
          (pw_or (pt_not (pt_val (pe_m0 PySem.F.slot_str_isalpha PySem.F.type_str_isalpha mt_isalpha (pv 4))))
          (pw_or (pt_not (pt_val (pe_m0 PySem.F.slot_str_islower PySem.F.type_str_islower mt_islower (pv 4))))
          (pw_or1 (pt_not (pt_chain op_le op_le pe_int (pe_callB call_len_seq (by rfl) ml PySem.boot_len (pa_cons (pv 6) pa_nil)) (pe_glob (v := .int 32) (by rfl) m32 ⟨_, rfl⟩)))))))) (pss_one (ps_raiseN rfl (takes_of rfl rfl rfl rfl) S (hr.mono (by omega)) (by rfl) (pa_cons (pe_callB call_lenD (by rfl) ml PySem.boot_len (pa_cons (pv 2) pa_nil)) (pa_cons pe_non (pa_cons pe_non pa_nil))))) pss_nil)
      (pss_cons (ps_set (i := 7) nd rfl (.inl rfl) (pe_bm0 PySem.F.plainAttrs_dict PySem.F.slot_dict_copy PySem.F.type_dict_copy mt_copy (pv 0)))
      (pss_cons (ps_if (pt_not (pt_val (pe_call DB.ok hr (by rfl) DB.g DB.kp DB.b .nil pass0 (pa_cons (pv 5) (pa_cons (pe_glob (v := .int 24) (by rfl) m24 ⟨_, rfl⟩) (pa_cons (pe_glob (v := .int 8) (by rfl) m9 ⟨_, rfl⟩) (pa_cons (pv 7) pa_nil))))))) (pss_one (ps_raiseN rfl (takes_of rfl rfl rfl rfl) S (hr.mono (by omega)) (by rfl) (pa_cons (pe_callB call_lenD (by rfl) ml PySem.boot_len (pa_cons (pv 2) pa_nil)) (pa_cons pe_non (pa_cons pe_non pa_nil))))) pss_nil)
      (pss_cons (ps_set (i := 8) nd rfl (.inl rfl) pe_dnewK)
      (pss_cons (ps_for (passes_of rfl) rfl (pi_tup (pv 6)) (pg_name (i := 9) nd rfl (.inl rfl))
        (pss_cons (ps_if (PW.pt (pw_or (pt_not (pt_val (pe_callB call_isi (by rfl) mi PyProof.Rows.boot_isinstance (pa_cons (pv 9) (pa_cons (pe_bltn (by rfl) mt (u := .type "tuple") (by decide +kernel) (show RelV (.ty "tuple") (.type "tuple") from rfl)) pa_nil)))))
            (pw_or1 (pt_cmpR op_ne (pe_callB call_len_seq (by rfl) ml PySem.boot_len (pa_cons (pv 9) pa_nil)) pe_int (nomark _))))) (pss_one (ps_raiseN rfl (takes_of rfl rfl rfl rfl) S (hr.mono (by omega)) (by rfl) (pa_cons (pe_callB call_lenD (by rfl) ml PySem.boot_len (pa_cons (pv 2) pa_nil)) (pa_cons (pe_callB call_lenD (by rfl) ml PySem.boot_len (pa_cons (pv 8) pa_nil)) (pa_cons pe_non pa_nil))))) pss_nil)
        (pss_cons (ps_asg (pv 9) (pg_tup rfl (pgs_cons (pg_name (i := 10) nd rfl (.inl rfl)) (pgs_cons (pg_name (i := 11) nd rfl (.inl rfl)) pgs_nil))))
        (pss_cons (ps_if (PW.pt (pw_or (pt_not (pt_val (pe_callB call_isi (by rfl) mi PyProof.Rows.boot_isinstance (pa_cons (pv 10) (pa_cons (pe_bltn (by rfl) ms (u := .type "str") (by decide +kernel) (show RelV (.ty "str") (.type "str") from rfl)) pa_nil)))))
            (pw_or (pt_cmp (pc_din hu (pv 10) (pv 8)))
            (pw_or1 (pt_cmpR op_gt (pe_callB call_len_str (by rfl) ml PySem.boot_len (pa_cons (pv 10) pa_nil)) (pe_glob (v := .int 8) (by rfl) m8 ⟨_, rfl⟩) (nomark _)))))) (pss_one (ps_raiseN rfl (takes_of rfl rfl rfl rfl) S (hr.mono (by omega)) (by rfl) (pa_cons (pe_callB call_lenD (by rfl) ml PySem.boot_len (pa_cons (pv 2) pa_nil)) (pa_cons (pe_callB call_lenD (by rfl) ml PySem.boot_len (pa_cons (pv 8) pa_nil)) (pa_cons pe_non pa_nil))))) pss_nil)
        (pss_cons (ps_if (PW.pt (pw_or (pt_not (pt_val (pe_m0 PySem.F.slot_str_isascii PySem.F.type_str_isascii mt_isascii (pv 10))))
            (pw_or (pt_not (pt_val (pe_m0 PySem.F.slot_str_isalpha PySem.F.type_str_isalpha mt_isalpha (pv 10))))
            (pw_or1 (pt_not (pt_val (pe_m0 PySem.F.slot_str_islower PySem.F.type_str_islower mt_islower (pv 10)))))))) (pss_one (ps_raiseN rfl (takes_of rfl rfl rfl rfl) S (hr.mono (by omega)) (by rfl) (pa_cons (pe_callB call_lenD (by rfl) ml PySem.boot_len (pa_cons (pv 2) pa_nil)) (pa_cons (pe_callB call_lenD (by rfl) ml PySem.boot_len (pa_cons (pv 8) pa_nil)) (pa_cons pe_non pa_nil))))) pss_nil)
        (pss_cons (ps_if (PW.pt (pw_or (pt_not (pt_val (pe_callB call_isi (by rfl) mi PyProof.Rows.boot_isinstance (pa_cons (pv 11) (pa_cons (pe_bltn (by rfl) mt (u := .type "tuple") (by decide +kernel) (show RelV (.ty "tuple") (.type "tuple") from rfl)) pa_nil)))))
            (pw_or1 (pt_not (pt_chain op_le op_le pe_int (pe_callB call_len_seq (by rfl) ml PySem.boot_len (pa_cons (pv 11) pa_nil)) (pe_glob (v := .int 2000) (by rfl) m2k ⟨_, rfl⟩)))))) (pss_one (ps_raiseN rfl (takes_of rfl rfl rfl rfl) S (hr.mono (by omega)) (by rfl) (pa_cons (pe_callB call_lenD (by rfl) ml PySem.boot_len (pa_cons (pv 2) pa_nil)) (pa_cons (pe_callB call_lenD (by rfl) ml PySem.boot_len (pa_cons (pv 8) pa_nil)) (pa_cons pe_non pa_nil))))) pss_nil)
        (pss_one (ps_dput hu (pv 8) (pv 10) (pv 11) rfl))))))))
      (pss_one (ps_dput hu (pv 2) (pv 4) (pe_tup (pa_cons (pv 7) (pa_cons (pv 8) pa_nil))) rfl)))))))))))
    (pss_one (ps_ret (pv 2)))), ?_⟩
  obtain ⟨a, xs, rfl, hs1, hall, hxl⟩ := small_of hv
  have sls := sl.of_tup
  intro sc nsc
  have s1 : Same H (upd H sc (.dK [])) := same_new nsc
  refine ⟨_, rfl, a, rfl, ⟨_, same_tup s1 hs1⟩, for_tup (xs := xs)
    (fun i σ H3 => ∃ y3 y4 y5 y6 y7 y8 y9 y10 y11 kvs hs, σ = [some (.ref cA), some (.ref a), some (.ref sc), y3, y4, y5, y6, y7, y8, y9, y10, y11] ∧ Same H H3 ∧ kvs.length = i ∧ ScD K H H3 sc bs hs kvs ∧ scanH bs [] 0 ds = preH hs (scanH bs (hs.map (·.nm)) i (ds.drop i)))
    ⟨none, none, none, none, none, none, none, none, none, [], [], rfl, s1, rfl, ⟨upd_same, rfl, fun z => rfl, fun j h z => by simp at z⟩, by rw [List.drop_zero]; exact (preH_nil _).symm⟩ (fun i σ H3 _ hP => ?_) (fun i x σ H3 hx hP => ?_) (fun σ H3 hP => ?_)⟩
  · obtain ⟨_, _, _, _, _, _, _, _, _, _, _, _, sm, _⟩ := hP
    exact same_tup sm hs1
  · obtain ⟨y3, y4, y5, y6, y7, y8, y9, y10, y11, kvs, hs, rfl, sm, hkl, ⟨hsc, hkh, hkn, hat⟩, hscan⟩ := hP
    have hi : i < ds.length := by
      have := (List.getElem?_eq_some_iff.mp hx).1
      omega
    obtain ⟨e1, he, hx0⟩ := dpAll_get hall hx
    have hdr : ds.drop i = e1 :: ds.drop (i + 1) := by
      rw [List.drop_eq_getElem_cons hi]
      rw [List.getElem?_eq_getElem hi] at he
      rw [Option.some.inj he]
    rw [hdr] at hscan
    have hxd := dp_same sm _ _ hx0
    have sle := sls _ (List.mem_of_getElem? he)
    have bad : ∀ j, handP bs (hs.map (·.nm)) e1 = .inr j → ∀ G dd H', Same H G → G dd = none → Same G H' → H' dd = some (.xd (E9.names ["hand", "text", "row"] [.int (kvs.length : Nat), oV j, .non])) → E (.ref S.C) (some dd) H' := fun j z G dd H' sg nd1 s' h1 => by
      rw [scanH_no z] at hscan
      rw [hkl] at h1
      exact qn i j hscan dd H' (same_none sg nd1) (sg.trans s') h1
    have raise1 : handP bs (hs.map (·.nm)) e1 = .inr none → ∀ G, Same H G → G sc = some (.dK kvs) → ∀ σ : L2.St, σ[2]? = some (some (.ref sc)) → tNewR S.C ["hand", "text", "row"] (tCons (tCB (fun xs H Q => ∃ a kvs, xs = [V.ref a] ∧ H a = some (.dK kvs) ∧ Q (.int kvs.length) H) (tCons (tVar 2) tNil)) (tCons (tC .non) (tCons (tC .non) tNil))) σ G fun cls d H' => E cls d H' :=
      fun z G sg hg σ h2 => ⟨_, h2, sc, kvs, rfl, hg, by show 3 ≤ 1000; decide, rfl, by simp [E9.names], fun dd H' n1 s' h1 => bad none z G dd H' sg n1 s' h1⟩
    by_cases het : isTup e1 = true
    rotate_left
    · refine ⟨_, rfl, _, _, _, _, _, rfl, .ty "tuple", dp_ty hxd, kit_tup K hxd, _, rfl, ?_⟩
      rw [show isTup e1 = false by simpa using het]
      refine iteT (iteT (raise1 ?_ H3 sm hsc _ rfl))
      cases e1 with
      | tuple es => exact absurd rfl het
      | _ => rfl
    obtain ⟨es, rfl⟩ := isT_tup e1 het
    obtain ⟨c, ys, rfl, hc0, hys, hyl⟩ := small_of hx0
    have hc := same_tup sm hc0
    refine ⟨_, rfl, _, _, _, _, _, rfl, .ty "tuple", dp_ty hxd, kit_tup K hxd, _, rfl, iteF ⟨_, rfl, c, _, rfl, .inr hc, rfl, _, rfl, ?_⟩⟩
    by_cases l3 : es.length = 3
    rotate_left
    · rw [ne_int (show (ys.length : Int) ≠ 3 by omega)]
      refine iteT (raise1 ?_ H3 sm hsc _ rfl)
      unfold handP
      split
      · rename_i heq
        cases heq
        exact absurd rfl l3
      · rfl
    rw [eq_int (show (ys.length : Int) = 3 by omega)]
    obtain ⟨d1, o, d3, rfl⟩ := len3 l3
    cases hys with
    | @cons x1 _ _ _ h10 hys =>
    cases hys with
    | @cons x2 _ _ _ h20 hys =>
    cases hys with
    | @cons x3 _ _ _ h30 hys =>
    cases hys
    have h1 := dp_same sm _ _ h10
    have h2 := dp_same sm _ _ h20
    have h3 := dp_same sm _ _ h30
    have sl3 := sle.of_tup
    refine iteF ⟨_, rfl, c, _, rfl, hc, rfl, _, _, rfl, _, _, rfl, _, _, rfl, rfl, ?_⟩
    by_cases q1 : isStr d1 = true
    rotate_left
    · refine ⟨_, rfl, _, _, _, _, _, rfl, .ty "str", dp_ty h1, kit_str K h1, _, rfl, ?_⟩
      rw [show isStr d1 = false by simpa using q1]
      refine iteT (iteT (raise1 ?_ H3 sm hsc _ rfl))
      cases d1 with
      | str z => exact absurd rfl q1
      | _ => rfl
    obtain ⟨z, rfl⟩ := isS_str d1 q1
    cases dp_str h1
    refine ⟨_, rfl, _, _, _, _, _, rfl, .ty "str", dp_ty h1, kit_str K h1, _, rfl, iteF ⟨_, rfl, _, rfl, sc, _, rfl, DGet.k (k := Sum.inr z) hsc, _, rfl, ?_⟩⟩
    have noT : isTup d3 = false → handP bs (hs.map (·.nm)) (.tuple [.str z, o, d3]) = .inr none := fun h => by
      cases d3 with
      | tuple es => cases h
      | _ => rfl
    have noH : (∀ ts, d3 = .tuple ts → headB (hs.map (·.nm)) z ts = false) → handP bs (hs.map (·.nm)) (.tuple [.str z, o, d3]) = .inr none := fun h => by
      by_cases q : isTup d3 = true
      · obtain ⟨ts, rfl⟩ := isT_tup d3 q
        exact hand_no (h ts rfl)
      · exact noT (by simpa using q)
    rw [hkn z]
    by_cases zin : z ∈ hs.map (·.nm)
    · rw [decide_eq_true zin]
      exact iteT (iteT (raise1 (noH fun ts _ => by unfold headB; rw [decide_eq_true zin]; simp) H3 sm hsc _ rfl))
    rw [decide_eq_false zin]
    have zl := (sl3 _ List.mem_cons_self).of_str
    refine iteF ⟨_, rfl, z, rfl, small_le (by omega), _, _, rfl, rfl, _, rfl, ?_⟩
    by_cases z8 : z.length ≤ 8
    rotate_left
    · rw [decide_eq_true (show (8 : Int) < (z.length : Int) by omega)]
      exact iteT (iteT (raise1 (noH fun ts _ => by unfold headB; rw [nameB_no (.inl z8)]; rfl) H3 sm hsc _ rfl))
    rw [decide_eq_false (show ¬ (8 : Int) < (z.length : Int) by omega)]
    refine iteF ⟨_, rfl, _, _, _, _, _, rfl, .ty "tuple", dp_ty h3, kit_tup K h3, _, rfl, ?_⟩
    by_cases q3 : isTup d3 = true
    rotate_left
    · rw [show isTup d3 = false by simpa using q3]
      exact iteT (raise1 (noT (by simpa using q3)) H3 sm hsc _ rfl)
    obtain ⟨ts, rfl⟩ := isT_tup d3 q3
    obtain ⟨ta, ws, rfl, hta0, hws, hwl⟩ := small_of h30
    have hta := same_tup sm hta0
    rw [show isTup (PyData.tuple ts) = true from rfl]
    refine iteF ⟨_, rfl, ⟨_, rfl⟩, _, rfl, rfl, trivial, _, rfl, ?_⟩
    cases p2 : Txt.isascii z with
    | false => exact iteT (iteT (raise1 (hand_no (by unfold headB; rw [nameB_no (.inr (.inl p2))]; rfl)) H3 sm hsc _ rfl))
    | true =>
    refine iteF ⟨_, rfl, ⟨_, rfl⟩, _, rfl, rfl, trivial, _, rfl, ?_⟩
    cases p3 : Txt.isalpha z with
    | false => exact iteT (iteT (raise1 (hand_no (by unfold headB; rw [nameB_no (.inr (.inr (.inl p3)))]; rfl)) H3 sm hsc _ rfl))
    | true =>
    refine iteF ⟨_, rfl, ⟨_, rfl⟩, _, rfl, rfl, trivial, _, rfl, ?_⟩
    cases p4 : Txt.islower z with
    | false => exact iteT (iteT (raise1 (hand_no (by unfold headB; rw [nameB_no (.inr (.inr (.inr p4)))]; rfl)) H3 sm hsc _ rfl))
    | true =>
    have nz1 : nameB z = true := name_of z8 p2 p3 p4
    refine iteF ⟨_, rfl, ta, _, rfl, .inr hta, _, _, rfl, rfl, _, rfl, ?_⟩
    by_cases w1 : 1 ≤ ts.length
    rotate_left
    · rw [decide_eq_false (show ¬ (1 : Int) ≤ (ws.length : Int) by omega)]
      exact iteF ⟨_, rfl, iteT (raise1 (hand_no (by unfold headB; rw [decide_eq_false w1]; simp)) H3 sm hsc _ rfl)⟩
    rw [decide_eq_true (show (1 : Int) ≤ (ws.length : Int) by omega)]
    refine iteT ⟨_, _, rfl, rfl, _, rfl, ?_⟩
    by_cases w32 : ts.length ≤ 32
    rotate_left
    · rw [decide_eq_false (show ¬ (ws.length : Int) ≤ 32 by omega)]
      exact iteT (raise1 (hand_no (by unfold headB; rw [decide_eq_false w32]; simp)) H3 sm hsc _ rfl)
    rw [decide_eq_true (show (ws.length : Int) ≤ 32 by omega)]
    have hhd : headB (hs.map (·.nm)) z ts = true := by
      unfold headB
      rw [nz1, decide_eq_false zin, decide_eq_true w1, decide_eq_true w32]
      rfl
    -- the sizes
    have hcA3 := sm _ _ hcA
    refine iteF ⟨_, rfl, .inr (.inr (.inl ⟨rfl, .inl ⟨_, hcA3⟩⟩)), cA, _, rfl, rfl, hcA3, fun zz nz => ?_⟩
    have s4 : Same H3 (upd H3 zz (.dK (bs.map boxK))) := same_new nz
    have ezs : zz ≠ sc := fun e => by
      rw [e, hsc] at nz
      cases nz
    have hz4 : (upd H3 zz (.dK (bs.map boxK))) zz = some (.dK (bs.map boxK)) := upd_same
    have nzH : H zz = none := same_none sm nz
    refine ⟨_, rfl, _, rfl, x2, o, 24, 8, zz, bs.map boxK, bs.map (·.1), rfl, dp_same s4 _ _ h2, sl3 _ (by simp), hz4, by rw [List.length_map]; omega, by decide, fun y => ?_, fun own hown => ?_, fun hown kv2 => ?_⟩
    · have := val_seen (kvs := []) (seen := []) (fun _ => rfl) bs y
      rwa [List.nil_append, List.nil_append] at this
    rotate_left
    · refine ⟨_, rfl, iteT (raise1 (hand_box hhd hown) _ ?_ ?_ _ rfl)⟩
      · rw [upd_upd]
        exact sm.trans (same_new nz)
      · rw [upd_upd, upd_ne ezs.symm]
        exact hsc
    refine ⟨_, rfl, iteF ?_⟩
    have e5 : upd (upd H3 zz (.dK (bs.map boxK))) zz (.dK (bs.map boxK ++ own.map boxK)) = upd H3 zz (.dK ((bs ++ own).map boxK)) := by
      rw [upd_upd, List.map_append]
    rw [e5]
    have s5 : Same H3 (upd H3 zz (.dK ((bs ++ own).map boxK))) := same_new nz
    have hz5 : (upd H3 zz (.dK ((bs ++ own).map boxK))) zz = some (.dK ((bs ++ own).map boxK)) := upd_same
    generalize upd H3 zz (.dK ((bs ++ own).map boxK)) = H5 at s5 hz5 ⊢
    clear e5 s4 hz4
    -- the texts
    intro x nx
    have exs : x ≠ sc := fun e => by
      rw [e, s5 _ _ hsc] at nx
      cases nx
    have exz : x ≠ zz := fun e => by
      rw [e, hz5] at nx
      cases nx
    have nxH : H x = none := same_none (sm.trans s5) nx
    have hta5 := same_tup s5 hta
    have s6 : Same H5 (upd H5 x (.dK [])) := same_new nx
    have slt := (sl3 (.tuple ts) (by simp)).of_tup
    have s35 := s5
    refine ⟨_, rfl, ta, rfl, ⟨_, same_tup s6 hta5⟩, for_tup (xs := ws)
      (fun j σ H6 => ∃ w9 w10 w11 kvx tl, σ = [some (.ref cA), some (.ref a), some (.ref sc), some (.ref c), some (.str z), some x2, some (.ref ta), some (.ref zz), some (.ref x), w9, w10, w11] ∧ H6 = upd H5 x (.dK kvx) ∧ kvx.length = j ∧ TxAt K H kvx tl ∧ scanT [] 0 ts = preT tl (scanT (tl.map (·.1)) j (ts.drop j)))
      ⟨y9, y10, y11, [], [], rfl, rfl, rfl, ⟨rfl, fun _ => rfl, fun j h z => by simp at z⟩, by rw [List.drop_zero]; exact (preT_nil _).symm⟩ (fun j σ H6 _ hQ => ?_) (fun j y σ H6 hy hQ => ?_) (fun σ H6 hQ => ?_)⟩
    · obtain ⟨_, _, _, _, _, _, rfl, _⟩ := hQ
      exact same_tup (same_new nx) hta5
    · obtain ⟨w9, w10, w11, kvx, tl, rfl, rfl, hxl2, htx, htscan⟩ := hQ
      have hj : j < ts.length := by
        have := (List.getElem?_eq_some_iff.mp hy).1
        omega
      obtain ⟨d, hd, hy0⟩ := dpAll_get hws hy
      have hdr2 : ts.drop j = d :: ts.drop (j + 1) := by
        rw [List.drop_eq_getElem_cons hj]
        rw [List.getElem?_eq_getElem hj] at hd
        rw [Option.some.inj hd]
      rw [hdr2] at htscan
      have sx : Same H (upd H5 x (.dK kvx)) := (sm.trans s5).trans (same_new nx)
      have hsc6 : (upd H5 x (.dK kvx)) sc = some (.dK kvs) := by
        rw [upd_ne exs.symm]
        exact s5 _ _ hsc
      have hx6 : (upd H5 x (.dK kvx)) x = some (.dK kvx) := upd_same
      have hyd := dp_same sx _ _ hy0
      have sld := slt _ (List.mem_of_getElem? hd)
      have bad2 : textP (tl.map (·.1)) d = none → handP bs (hs.map (·.nm)) (.tuple [.str z, o, .tuple ts]) = .inr (some j) := fun q => by
        rw [scanT_no q] at htscan
        exact hand_txt hhd hown htscan
      have raise2 : textP (tl.map (·.1)) d = none → ∀ σ : L2.St, σ[2]? = some (some (.ref sc)) → σ[8]? = some (some (.ref x)) → tNewR S.C ["hand", "text", "row"] (tCons (tCB (fun xs H Q => ∃ a kvs, xs = [V.ref a] ∧ H a = some (.dK kvs) ∧ Q (.int kvs.length) H) (tCons (tVar 2) tNil)) (tCons (tCB (fun xs H Q => ∃ a kvs, xs = [V.ref a] ∧ H a = some (.dK kvs) ∧ Q (.int kvs.length) H) (tCons (tVar 8) tNil)) (tCons (tC .non) tNil))) σ (upd H5 x (.dK kvx)) fun cls d H' => E cls d H' :=
        fun q σ h2 h8 => ⟨_, h2, sc, kvs, rfl, hsc6, _, h8, x, kvx, rfl, hx6, by show 3 ≤ 1000; decide, rfl, by simp [E9.names], fun dd H' n1 s' h1 => bad (some j) (bad2 q) _ dd H' sx n1 s' (by rw [h1, hxl2]; rfl)⟩
      by_cases q1 : isTup d = true
      rotate_left
      · refine ⟨_, rfl, _, _, _, _, _, rfl, .ty "tuple", dp_ty hyd, kit_tup K hyd, _, rfl, ?_⟩
        rw [show isTup d = false by simpa using q1]
        refine iteT (iteT (raise2 ?_ _ rfl rfl))
        cases d with
        | tuple es => exact absurd rfl q1
        | _ => rfl
      obtain ⟨es, rfl⟩ := isT_tup d q1
      obtain ⟨ca, zs, rfl, hca0, hzs, hzl⟩ := small_of hy0
      have hca := same_tup sx hca0
      refine ⟨_, rfl, _, _, _, _, _, rfl, .ty "tuple", dp_ty hyd, kit_tup K hyd, _, rfl, iteF ⟨_, rfl, ca, _, rfl, .inr hca, rfl, _, rfl, ?_⟩⟩
      by_cases l2 : es.length = 2
      rotate_left
      · rw [ne_int (show (zs.length : Int) ≠ 2 by omega)]
        refine iteT (raise2 ?_ _ rfl rfl)
        unfold textP
        split
        · rename_i heq
          cases heq
          exact absurd rfl l2
        · rfl
      rw [eq_int (show (zs.length : Int) = 2 by omega)]
      obtain ⟨f1, f2, rfl⟩ := len2 l2
      cases hzs with
      | @cons u1 _ _ _ k10 hzs =>
      cases hzs with
      | @cons u2 _ _ _ k20 hzs =>
      cases hzs
      have k1 := dp_same sx _ _ k10
      have k2 := dp_same sx _ _ k20
      refine iteF ⟨_, rfl, ca, _, rfl, hca, rfl, _, _, rfl, _, _, rfl, rfl, ?_⟩
      by_cases q2 : isStr f1 = true
      rotate_left
      · refine ⟨_, rfl, _, _, _, _, _, rfl, .ty "str", dp_ty k1, kit_str K k1, _, rfl, ?_⟩
        rw [show isStr f1 = false by simpa using q2]
        refine iteT (iteT (raise2 ?_ _ rfl rfl))
        cases f1 with
        | str z => exact absurd rfl q2
        | _ => rfl
      obtain ⟨t, rfl⟩ := isS_str f1 q2
      cases dp_str k1
      refine ⟨_, rfl, _, _, _, _, _, rfl, .ty "str", dp_ty k1, kit_str K k1, _, rfl, iteF ⟨_, rfl, _, rfl, x, _, rfl, DGet.k (k := Sum.inr t) hx6, _, rfl, ?_⟩⟩
      have tx0 : isTup f2 = false → textP (tl.map (·.1)) (.tuple [.str t, f2]) = none := fun h => by
        cases f2 with
        | tuple es => cases h
        | _ => rfl
      have txP : ∀ rs, textP (tl.map (·.1)) (.tuple [.str t, .tuple rs]) = if nameB t && (!decide (t ∈ tl.map (·.1)) && (decide (1 ≤ rs.length) && decide (rs.length ≤ 2000))) then some (t, rs) else none := fun _ => rfl
      have txN : (∀ rs, f2 = .tuple rs → (nameB t && (!decide (t ∈ tl.map (·.1)) && (decide (1 ≤ rs.length) && decide (rs.length ≤ 2000)))) = false) → textP (tl.map (·.1)) (.tuple [.str t, f2]) = none := fun h => by
        by_cases q : isTup f2 = true
        · obtain ⟨rs, rfl⟩ := isT_tup f2 q
          rw [txP, h rs rfl]
          rfl
        · exact tx0 (by simpa using q)
      rw [htx.2.1 t]
      by_cases tin : t ∈ tl.map (·.1)
      · rw [decide_eq_true tin]
        exact iteT (iteT (raise2 (txN fun rs _ => by rw [decide_eq_true tin]; simp) _ rfl rfl))
      rw [decide_eq_false tin]
      have tlen := (sld.of_tup _ List.mem_cons_self).of_str
      refine iteF ⟨_, rfl, t, rfl, small_le (by omega), _, _, rfl, rfl, _, rfl, ?_⟩
      by_cases t8 : t.length ≤ 8
      rotate_left
      · rw [decide_eq_true (show (8 : Int) < (t.length : Int) by omega)]
        exact iteT (raise2 (txN fun rs _ => by rw [nameB_no (.inl t8)]; rfl) _ rfl rfl)
      rw [decide_eq_false (show ¬ (8 : Int) < (t.length : Int) by omega)]
      refine iteF ⟨_, rfl, ⟨_, rfl⟩, _, rfl, rfl, trivial, _, rfl, ?_⟩
      cases g2 : Txt.isascii t with
      | false => exact iteT (iteT (raise2 (txN fun rs _ => by rw [nameB_no (.inr (.inl g2))]; rfl) _ rfl rfl))
      | true =>
      refine iteF ⟨_, rfl, ⟨_, rfl⟩, _, rfl, rfl, trivial, _, rfl, ?_⟩
      cases g3 : Txt.isalpha t with
      | false => exact iteT (iteT (raise2 (txN fun rs _ => by rw [nameB_no (.inr (.inr (.inl g3)))]; rfl) _ rfl rfl))
      | true =>
      refine iteF ⟨_, rfl, ⟨_, rfl⟩, _, rfl, rfl, trivial, _, rfl, ?_⟩
      cases g4 : Txt.islower t with
      | false => exact iteT (raise2 (txN fun rs _ => by rw [nameB_no (.inr (.inr (.inr g4)))]; rfl) _ rfl rfl)
      | true =>
      have nt1 : nameB t = true := name_of t8 g2 g3 g4
      refine iteF ⟨_, rfl, _, _, _, _, _, rfl, .ty "tuple", dp_ty k2, kit_tup K k2, _, rfl, ?_⟩
      by_cases q4 : isTup f2 = true
      rotate_left
      · rw [show isTup f2 = false by simpa using q4]
        exact iteT (iteT (raise2 (tx0 (by simpa using q4)) _ rfl rfl))
      obtain ⟨rs, rfl⟩ := isT_tup f2 q4
      obtain ⟨ra, rws, rfl, hra0, hrr, hrl⟩ := small_of k20
      have hra := same_tup sx hra0
      rw [show isTup (PyData.tuple rs) = true from rfl]
      refine iteF ⟨_, rfl, ra, _, rfl, .inr hra, _, _, rfl, rfl, _, rfl, ?_⟩
      by_cases r1 : 1 ≤ rs.length
      rotate_left
      · rw [decide_eq_false (show ¬ (1 : Int) ≤ (rws.length : Int) by omega)]
        exact iteF ⟨_, rfl, iteT (raise2 (by rw [txP, decide_eq_false r1]; simp) _ rfl rfl)⟩
      rw [decide_eq_true (show (1 : Int) ≤ (rws.length : Int) by omega)]
      refine iteT ⟨_, _, rfl, rfl, _, rfl, ?_⟩
      by_cases r2 : rs.length ≤ 2000
      rotate_left
      · rw [decide_eq_false (show ¬ (rws.length : Int) ≤ 2000 by omega)]
        exact iteT (raise2 (by rw [txP, decide_eq_false r2]; simp) _ rfl rfl)
      rw [decide_eq_true (show (rws.length : Int) ≤ 2000 by omega)]
      have yes : textP (tl.map (·.1)) (.tuple [.str t, .tuple rs]) = some (t, rs) := by
        rw [txP, nt1, decide_eq_false tin, decide_eq_true r1, decide_eq_true r2]
        rfl
      refine iteF ⟨_, rfl, _, rfl, _, rfl, x, _, rfl, DPut.k (k := Sum.inr t) hx6 (small_lt (by omega)), ?_⟩
      rw [putK_new _ (htx.2.1.none tin), upd_upd]
      refine ⟨_, _, _, kvx ++ [(Sum.inr t, .ref ra)], tl ++ [(t, rs)], rfl, rfl, by rw [List.length_append, hxl2]; rfl, htx.snoc (t := (t, rs)) k20, ?_⟩
      rw [htscan, scanT_yes yes, preT_app, List.map_append]
      rfl
    · obtain ⟨w9, w10, w11, kvx, tl, rfl, rfl, hxl2, htx, htscan⟩ := hQ
      rw [hwl, List.drop_length] at htscan
      replace htscan : scanT [] 0 ts = .inl tl := by
        rw [htscan]
        show Sum.inl (tl ++ []) = _
        rw [List.append_nil]
      have yes := hand_yes (bs := bs) hhd hown htscan
      have s7 : Same H5 (upd H5 x (.dK kvx)) := same_new nx
      have hx7 : (upd H5 x (.dK kvx)) x = some (.dK kvx) := upd_same
      have hz7 := s7 _ _ hz5
      have hsc7 := s7 _ _ (s5 _ _ hsc)
      have s37 := s5.trans s7
      generalize upd H5 x (.dK kvx) = H7 at s7 hx7 hz7 hsc7 s37 ⊢
      refine ⟨_, rfl, _, rfl, by show 2 ≤ sizeLine; decide, fun t nt => ?_⟩
      have s8 : Same H7 (upd H7 t (.tup [.ref zz, .ref x])) := same_new nt
      have ht8 : (upd H7 t (.tup [.ref zz, .ref x])) t = some (.tup [.ref zz, .ref x]) := upd_same
      have hsc8 := s8 _ _ hsc7
      have hx8 := s8 _ _ hx7
      have hz8 := s8 _ _ hz7
      have s38 := s37.trans s8
      generalize upd H7 t (.tup [.ref zz, .ref x]) = H8 at s8 ht8 hsc8 hx8 hz8 s38 ⊢
      refine ⟨_, rfl, _, rfl, sc, _, rfl, DPut.k (k := Sum.inr z) hsc8 (small_lt (by omega)), ?_⟩
      rw [putK_new _ (hkn.none zin)]
      have up : ∀ (b : Addr) (o : HO), b ≠ sc → H8 b = some o → (upd H8 sc (.dK (kvs ++ [(Sum.inr z, .ref t)]))) b = some o := fun b o nb q => by
        rw [upd_ne nb]
        exact q
      refine ⟨_, _, _, _, _, _, _, _, _, kvs ++ [(Sum.inr z, .ref t)], hs ++ [⟨z, own, tl⟩], rfl, same_put (sm.trans s38) nsc, by rw [List.length_append, hkl]; rfl, ⟨upd_same, by rw [List.length_append, List.length_append, hkh]; rfl, ?_, fun j h' a => ?_⟩, ?_⟩
      · rw [List.map_append]
        exact hkn.snoc z _
      · rcases Nat.lt_or_ge j hs.length with lt | ge
        · rw [List.getElem?_append_left lt] at a
          obtain ⟨e, e1, e2⟩ := hat j h' a
          refine ⟨e, by rw [List.getElem?_append_left (by omega)]; exact e1, e2.keep (fun b o nb q => up b o nb (s38 _ _ q)) fun xs q => by rw [hsc] at q; cases q⟩
        · rw [List.getElem?_append_right ge] at a
          have z2 : j - hs.length = 0 := by
            rcases Nat.eq_zero_or_pos (j - hs.length) with q | q
            · exact q
            · rw [List.getElem?_eq_none (by simp; omega)] at a
              cases a
          rw [z2] at a
          cases a
          refine ⟨(Sum.inr z, .ref t), by rw [List.getElem?_append_right (by omega), hkh, z2]; rfl, t, zz, x, kvx, rfl, up _ _ (fun q => by rw [q, hsc8] at ht8; cases ht8) ht8, up _ _ ezs hz8, up _ _ exs hx8, ezs, exs, exz, nxH, nzH, htx⟩
      · rw [hscan, scanH_yes yes, preH_app, List.map_append]
        rfl
  · obtain ⟨_, _, _, _, _, _, _, _, _, kvs, hs, rfl, sm, hkl, hsc, hscan⟩ := hP
    rw [hxl, List.drop_length] at hscan
    refine ⟨_, rfl, qy hs ?_ H3 sc kvs sm nsc hsc⟩
    rw [hscan]
    show Sum.inl (hs ++ []) = _
    rw [List.append_nil]
end
end PP

set_option maxHeartbeats 4000000
namespace EN
open PySem PySem.Spec PyProof.Rows L2 G3 M0
/-- enumerate(v) made -/
theorem new1 {v : Value} {o : Obj} {H : Heap → Prop} (B : Begins v o H) :
    Meets (Builtin.«enumerate.__new__» ⟨[.type "enumerate", v], []⟩) (fun _ R s => H s.heap ∧
      R (.ok (.ret (.ref (s.heap.push o).objs.size))) { s with heap := (s.heap.push o).push { cls := .type "enumerate", data := .fields #[.none, .bool false, .ref s.heap.objs.size, rawInt 0, .none, .none] } }) :=
  .of_wp fun prog w A R s h => by
    obtain ⟨hp, g, d, tk, os⟩ := s
    obtain ⟨h1, h⟩ := h
    have z1 := sub_enumerate
    have z2 : ∀ {A' : Around} {E : Value → Shared → Prop} {Q : Value → Shared → Prop}, Q (.ref hp.objs.size) ⟨hp.push o, g, d, tk, os⟩ → wpAny (model prog w) A' (pyIter v) Q E ⟨hp, g, d, tk, os⟩ := fun q => B.iter prog w _ _ ⟨hp, g, d, tk, os⟩ _ h1 q
    wp_walk using z2
    refine wpAny_stack_any fun st => wpAny_pure ?_
    split
    · rename_i c _ _ _ _ _
      cases (c == Value.type "enumerate") <;> (wp_walk using z2; exact ⟨_, rfl, h⟩)
    · wp_walk using z2
      exact ⟨_, rfl, h⟩
section
variable {prog : Program} {w : World} {A : Around} {E : Value → Shared → Prop} {s : Shared}
theorem begun1 {v : Value} {o : Obj} {H : Heap → Prop} {Q : Value → Shared → Prop} (B : Begins v o H) (h1 : H s.heap)
    (h : ∀ h', IsEnum h' (s.heap.objs.size + 1) s.heap.objs.size 0 .none → h'.get? s.heap.objs.size = some o → (∀ b o, s.heap.get? b = some o → h'.get? b = some o) → Q (.ref (s.heap.objs.size + 1)) { s with heap := h' }) :
    wpAny (model prog w) A (call (.type "enumerate") [v]) Q E s := by
  refine callType_new F.called_enumerate (by decide) (F.typeCall_enumerate_1 _) (F.newCall_enumerate_1 _) (fun obj => F.args_object_init_2 obj _) F.entry_enumerate_new (new1 B) ⟨h1, ?_⟩
  have hz : (s.heap.push o).objs.size = s.heap.objs.size + 1 := Heap.size_push ..
  show _ ∧ _
  rw [hz]
  have he : IsEnum ((s.heap.push o).push { cls := .type "enumerate", data := .fields #[.none, .bool false, .ref s.heap.objs.size, rawInt 0, .none, .none] }) (s.heap.objs.size + 1) s.heap.objs.size 0 .none := by
    have z := Heap.get?_push_size (s.heap.push o) (o := { cls := .type "enumerate", data := .fields #[.none, .bool false, .ref s.heap.objs.size, rawInt 0, .none, .none] }) rfl
    rw [hz] at z
    exact z
  exact ⟨⟨_, he, rfl⟩, h _ he (Heap.get?_push_of_some _ (Heap.get?_push_size _ B.free)) fun b o x => Heap.get?_push_of_some _ (Heap.get?_push_of_some _ x)⟩
end
/-- the tuple at a, each item in a new pair -/
def Iet (K : PySem.W.Frag) (a : Addr) : It :=
  ⟨fun i H => ∃ (xs : List V) (x : V), SqT K H a xs ∧ xs[i]? = some x, fun i H v H' => ∃ T x, v = .ref T ∧ H T = none ∧ H' = upd H T (.tup [.int (i : Nat), x]) ∧ ∀ xs, SqT K H a xs → xs[i]? = some x, fun i H => ∃ xs : List V, SqT K H a xs ∧ xs.length = i⟩
theorem apart {h : Heap} {a b : Addr} {o o' : Obj} {x y : String} (h1 : h.get? a = some o) (c1 : o.cls = .type x) (h2 : h.get? b = some o') (c2 : o'.cls = .type y) (ne : x ≠ y) : a ≠ b := fun e => by
  subst e
  rw [h1] at h2
  cases h2
  rw [c1] at c2
  cases c2
  exact ne rfl
theorem turn_enumT {P : Program} {w : World} {K : PySem.W.Frag} {elts : List Expr} {kk : Nat} {tpos : Pos} (a e it : Addr) :
    Turn P w K (.Tuple elts kk tpos) (Iet K a) [e, it] e (fun i h => (∃ old, IsEnum h e it ((i : Nat) : Int) old) ∧ h.IsTupleIter it a i ∧ e ≠ it) where
  mem := by simp
  obj := fun i h st b hb => by
    obtain ⟨⟨old, he⟩, ⟨o, ho, hc, hd⟩, _⟩ := st
    have e' : b = e ∨ b = it := by simpa using hb
    rcases e' with z | z
    · rw [z]; exact ⟨_, he, fun v q => nomatch q⟩
    · rw [z]; exact ⟨o, ho, fun v q => by rw [hd] at q; cases q⟩
  keep := fun i h h' st k => let ⟨⟨old, he⟩, hi, hne⟩ := st; ⟨⟨old, k e (by simp) _ he⟩, hi.at fun o q => k it (by simp) o q, hne⟩
  item := by
    intro X hP hw hK hc i pins s σ H E I hf st hg
    subst hP hw hK
    obtain ⟨⟨old, he⟩, hit, hne⟩ := st
    obtain ⟨xs, x, hq, hx⟩ := hg
    obtain ⟨its, rv, p, hz⟩ := I.tuple hq
    obtain ⟨u, hu, ru⟩ := rv.get hx
    have hel : e < s.heap.objs.size := Heap.lt_size he
    have hil : it < s.heap.objs.size := by obtain ⟨_, q, _⟩ := hit; exact Heap.lt_size q
    have ai : a ≠ it := by
      obtain ⟨o1, p1, p2, _⟩ := p
      obtain ⟨o2, q1, q2, _⟩ := hit
      exact apart p1 p2 q1 q2 (by decide)
    have ae : e ∉ [it, a] := by
      obtain ⟨o1, p1, p2, _⟩ := p
      have z : e ≠ a := apart he rfl p1 p2 (by decide)
      intro m
      rcases List.mem_cons.mp m with y | y
      · exact hne y
      · exact z (List.mem_singleton.mp y)
    have lt : i < its.toArray.size := by
      have := (List.getElem?_eq_some_iff.mp hu).1
      simpa using this
    refine wpAny_pyNext_enum_itemD (Draws.tuple (A := X.A.in1) (by have z := I.ok.hd hc; simpa using z) it a ai its.toArray) he ⟨hit, p⟩ lt hne ae fun u2 h' tk pu ho st' hT hsz hk => ?_
    have eu : u2 = u := by
      have z : its[i]? = some u2 := by simpa using pu
      rw [hu] at z
      exact (Option.some.inj z).symm
    subst eu
    refine ⟨_, rfl, wpAny_letOwnedTupleGo_enum (s := { s with heap := h', toks := tk + 1 }) ho fun h'' he' sb => ?_⟩
    have hT2 : h''.get? s.heap.objs.size = some { cls := .type "tuple", data := .seq #[.int i tk, u2] } := (sb.2 _ (Nat.ne_of_gt hel)).trans hT
    have new : ObjOk X.prog X.w (upd H s.heap.objs.size (.tup [.int (i : Nat), x])) h'' s.heap.objs.size (.tup [.int (i : Nat), x]) :=
      ⟨by show 2 ≤ sizeLine; decide, [.int i tk, u2], .cons ⟨_, rfl⟩ (.cons ru .nil), ⟨_, hT2, rfl, _, rfl⟩⟩
    have I1 : Inv X pins σ (upd H s.heap.objs.size (.tup [.int (i : Nat), x])) { s with heap := h'', toks := tk + 1 } :=
      I.turnedNew (ch := [e, it]) (fun b ob hb q => (sb.2 b (fun z => hb (by simp [z]))).trans (hk b ob (fun z => hb (by simp [z])) (fun z => hb (by simp [z])) q)) hf (Nat.le_refl _) new
    refine ⟨.ref s.heap.objs.size, _, I1, rfl, ⟨_, x, rfl, I.hok.fresh (Nat.le_refl _), rfl, fun ys hy => by rw [I.tuple_inj hy hq]; exact hx⟩, ⟨⟨u2, ?_⟩, st'.1.at fun o q => (sb.2 it (Ne.symm hne)).trans q, hne⟩, fun b hb => ?_⟩
    · have e1 : ((i + 1 : Nat) : Int) = (i : Int) + 1 := by omega
      rw [e1]; exact he'
    · have hb' : b < s.heap.objs.size := by
        have e' : b = e ∨ b = it := by simpa using hb
        rcases e' with z | z
        · rw [z]; exact hel
        · rw [z]; exact hil
      rw [upd_ne (Nat.ne_of_lt hb')]
      exact (hf b hb).1
  done := by
    intro X hP hw hK hc i pins s σ H E I hf st hg
    subst hP hw hK
    obtain ⟨⟨old, he⟩, hit, hne⟩ := st
    obtain ⟨xs, hq, hx⟩ := hg
    obtain ⟨its, rv, p, hz⟩ := I.tuple hq
    obtain ⟨f0, f1, f2, f3, f4, f5⟩ := hf it (by simp)
    have hl := rv.length
    have ai : a ≠ it := by
      obtain ⟨o1, p1, p2, _⟩ := p
      obtain ⟨o2, q1, q2, _⟩ := hit
      exact apart p1 p2 q1 q2 (by decide)
    have ei : its.toArray.size = i := by rw [List.size_toArray]; omega
    refine wpAny_pyNext_enum_endD (Draws.tuple (A := X.A.in1) (by have z := I.ok.hd hc; simpa using z) it a ai its.toArray) he (by rw [ei]; exact ⟨hit, p⟩) fun h' eb => ⟨rfl, I.turned (t' := s.toks) (fun b o hb q => eb b o hb q) f0 f1 f3 f4 f5⟩
  self := fun A i s Q E st h => let ⟨⟨_, he⟩, _⟩ := st; wpAny_pyIter_enum he h
def iEnumT (K : PySem.W.Frag) (ta : TA) : TI := fun σ H R => ta σ H fun vs H1 => ∃ a xs, vs = [.ref a] ∧ SqT K H1 a xs ∧ R (Iet K a) H1
theorem pi_enumT {X : Cx} {e : Expr} {ta : TA} {p pos tpos : Pos} {elts : List Expr} {kk : Nat} (hg : Gl X "enumerate") (hm : X.mg "enumerate" = none) (ha : PA X [e] ta) (hs : starEach [e] X.env = [(false, eval e X.env)] := by rfl) :
    PI X (.Tuple elts kk tpos) (.Call (.Name "enumerate" p) [e] [] pos) (iEnumT X.K ta) := by
  refine ⟨fun pins s σ H R I h => ?_⟩
  refine Call_ (ld_blt I hg hm boot_enumerate (PyProof.Rows.callWith_type1 (thn (ha.run pos pins s σ H _ I h) fun us s1 ⟨vs, H1, I1, r1, q1⟩ => ?_) hs rfl))
  obtain ⟨a, xs, ex, hq, q⟩ := q1
  subst ex
  cases r1 with
  | cons r rr =>
    cases rr
    cases r
    obtain ⟨its, rv, p', hz⟩ := I1.tuple hq
    refine begun1 (begins_tuple a its.toArray) p' fun h' he hit hk => wpAny_pyIter_enum he ?_
    have I2 : Inv X pins σ H1 { s1 with heap := h' } := I1.kept (t' := s1.toks) hk
    refine ⟨s1.heap.objs.size + 1, [s1.heap.objs.size + 1, s1.heap.objs.size], _, _, H1, rfl, I2, turn_enumT a (s1.heap.objs.size + 1) s1.heap.objs.size, ⟨⟨.none, he⟩, ⟨_, hit, rfl, rfl⟩, Nat.succ_ne_self _⟩, fun b hb => ?_, q⟩
    have e' : b = s1.heap.objs.size + 1 ∨ b = s1.heap.objs.size := by simpa using hb
    have hle : s1.heap.objs.size ≤ b := by
      rcases e' with z | z
      · rw [z]; exact Nat.le_add_right _ _
      · rw [z]; exact Nat.le_refl _
    exact I1.fpOk hle (I1.hok.fresh hle)
theorem for_enumT {K : PySem.W.Frag} {a : Addr} {xs : List V} {g : TG} {tb : TS} {D : Ends} {σ : L2.St} {H : Hp} (Pv : Nat → L2.St → Hp → Prop) (h0 : Pv 0 σ H) (hl : ∀ i σ H, Pv i σ H → SqT K H a xs)
    (hs : ∀ (i : Nat) (x : V) (T : Addr) (σ : L2.St) (H : Hp), xs[i]? = some x → Pv i σ H → H T = none → g (.ref T) σ (upd H T (.tup [.int (i : Nat), x])) fun σ2 H2 => tb { D with nx := Pv (i + 1), ct := Pv (i + 1), bk := D.nx } σ2 H2) (hd : ∀ σ H, Pv xs.length σ H → D.nx σ H) :
    ∃ W : Nat → Nat → L2.St → Hp → Prop, (∃ m, W 0 m σ H) ∧ ∀ i m σ H, W i m σ H →
      ((Iet K a).stop i H ∧ D.nx σ H) ∨ ((Iet K a).go i H ∧ ∃ N : L2.St → Hp → Prop, (∀ σ' H', N σ' H' → ∃ m', m' < m ∧ W (i + 1) m' σ' H') ∧ ∀ x H', (Iet K a).yld i H x H' → g x σ H' fun σ2 H2 => tb { D with nx := N, ct := N, bk := D.nx } σ2 H2) := by
  refine ⟨fun i m σ H => m = xs.length - i ∧ i ≤ xs.length ∧ Pv i σ H, ⟨xs.length, rfl, Nat.zero_le _, h0⟩, ?_⟩
  rintro i m σ H ⟨rfl, hi, p⟩
  have q := hl i σ H p
  by_cases hlt : i < xs.length
  · refine .inr ⟨⟨xs, xs[i], q, by simp [hlt]⟩, Pv (i + 1), fun σ' H' p' => ⟨xs.length - (i + 1), by omega, rfl, hlt, p'⟩, fun v H' y => ?_⟩
    obtain ⟨T, x, rfl, hT, rfl, y⟩ := y
    exact hs i x T σ H (y xs q) p hT
  · have e : i = xs.length := by omega
    subst e
    exact .inl ⟨⟨xs, q, rfl⟩, hd σ H p⟩
end EN

set_option maxHeartbeats 4000000
namespace EK
open PySem PySem.Spec PyProof.Rows L2 G3 M0 EN
/-! ### for i, x in enumerate(d), enumerate(d.values()) -/
section
variable {prog : Program} {w : World} {A : Around} {E : Value → Shared → Prop} {s : Shared} {it d : Addr} {i ep : Nat} {es : Array DictEntry}
theorem nk_item {Q : Value → Shared → Prop} (a : s.heap.IsKeyIter it d i es.size ep) (b : s.heap.DictRaw d es ep) (lt : i < es.size)
    (q : ∀ h', h'.IsKeyIter it d (i + 1) es.size ep → Heap.SameBut it s.heap h' → Q es[i].key { s with heap := h' }) : wpAny (model prog w) A (Builtin.SmallTypes.nextOf (.ref it)) Q E s := by
  obtain ⟨o, g1, g2, g3⟩ := id a
  obtain ⟨od, g4, g5, g6⟩ := id b
  have own : Builtin.Dict_items.ownsTuple "dict_keyiterator" = false := by decide
  unfold Builtin.SmallTypes.nextOf
  refine wpAny_bind (wpAny_callSpecial?_slot (name := Str.ofString "__next__") a.typeIs F.slot_dict_keyiterator_next (wpAny_call_entry F.slot_dict_keyiterator_next a.typeIs F.entry_dict_keyiterator_next ?_ (F.args_dict_keyiterator_next_1 _)))
  refine wpAny_bind (wpAny_pure (wpAny_bind (wpAny_bind ?_)))
  first | refine wpAny_bind (wpAny_typeNameOfWhole_keyiter a.typeIs (wpAny_pure ?_)) | refine wpAny_bind (wpAny_typeNameOf_keyiter a.typeIs (wpAny_pure ?_))
  refine wpAny_bind (wpAny_fieldsOf g1 g3 ?_)
  simp only [own, Bool.false_eq_true, if_false]
  show wpAny _ _ (if (Value.ref d == Value.none) = true then _ else _) _ _ s
  rw [if_neg (show ¬ ((Value.ref d == Value.none) = true) from Bool.false_ne_true)]
  refine wpAny_bind (wpAny_pure (wpAny_bind (wpAny_dictEntries g4 g6 ?_)))
  rw [if_neg (by simp)]
  refine wpAny_bind (wpAny_pure (wpAny_bind (wpAny_dictEpoch g4 g6 ?_)))
  rw [if_neg (by simp)]
  refine wpAny_pure ?_
  simp only [show ¬ ((i : Int) < 0) from by omega, if_false, Int.toNat_natCast, Array.getElem?_eq_getElem lt]
  refine wpAny_bind ?_
  first | refine wpAny_bind (wpAny_typeNameOfWhole_keyiter a.typeIs (wpAny_pure ?_)) | refine wpAny_bind (wpAny_typeNameOf_keyiter a.typeIs (wpAny_pure ?_))
  refine wpAny_bind (wpAny_isOneOf_keyiter a.typeIs ?_)
  show wpAny _ _ (setField (.ref it) 1 (rawInt ((i : Int) + 1)) >>= _) _ _ s
  refine wpAny_bind (wpAny_setField g1 g3 (by simp) ?_)
  have a' : (s.heap.update it (Obj.mapFields (·.setIfInBounds 1 (rawInt ((i : Int) + 1))))).IsKeyIter it d (i + 1) es.size ep :=
    ⟨_, Heap.get?_update_self _ g1 (Obj.isFreed_of_fields (Obj.data_mapFields g3 _)), (Obj.cls_mapFields ..).trans g2, by rw [Obj.data_mapFields g3]; simp [rawInt]⟩
  refine wpAny_bind (wpAny_holding (wpAny_bind (wpAny_isOneOf_keyiter (s := { s with heap := s.heap.update it (Obj.mapFields (·.setIfInBounds 1 (rawInt ((i : Int) + 1)))) }) a'.typeIs ?_)))
  show wpAny _ _ (pure es[i].key) _ _ _
  exact wpAny_pure (wpAny_pure ⟨_, rfl, wpAny_pure (q _ a' (Heap.SameBut.update ..))⟩)
theorem nv_item {Q : Value → Shared → Prop} (a : s.heap.IsValIter it d i es.size ep) (b : s.heap.DictRaw d es ep) (lt : i < es.size)
    (q : ∀ h', h'.IsValIter it d (i + 1) es.size ep → Heap.SameBut it s.heap h' → Q es[i].val { s with heap := h' }) : wpAny (model prog w) A (Builtin.SmallTypes.nextOf (.ref it)) Q E s := by
  obtain ⟨o, g1, g2, g3⟩ := id a
  obtain ⟨od, g4, g5, g6⟩ := id b
  have own : Builtin.Dict_items.ownsTuple "dict_valueiterator" = false := by decide
  unfold Builtin.SmallTypes.nextOf
  refine wpAny_bind (wpAny_callSpecial?_slot (name := Str.ofString "__next__") a.typeIs F.slot_dict_valueiterator_next (wpAny_call_entry F.slot_dict_valueiterator_next a.typeIs F.entry_dict_valueiterator_next ?_ (F.args_dict_valueiterator_next_1 _)))
  refine wpAny_bind (wpAny_pure (wpAny_bind (wpAny_bind ?_)))
  first | refine wpAny_bind (wpAny_typeNameOfWhole_valiter a.typeIs (wpAny_pure ?_)) | refine wpAny_bind (wpAny_typeNameOf_valiter a.typeIs (wpAny_pure ?_))
  refine wpAny_bind (wpAny_fieldsOf g1 g3 ?_)
  simp only [own, Bool.false_eq_true, if_false]
  show wpAny _ _ (if (Value.ref d == Value.none) = true then _ else _) _ _ s
  rw [if_neg (show ¬ ((Value.ref d == Value.none) = true) from Bool.false_ne_true)]
  refine wpAny_bind (wpAny_pure (wpAny_bind (wpAny_dictEntries g4 g6 ?_)))
  rw [if_neg (by simp)]
  refine wpAny_bind (wpAny_pure (wpAny_bind (wpAny_dictEpoch g4 g6 ?_)))
  rw [if_neg (by simp)]
  refine wpAny_pure ?_
  simp only [show ¬ ((i : Int) < 0) from by omega, if_false, Int.toNat_natCast, Array.getElem?_eq_getElem lt]
  refine wpAny_bind ?_
  first | refine wpAny_bind (wpAny_typeNameOfWhole_valiter a.typeIs (wpAny_pure ?_)) | refine wpAny_bind (wpAny_typeNameOf_valiter a.typeIs (wpAny_pure ?_))
  refine wpAny_bind (wpAny_isOneOf_valiter a.typeIs ?_)
  show wpAny _ _ (setField (.ref it) 1 (rawInt ((i : Int) + 1)) >>= _) _ _ s
  refine wpAny_bind (wpAny_setField g1 g3 (by simp) ?_)
  have a' : (s.heap.update it (Obj.mapFields (·.setIfInBounds 1 (rawInt ((i : Int) + 1))))).IsValIter it d (i + 1) es.size ep :=
    ⟨_, Heap.get?_update_self _ g1 (Obj.isFreed_of_fields (Obj.data_mapFields g3 _)), (Obj.cls_mapFields ..).trans g2, by rw [Obj.data_mapFields g3]; simp [rawInt]⟩
  refine wpAny_bind (wpAny_holding (wpAny_bind (wpAny_isOneOf_valiter (s := { s with heap := s.heap.update it (Obj.mapFields (·.setIfInBounds 1 (rawInt ((i : Int) + 1)))) }) a'.typeIs ?_)))
  refine wpAny_bind (wpAny_isOneOf_valiter (s := { s with heap := s.heap.update it (Obj.mapFields (·.setIfInBounds 1 (rawInt ((i : Int) + 1)))) }) a'.typeIs ?_)
  show wpAny _ _ (pure es[i].val) _ _ _
  exact wpAny_pure (wpAny_pure ⟨_, rfl, wpAny_pure (q _ a' (Heap.SameBut.update ..))⟩)
theorem nk_end {Q : Value → Shared → Prop} (hh : A.handled = none) (a : s.heap.IsKeyIter it d i es.size ep) (b : s.heap.DictRaw d es ep) (ge : es.size ≤ i)
    (q : ∀ h' e, Heap.ExtBut it s.heap h' → (∃ o, h'.get? e = some o ∧ o.cls = .type "StopIteration") → E (.ref e) { s with heap := h' }) : wpAny (model prog w) A (Builtin.SmallTypes.nextOf (.ref it)) Q E s := by
  obtain ⟨o, g1, g2, g3⟩ := id a
  obtain ⟨od, g4, g5, g6⟩ := id b
  have own : Builtin.Dict_items.ownsTuple "dict_keyiterator" = false := by decide
  unfold Builtin.SmallTypes.nextOf
  refine wpAny_bind (wpAny_callSpecial?_slot (name := Str.ofString "__next__") a.typeIs F.slot_dict_keyiterator_next (wpAny_call_entry F.slot_dict_keyiterator_next a.typeIs F.entry_dict_keyiterator_next ?_ (F.args_dict_keyiterator_next_1 _)))
  refine wpAny_bind (wpAny_pure (wpAny_bind (wpAny_bind ?_)))
  first | refine wpAny_bind (wpAny_typeNameOfWhole_keyiter a.typeIs (wpAny_pure ?_)) | refine wpAny_bind (wpAny_typeNameOf_keyiter a.typeIs (wpAny_pure ?_))
  refine wpAny_bind (wpAny_fieldsOf g1 g3 ?_)
  simp only [own, Bool.false_eq_true, if_false]
  show wpAny _ _ (if (Value.ref d == Value.none) = true then _ else _) _ _ s
  rw [if_neg (show ¬ ((Value.ref d == Value.none) = true) from Bool.false_ne_true)]
  refine wpAny_bind (wpAny_pure (wpAny_bind (wpAny_dictEntries g4 g6 ?_)))
  rw [if_neg (by simp)]
  refine wpAny_bind (wpAny_pure (wpAny_bind (wpAny_dictEpoch g4 g6 ?_)))
  rw [if_neg (by simp)]
  refine wpAny_pure ?_
  simp only [show ¬ ((i : Int) < 0) from by omega, if_false, Int.toNat_natCast, Array.getElem?_eq_none ge]
  refine wpAny_bind ?_
  first | refine wpAny_bind (wpAny_typeNameOfWhole_keyiter a.typeIs (wpAny_pure ?_)) | refine wpAny_bind (wpAny_typeNameOf_keyiter a.typeIs (wpAny_pure ?_))
  show wpAny _ _ (setField (.ref it) 0 .none >>= _) _ _ s
  refine wpAny_bind (wpAny_setField g1 g3 (by simp) ?_)
  show wpAny _ _ (newExc (.type "StopIteration") [] >>= _) _ _ _
  refine wpAny_bind ?_
  simp only [newExc, newTuple]
  refine wpAny_bind (wpAny_newObj_type ?_ (by size_fits))
  refine wpAny_bind (m := firstArgMember _ _) (wpAny_of_eq (a := Value.none) (by first | rfl | (simp only [firstArgMember]; rfl)) (wpAny_newObj_type ?_ (by size_fits)))
  simp only [raiseNew]
  refine wpAny_bind (wpAny_handled ?_)
  first | rw [show A.in1.handled = none from hh] | rw [hh]
  exact wpAny_bind (wpAny_pure (wpAny_throw (q _ _ (((Heap.SameBut.update ..).extBut.push _).push _) ⟨_, Heap.get?_push_size _ rfl, rfl⟩)))
theorem nv_end {Q : Value → Shared → Prop} (hh : A.handled = none) (a : s.heap.IsValIter it d i es.size ep) (b : s.heap.DictRaw d es ep) (ge : es.size ≤ i)
    (q : ∀ h' e, Heap.ExtBut it s.heap h' → (∃ o, h'.get? e = some o ∧ o.cls = .type "StopIteration") → E (.ref e) { s with heap := h' }) : wpAny (model prog w) A (Builtin.SmallTypes.nextOf (.ref it)) Q E s := by
  obtain ⟨o, g1, g2, g3⟩ := id a
  obtain ⟨od, g4, g5, g6⟩ := id b
  have own : Builtin.Dict_items.ownsTuple "dict_valueiterator" = false := by decide
  unfold Builtin.SmallTypes.nextOf
  refine wpAny_bind (wpAny_callSpecial?_slot (name := Str.ofString "__next__") a.typeIs F.slot_dict_valueiterator_next (wpAny_call_entry F.slot_dict_valueiterator_next a.typeIs F.entry_dict_valueiterator_next ?_ (F.args_dict_valueiterator_next_1 _)))
  refine wpAny_bind (wpAny_pure (wpAny_bind (wpAny_bind ?_)))
  first | refine wpAny_bind (wpAny_typeNameOfWhole_valiter a.typeIs (wpAny_pure ?_)) | refine wpAny_bind (wpAny_typeNameOf_valiter a.typeIs (wpAny_pure ?_))
  refine wpAny_bind (wpAny_fieldsOf g1 g3 ?_)
  simp only [own, Bool.false_eq_true, if_false]
  show wpAny _ _ (if (Value.ref d == Value.none) = true then _ else _) _ _ s
  rw [if_neg (show ¬ ((Value.ref d == Value.none) = true) from Bool.false_ne_true)]
  refine wpAny_bind (wpAny_pure (wpAny_bind (wpAny_dictEntries g4 g6 ?_)))
  rw [if_neg (by simp)]
  refine wpAny_bind (wpAny_pure (wpAny_bind (wpAny_dictEpoch g4 g6 ?_)))
  rw [if_neg (by simp)]
  refine wpAny_pure ?_
  simp only [show ¬ ((i : Int) < 0) from by omega, if_false, Int.toNat_natCast, Array.getElem?_eq_none ge]
  refine wpAny_bind ?_
  first | refine wpAny_bind (wpAny_typeNameOfWhole_valiter a.typeIs (wpAny_pure ?_)) | refine wpAny_bind (wpAny_typeNameOf_valiter a.typeIs (wpAny_pure ?_))
  show wpAny _ _ (setField (.ref it) 0 .none >>= _) _ _ s
  refine wpAny_bind (wpAny_setField g1 g3 (by simp) ?_)
  show wpAny _ _ (newExc (.type "StopIteration") [] >>= _) _ _ _
  refine wpAny_bind ?_
  simp only [newExc, newTuple]
  refine wpAny_bind (wpAny_newObj_type ?_ (by size_fits))
  refine wpAny_bind (m := firstArgMember _ _) (wpAny_of_eq (a := Value.none) (by first | rfl | (simp only [firstArgMember]; rfl)) (wpAny_newObj_type ?_ (by size_fits)))
  simp only [raiseNew]
  refine wpAny_bind (wpAny_handled ?_)
  first | rw [show A.in1.handled = none from hh] | rw [hh]
  exact wpAny_bind (wpAny_pure (wpAny_throw (q _ _ (((Heap.SameBut.update ..).extBut.push _).push _) ⟨_, Heap.get?_push_size _ rfl, rfl⟩)))
end
theorem keysD {prog : Program} {w : World} {A : Around} (hh : A.handled = none) (it d : Addr) (ne : d ≠ it) (es : Array DictEntry) (ep : Nat) :
    Draws prog w A it [it, d] es.size (fun i v => ∃ h : i < es.size, v = es[i].key) (fun i h => h.IsKeyIter it d i es.size ep ∧ h.DictRaw d es ep) where
  live := fun _ _ st => let ⟨o, ho, _⟩ := st.1; ⟨o, ho⟩
  frame := fun _ _ _ st k => ⟨st.1.at fun o e => k it (by simp) o e, st.2.at fun o e => k d (by simp) o e⟩
  item := fun i s Q E lt st q => nk_item st.1 st.2 lt fun h' a b => q _ h' s.toks ⟨lt, rfl⟩ ⟨a, st.2.at fun o e => (b.2 d ne).trans e⟩ b
  done := fun s Q E st q => nk_end hh st.1 st.2 (Nat.le_refl _) q
theorem valsD {prog : Program} {w : World} {A : Around} (hh : A.handled = none) (it d : Addr) (ne : d ≠ it) (es : Array DictEntry) (ep : Nat) :
    Draws prog w A it [it, d] es.size (fun i v => ∃ h : i < es.size, v = es[i].val) (fun i h => h.IsValIter it d i es.size ep ∧ h.DictRaw d es ep) where
  live := fun _ _ st => let ⟨o, ho, _⟩ := st.1; ⟨o, ho⟩
  frame := fun _ _ _ st k => ⟨st.1.at fun o e => k it (by simp) o e, st.2.at fun o e => k d (by simp) o e⟩
  item := fun i s Q E lt st q => nv_item st.1 st.2 lt fun h' a b => q _ h' s.toks ⟨lt, rfl⟩ ⟨a, st.2.at fun o e => (b.2 d ne).trans e⟩ b
  done := fun s Q E st q => nv_end hh st.1 st.2 (Nat.le_refl _) q
theorem keysB (d : Addr) (lo : (d == sysModules) = false) (es : Array DictEntry) (ep : Nat) : Begins (.ref d) { cls := .type "dict_keyiterator", data := .fields #[.ref d, .int 0 0, .int es.size 0, .int ep 0] } fun h => h.DictRaw d es ep where
  iter := fun prog w A E s Q hl h => wpAny_pyIter_dict_raw lo hl h
  keeps := fun h h' x k => x.at fun o e => k d o e
  free := rfl
theorem valsB (v d : Addr) (es : Array DictEntry) (ep : Nat) : Begins (.ref v) { cls := .type "dict_valueiterator", data := .fields #[.ref d, .int 0 0, .int es.size 0, .int ep 0] } fun h => h.IsValuesView v d ∧ h.DictRaw d es ep where
  iter := fun prog w A E s Q hl h => wpAny_pyIter_values_raw hl.1 hl.2 h
  keeps := fun h h' x k => ⟨let ⟨o, ho, r⟩ := x.1; ⟨o, k v o ho, r⟩, x.2.at fun o e => k d o e⟩
  free := rfl
/-- an iterator of class C over the locked dict at d -/
def ItAt (C : String) (h : Heap) (it d : Addr) (i n ep : Nat) : Prop := ∃ o, h.get? it = some o ∧ o.cls = .type C ∧ o.data = .fields #[.ref d, .int i 0, .int n 0, .int ep 0]
/-- each item in a new pair with its place -/
def Ied (pk : Key × V → V) (d : Addr) (o : Obj) (kvs : List (Key × V)) : It :=
  ⟨fun i H => H d = some (.frz o (.dK kvs)) ∧ i < kvs.length, fun i H v H' => ∃ T p, kvs[i]? = some p ∧ v = .ref T ∧ H T = none ∧ H' = upd H T (.tup [.int (i : Nat), pk p]), fun i H => H d = some (.frz o (.dK kvs)) ∧ kvs.length = i⟩
abbrev keyP : Key × V → V := fun p => kV p.1
abbrev valP : Key × V → V := fun p => p.2

theorem turn_ed {P : Program} {w : World} {K : PySem.W.Frag} {elts : List Expr} {kk : Nat} {tpos : Pos} {kvs : List (Key × V)} {o : Obj} {C : String} (nC : C ≠ "enumerate") (nD : C ≠ "dict") (pk : Key × V → V) (Pz : Array DictEntry → Nat → Value → Prop)
    (hD : ∀ (A : Around), A.handled = none → ∀ (it d : Addr), d ≠ it → ∀ (es : Array DictEntry) (ep : Nat), Draws P w A it [it, d] es.size (Pz es) (fun i h => ItAt C h it d i es.size ep ∧ h.DictRaw d es ep))
    (hR : ∀ (es : Array DictEntry) (i : Nat) (lt : i < es.size) (p : Key × V) (u v : Value), Pz es i v → (mixKind P w).is p.1 es[i].key = true → es[i].val = u → RelV p.2 u → RelV (pk p) v)
    (d e it : Addr) (ep : Nat) (es0 : Array DictEntry) (hod : o.data = .dict es0 ep) :
    Turn P w K (.Tuple elts kk tpos) (Ied pk d o kvs) [e, it] e (fun i h => (∃ old, IsEnum h e it ((i : Nat) : Int) old) ∧ ItAt C h it d i kvs.length ep ∧ e ≠ it) where
  mem := by simp
  obj := fun i h st b hb => by
    obtain ⟨⟨old, he⟩, ⟨o, ho, hc, hd⟩, _⟩ := st
    have e' : b = e ∨ b = it := by simpa using hb
    rcases e' with z | z
    · rw [z]; exact ⟨_, he, fun v q => nomatch q⟩
    · rw [z]; exact ⟨o, ho, fun v q => by rw [hd] at q; cases q⟩
  keep := fun i h h' st k => let ⟨⟨old, he⟩, ⟨o, ho, r⟩, hne⟩ := st; ⟨⟨old, k e (by simp) _ he⟩, ⟨o, k it (by simp) o ho, r⟩, hne⟩
  item := by
    intro X hP hw hK hc i pins s σ H E I hf st hg
    subst hP hw hK
    obtain ⟨⟨old, he⟩, hit, hne⟩ := st
    obtain ⟨hd, hi⟩ := hg
    obtain ⟨lo, hgd, hx, es, ep', vs, hdt, hsz, kv, hm⟩ := I.frzK hd
    obtain ⟨rfl, rfl⟩ := dict_ep hod hdt
    obtain ⟨o2, es2, a1, a2, a3, _, hp, _⟩ := hm
    rw [hgd] at a1
    cases a1
    obtain ⟨rfl, -⟩ := dict_ep hdt a3
    have raw : s.heap.DictRaw d es2 ep' := ⟨o, hgd, hx, hdt⟩
    obtain ⟨⟨k, v⟩, hkv⟩ : ∃ p, kvs[i]? = some p := ⟨kvs[i], List.getElem?_eq_getElem hi⟩
    obtain ⟨u, hu, ru⟩ := kv_get kv hkv
    have hl : kvs.length = vs.length := Paired.length kv
    rw [show kvs.length = es2.size by omega] at hit
    have lt : i < es2.size := by omega
    obtain ⟨p1, p2⟩ := hp.get? (e := es2[i]) (by simp [lt]) hu
    have hel : e < s.heap.objs.size := Heap.lt_size he
    have hil : it < s.heap.objs.size := by obtain ⟨_, q, _⟩ := hit; exact Heap.lt_size q
    have ai : d ≠ it := by
      obtain ⟨oi, a1, a2, _⟩ := hit
      exact apart hgd hx.1 a1 a2 (Ne.symm nD)
    have ae : e ∉ [it, d] := by
      have z : e ≠ d := apart he rfl hgd hx.1 (by decide)
      intro m
      rcases List.mem_cons.mp m with y | y
      · exact hne y
      · exact z (List.mem_singleton.mp y)
    refine wpAny_pyNext_enum_itemD (hD X.A.in1 (by have z := I.ok.hd hc; simpa using z) it d ai es2 _) he ⟨hit, raw⟩ lt hne ae fun u2 h' tk pu ho st' hT hsz2 hk => ?_
    have rz : RelV (pk (k, v)) u2 := hR es2 i lt (k, v) u u2 pu p1 p2 ru
    refine ⟨_, rfl, wpAny_letOwnedTupleGo_enum (s := { s with heap := h', toks := tk + 1 }) ho fun h'' he' sb => ?_⟩
    have hT2 : h''.get? s.heap.objs.size = some { cls := .type "tuple", data := .seq #[.int i tk, u2] } := (sb.2 _ (Nat.ne_of_gt hel)).trans hT
    have new : ObjOk X.prog X.w (upd H s.heap.objs.size (.tup [.int (i : Nat), pk (k, v)])) h'' s.heap.objs.size (.tup [.int (i : Nat), pk (k, v)]) :=
      ⟨by show 2 ≤ sizeLine; decide, [.int i tk, u2], .cons ⟨_, rfl⟩ (.cons rz .nil), ⟨_, hT2, rfl, _, rfl⟩⟩
    have I1 : Inv X pins σ (upd H s.heap.objs.size (.tup [.int (i : Nat), pk (k, v)])) { s with heap := h'', toks := tk + 1 } :=
      I.turnedNew (ch := [e, it]) (fun b ob hb q => (sb.2 b (fun z => hb (by simp [z]))).trans (hk b ob (fun z => hb (by simp [z])) (fun z => hb (by simp [z])) q)) hf (Nat.le_refl _) new
    refine ⟨.ref s.heap.objs.size, _, I1, rfl, ⟨_, (k, v), hkv, rfl, I.hok.fresh (Nat.le_refl _), rfl⟩, ⟨⟨u2, ?_⟩, ?_, hne⟩, fun b hb => ?_⟩
    · have e1 : ((i + 1 : Nat) : Int) = (i : Int) + 1 := by omega
      rw [e1]; exact he'
    · obtain ⟨oi, a1, a2, a3⟩ := st'.1
      rw [show kvs.length = es2.size by omega]
      exact ⟨oi, (sb.2 it (Ne.symm hne)).trans a1, a2, a3⟩
    · have hb' : b < s.heap.objs.size := by
        have e' : b = e ∨ b = it := by simpa using hb
        rcases e' with z | z
        · rw [z]; exact hel
        · rw [z]; exact hil
      rw [upd_ne (Nat.ne_of_lt hb')]
      exact (hf b hb).1
  done := by
    intro X hP hw hK hc i pins s σ H E I hf st hg
    subst hP hw hK
    obtain ⟨⟨old, he⟩, hit, hne⟩ := st
    obtain ⟨hd, hi⟩ := hg
    obtain ⟨lo, hgd, hx, es, ep', vs, hdt, hsz, kv, hm⟩ := I.frzK hd
    obtain ⟨rfl, rfl⟩ := dict_ep hod hdt
    obtain ⟨f0, f1, f2, f3, f4, f5⟩ := hf it (by simp)
    have raw : s.heap.DictRaw d es ep' := ⟨o, hgd, hx, hdt⟩
    rw [← hsz] at hit
    have ai : d ≠ it := by
      obtain ⟨oi, a1, a2, _⟩ := hit
      exact apart hgd hx.1 a1 a2 (Ne.symm nD)
    obtain rfl : i = es.size := by omega
    exact wpAny_pyNext_enum_endD (hD X.A.in1 (by have z := I.ok.hd hc; simpa using z) it d ai es _) he ⟨hit, raw⟩ fun h' eb => ⟨rfl, I.turned (t' := s.toks) (fun b o hb q => eb b o hb q) f0 f1 f3 f4 f5⟩
  self := fun A i s Q E st h => let ⟨⟨_, he⟩, _⟩ := st; wpAny_pyIter_enum he h

theorem walk_ed {pk : Key × V → V} {d : Addr} {o : Obj} {kvs : List (Key × V)} : Walk (Ied pk d o kvs) kvs.length (fun H => H d = some (.frz o (.dK kvs))) (fun i H v H' => ∃ T p, kvs[i]? = some p ∧ v = .ref T ∧ H T = none ∧ H' = upd H T (.tup [.int (i : Nat), pk p])) :=
  ⟨fun _ _ hi q => ⟨q, hi⟩, fun _ q => ⟨q, rfl⟩, fun _ _ _ _ _ _ y => y⟩
theorem turn_edK {P : Program} {w : World} {K : PySem.W.Frag} {elts : List Expr} {kk : Nat} {tpos : Pos} {kvs : List (Key × V)} {o : Obj} (d e it : Addr) (ep : Nat) (es0 : Array DictEntry) (hod : o.data = .dict es0 ep) :
    Turn P w K (.Tuple elts kk tpos) (Ied keyP d o kvs) [e, it] e (fun i h => (∃ old, IsEnum h e it ((i : Nat) : Int) old) ∧ ItAt "dict_keyiterator" h it d i kvs.length ep ∧ e ≠ it) :=
  turn_ed (by decide) (by decide) keyP (fun es i v => ∃ h : i < es.size, v = es[i].key) (fun A hh it d ne es ep => keysD hh it d ne es ep) (fun es i lt p u v z k _ _ => by
    obtain ⟨_, rfl⟩ := z
    exact relV_key (show keyIs p.1 _ = true from k)) d e it ep es0 hod
theorem turn_edV {P : Program} {w : World} {K : PySem.W.Frag} {elts : List Expr} {kk : Nat} {tpos : Pos} {kvs : List (Key × V)} {o : Obj} (d e it : Addr) (ep : Nat) (es0 : Array DictEntry) (hod : o.data = .dict es0 ep) :
    Turn P w K (.Tuple elts kk tpos) (Ied valP d o kvs) [e, it] e (fun i h => (∃ old, IsEnum h e it ((i : Nat) : Int) old) ∧ ItAt "dict_valueiterator" h it d i kvs.length ep ∧ e ≠ it) :=
  turn_ed (by decide) (by decide) valP (fun es i v => ∃ h : i < es.size, v = es[i].val) (fun A hh it d ne es ep => valsD hh it d ne es ep) (fun es i lt p u v z _ k r => by
    obtain ⟨_, rfl⟩ := z
    exact k ▸ r) d e it ep es0 hod
def iEnumK (ta : TA) : TI := fun σ H R => ta σ H fun vs H1 => ∃ d o kvs, vs = [.ref d] ∧ H1 d = some (.frz o (.dK kvs)) ∧ R (Ied keyP d o kvs) H1
def iEnumV (ta : TA) : TI := fun σ H R => ta σ H fun vs H1 => ∃ v d o kvs, vs = [.ref v] ∧ H1 v = some (.ext fun h => h.IsValuesView v d) ∧ H1 d = some (.frz o (.dK kvs)) ∧ R (Ied valP d o kvs) H1
section
variable {X : Cx}
theorem pi_enumK {e : Expr} {ta : TA} {p pos tpos : Pos} {elts : List Expr} {kk : Nat} (hg : Gl X "enumerate") (hm : X.mg "enumerate" = none) (ha : PA X [e] ta) (hs : starEach [e] X.env = [(false, eval e X.env)] := by rfl) :
    PI X (.Tuple elts kk tpos) (.Call (.Name "enumerate" p) [e] [] pos) (iEnumK ta) := by
  refine ⟨fun pins s σ H R I h => ?_⟩
  refine Call_ (ld_blt I hg hm boot_enumerate (PyProof.Rows.callWith_type1 (thn (ha.run pos pins s σ H _ I h) fun us s1 ⟨vs, H1, I1, r1, q1⟩ => ?_) hs rfl))
  obtain ⟨d, o, kvs, ex, hd, q⟩ := q1
  subst ex
  cases r1 with
  | cons r rr =>
    cases rr
    cases r
    obtain ⟨lo, hgd, hx, es, ep, vs, hdt, hsz, kv, hm⟩ := I1.frzK hd
    have raw : s1.heap.DictRaw d es ep := ⟨o, hgd, hx, hdt⟩
    refine begun1 (keysB d lo es ep) raw fun h' he hit hk => wpAny_pyIter_enum he ?_
    have I2 : Inv X pins σ H1 { s1 with heap := h' } := I1.kept (t' := s1.toks) hk
    refine ⟨s1.heap.objs.size + 1, [s1.heap.objs.size + 1, s1.heap.objs.size], _, _, H1, rfl, I2, turn_edK d (s1.heap.objs.size + 1) s1.heap.objs.size ep es hdt, ⟨⟨.none, he⟩, ⟨_, hit, rfl, by rw [hsz] <;> rfl⟩, Nat.succ_ne_self _⟩, fun b hb => ?_, q⟩
    have hle : s1.heap.objs.size ≤ b := by
      have e' : b = s1.heap.objs.size + 1 ∨ b = s1.heap.objs.size := by simpa using hb
      rcases e' with z | z
      · rw [z]; exact Nat.le_add_right _ _
      · rw [z]; exact Nat.le_refl _
    exact I1.fpOk hle (I1.hok.fresh hle)
theorem pi_enumV {e : Expr} {ta : TA} {p pos tpos : Pos} {elts : List Expr} {kk : Nat} (hg : Gl X "enumerate") (hm : X.mg "enumerate" = none) (ha : PA X [e] ta) (hs : starEach [e] X.env = [(false, eval e X.env)] := by rfl) :
    PI X (.Tuple elts kk tpos) (.Call (.Name "enumerate" p) [e] [] pos) (iEnumV ta) := by
  refine ⟨fun pins s σ H R I h => ?_⟩
  refine Call_ (ld_blt I hg hm boot_enumerate (PyProof.Rows.callWith_type1 (thn (ha.run pos pins s σ H _ I h) fun us s1 ⟨vs, H1, I1, r1, q1⟩ => ?_) hs rfl))
  obtain ⟨v, d, o, kvs, ex, hv, hd, q⟩ := q1
  subst ex
  cases r1 with
  | cons r rr =>
    cases rr
    cases r
    obtain ⟨lo, hgd, hx, es, ep, vs, hdt, hsz, kv, hm⟩ := I1.frzK hd
    have raw : s1.heap.DictRaw d es ep := ⟨o, hgd, hx, hdt⟩
    have view : s1.heap.IsValuesView v d := (show ObjOk X.prog X.w H1 s1.heap v (.ext fun h => h.IsValuesView v d) from I1.hok v _ hv).1
    refine begun1 (valsB v d es ep) ⟨view, raw⟩ fun h' he hit hk => wpAny_pyIter_enum he ?_
    have I2 : Inv X pins σ H1 { s1 with heap := h' } := I1.kept (t' := s1.toks) hk
    refine ⟨s1.heap.objs.size + 1, [s1.heap.objs.size + 1, s1.heap.objs.size], _, _, H1, rfl, I2, turn_edV d (s1.heap.objs.size + 1) s1.heap.objs.size ep es hdt, ⟨⟨.none, he⟩, ⟨_, hit, rfl, by rw [hsz] <;> rfl⟩, Nat.succ_ne_self _⟩, fun b hb => ?_, q⟩
    have hle : s1.heap.objs.size ≤ b := by
      have e' : b = s1.heap.objs.size + 1 ∨ b = s1.heap.objs.size := by simpa using hb
      rcases e' with z | z
      · rw [z]; exact Nat.le_add_right _ _
      · rw [z]; exact Nat.le_refl _
    exact I1.fpOk hle (I1.hok.fresh hle)
/-- d.values() as a value -/
theorem pe_view {e : Expr} {td : TE} {apos cpos : Pos} (he : PE X e td) (hbase : attributeBase e "values" X.env (eval e X.env) = eval e X.env := by rfl) (hline : (apos.endLine == cpos.line) = true := by rfl) :
    PE X (.Call (.Attribute e "values" apos) [] [] cpos) (fun σ H Q => td σ H fun x H1 => ∃ d o kvs, x = .ref d ∧ H1 d = some (.frz o (.dK kvs)) ∧ ∀ v, H1 v = none → Q (.ref v) (upd H1 v (.ext fun h => h.IsValuesView v d))) := by
  refine ⟨fun pins s σ H Q I h => ?_⟩
  refine wpAny_Call_method (T := "dict") (id := "dict.values") hbase rfl hline F.plainAttrs_dict F.slot_dict_values F.type_dict_values (thn (he.run pins s σ H _ I h) fun u s1 ⟨x, H1, I1, rx, d, o, kvs, ex, hd, q⟩ => ?_)
  subst ex
  obtain rfl : u = Value.ref d := rx
  obtain ⟨lo, hgd, hx, es, ep, vs, hdt, hsz, kv, hm⟩ := I1.frzK hd
  have raw : s1.heap.DictRaw d es ep := ⟨o, hgd, hx, hdt⟩
  refine ⟨raw.typeIs, (show s1.heap.DictAt (mixKind X.prog X.w) d vs ep from hm).dictOf.mapOf.noDict, ?_⟩
  have na := I1.hok.fresh (Nat.le_refl _)
  have new : ObjOk X.prog X.w (upd H1 s1.heap.objs.size (.ext fun h => h.IsValuesView s1.heap.objs.size d)) (s1.heap.push { cls := .type "dict_values", data := .fields #[.ref d] }) s1.heap.objs.size (.ext fun h => h.IsValuesView s1.heap.objs.size d) :=
    ⟨⟨_, Heap.get?_push_size _ rfl, rfl, rfl⟩, ⟨_, Heap.get?_push_size _ rfl⟩, fun h1 h2 z k => let ⟨o, ho, r⟩ := z; ⟨o, k o ho, r⟩⟩
  have fin : EP X pins σ Q (.ref s1.heap.objs.size) { s1 with heap := s1.heap.push { cls := .type "dict_values", data := .fields #[.ref d] } } :=
    ⟨.ref s1.heap.objs.size, _, I1.laid (a := s1.heap.objs.size) (t' := s1.toks) (fun _ _ q => Heap.get?_push_of_some _ q) (Nat.le_refl _) new, rfl, q _ na⟩
  show wpAny _ _ (callWith cpos (.builtin "dict.values") [.ref d] [] []) _ X.xe s1
  exact method_meetsIn F.slot_dict_values F.entry_dict_values rfl (PySem.evalArgs_none ⟨rfl, raw.typeIs, F.args_dict_values_1 _, _, meets_dict_values_raw d lo, ⟨_, _, raw⟩, fin⟩)
end
end EK

set_option maxHeartbeats 4000000
namespace PP
open PySem PySem.Spec PyProof.Rows L2 G3 M0 PA
section
variable {P : Program} {w : World} {K : PySem.W.Frag} {mg : Str → Option Value} {base : Heap}
def spLook (K : PySem.W.Frag) : Sp := fun vs H Q _ => ∃ (v : V) (p : Prog), vs = [v] ∧ Dp K H v (progD p) ∧ ProgOk p ∧ ∀ H', Same H H' → Q .non H'
set_option maxHeartbeats 8000000 in
theorem ok_look {f : Addr} {fd : FuncData} {k : Nat} {t4 t8 t9 : Tok} (F : Fun K "look_at_program" "look_at_program" s_look_at_program f fd) (DB : Def P w K mg base CX0 (k + 1) "are_boxes" ["thing", "most", "greatest", "sizes"] (spBoxes K))
    (DC : Def P w K mg base CX0 (k + 1) "scopes_of" ["common", "hands"] (spScopes K)) (DA : Def P w K mg base CX0 (k + 1) "are_all_rows" ["scopes"] (spAll K))
    (mi : mg "isinstance" = none) (mt : mg "tuple" = none) (ml : mg "len" = none) (m4 : mg "MOST_HANDS" = some (.int 4 t4)) (m8 : mg "MOST_COMMON" = some (.int 8 t8)) (m9 : mg "GREATEST_COMMON" = some (.int 4 t9)) :
    FnOk P w K mg base CX0 (k + 1 + 1) f fd ["thing"] (spLook K) := by
  refine F.ok scLook (fun vs H Q E h => ?_) (fun cdv A outer s H vs Q E hr h => ?_)
  · obtain ⟨v, p, rfl, _⟩ := h
    rfl
  obtain ⟨v, p, rfl, hv, ok, q⟩ := h
  have nd := scLook.nd
  refine ⟨_, pss_cons (ps_if (PW.pt (pw_or (pt_not (pt_val (pe_callB call_isi (by rfl) mi PyProof.Rows.boot_isinstance (pa_cons (pv 0) (pa_cons (pe_bltn (by rfl) mt (u := .type "tuple") (by decide +kernel) (show RelV (.ty "tuple") (.type "tuple") from rfl)) pa_nil)))))
          (pw_or1 (pt_cmpR op_ne (pe_callB call_len_seq (by rfl) ml PySem.boot_len (pa_cons (pv 0) pa_nil)) pe_int (nomark _))))) (pss_one ps_dead) pss_nil)
    (pss_cons (ps_asg (pv 0) (pg_tup rfl (pgs_cons (pg_name (i := 1) nd rfl (.inl rfl)) (pgs_cons (pg_name (i := 2) nd rfl (.inl rfl)) pgs_nil))))
    (pss_cons (ps_set (i := 3) nd rfl (.inl rfl) pe_dnewK)
    (pss_cons (ps_if (PW.pt (pw_or (pt_not (pt_val (pe_callB call_isi (by rfl) mi PyProof.Rows.boot_isinstance (pa_cons (pv 2) (pa_cons (pe_bltn (by rfl) mt (u := .type "tuple") (by decide +kernel) (show RelV (.ty "tuple") (.type "tuple") from rfl)) pa_nil)))))
          (pw_or1 (pt_not (pt_chain op_le op_le pe_int (pe_callB call_len_seq (by rfl) ml PySem.boot_len (pa_cons (pv 2) pa_nil)) (pe_glob (v := .int 4) (by rfl) m4 ⟨_, rfl⟩)))))) (pss_one ps_dead) pss_nil)
    (pss_cons (ps_if (pt_not (pt_val (pe_call DB.ok hr (by rfl) DB.g DB.kp DB.b .nil pass0 (pa_cons (pv 1) (pa_cons (pe_glob (v := .int 8) (by rfl) m8 ⟨_, rfl⟩) (pa_cons (pe_glob (v := .int 4) (by rfl) m9 ⟨_, rfl⟩) (pa_cons (pv 3) pa_nil))))))) (pss_one ps_dead) pss_nil)
    (pss_cons (ps_set (i := 4) nd rfl (.inl rfl) (pe_call DC.ok hr (by rfl) DC.g DC.kp DC.b .nil pass0 (pa_cons (pv 3) (pa_cons (pv 2) pa_nil))))
    (pss_one (ps_if (pt_not (pt_val (pe_call DA.ok hr (by rfl) DA.g DA.kp DA.b .nil pass0 (pa_cons (pv 4) pa_nil)))) (pss_one ps_dead) pss_nil))))))), ?_⟩
  obtain ⟨a, v1, v2, rfl, ha, g1, g2⟩ := dp2 hv
  obtain ⟨ha2, xs, rfl, hs2, hall⟩ := dp_tup g2
  have hxl : xs.length = p.2.length := by rw [dpAll_len hall, List.length_map]
  have h1 := ok.one
  have h4 := ok.few
  refine ⟨_, rfl, _, _, _, _, _, rfl, .ty "tuple", dp_ty hv, kit_tup K hv, _, rfl, iteF ⟨_, rfl, a, _, rfl, .inr ha, rfl, _, rfl, iteNS rfl ?_⟩⟩
  refine ⟨_, rfl, a, _, rfl, ha, rfl, _, _, rfl, _, _, rfl, rfl, ?_⟩
  intro c nc
  have s1 : Same H (upd H c (.dK [])) := same_new nc
  have hs3 := same_tup s1 hs2
  have g3 := dp_same s1 _ _ g2
  refine ⟨_, rfl, _, _, _, _, _, rfl, .ty "tuple", dp_ty g3, kit_tup K g3, _, rfl, iteF ?_⟩
  refine ⟨_, rfl, ha2, _, rfl, .inr hs3, _, _, rfl, rfl, _, rfl, ?_⟩
  rw [decide_eq_true (show (1 : Int) ≤ (xs.length : Int) by omega)]
  refine iteT ⟨_, _, rfl, rfl, _, rfl, ?_⟩
  rw [decide_eq_true (show (xs.length : Int) ≤ 4 by omega)]
  have bx := ok.box
  have bl := bx.len
  refine iteF ⟨_, rfl, _, rfl, v1, p.1, 8, 4, c, [], rfl, dp_same s1 _ _ g1, upd_same, ?_, bx.len, fun b hb => ?_, bx.nd, _, rfl, iteF ?_⟩
  · show 0 + p.1.length ≤ 1000
    omega
  · obtain ⟨q1, q2, q3, q4⟩ := bx.nm b hb
    exact ⟨q1, q2, q3, rfl⟩
  have e2 : upd (upd H c (.dK [])) c (.dK ([] ++ p.1.map boxK)) = upd H c (.dK (p.1.map boxK)) := by
    funext b
    by_cases e : b = c
    · rw [e, upd_same, upd_same]
      rfl
    · rw [upd_ne e, upd_ne e, upd_ne e]
  rw [e2]
  have s2 : Same H (upd H c (.dK (p.1.map boxK))) := same_new nc
  refine ⟨_, rfl, _, rfl, c, .ref ha2, p.1, p.2, rfl, upd_same, bl, dp_same s2 _ _ g2, ⟨h4, ok.nm, ok.nd, ok.own, fun h hh => ?_⟩, fun H3 sc s3 nsc hat => ?_⟩
  · have t := ok.txt h hh
    exact ⟨t.one, t.few, t.nm, t.nd⟩
  · exact ⟨_, rfl, sc, _, p.1, p.2, rfl, s3, nsc, hat, ok.txt, fun H4 s4 => ⟨_, rfl, iteF (q _ ((s2.trans s3).trans s4))⟩⟩
end
end PP

set_option maxHeartbeats 4000000
namespace PP
open PySem PySem.Spec PyProof.Rows L2 G3 M0 PA EE QA EK
/-- a lock let go by hand -/
theorem ps_unlk {X : Cx} {st : Stmt} {t : TS} (h : PS X st t) : PS X st (fun D σ H => ∃ d od u, H d = some (.frz od u) ∧ (∀ o' u', X.H_0 d ≠ some (.frz o' u')) ∧ t D σ (upd H d u)) :=
  ⟨fun pins s σ H D I ⟨d, od, u, e, n, q⟩ => h.run pins s σ _ D (I.unlock e n) q⟩
def rowsG (bs : List Box) (names : List Str) (h : HnD) (t : TxD) : Bool := t.2.all (rowP (bs ++ h.own) (h.ts.map (·.1)) names h.nm t.2.length)
def handG (bs : List Box) (names : List Str) (h : HnD) : Bool := h.ts.all (rowsG bs names h)
theorem all_no {α : Type} {l : List α} {p : α → Bool} {x : α} (h : x ∈ l) (e : p x = false) : l.all p = false := by
  rw [Bool.eq_false_iff]
  intro q
  rw [List.all_eq_true.mp q x h] at e
  cases e
theorem take_all {α : Type} {l : List α} {p : α → Bool} {i : Nat} {x : α} (h : (l.take i).all p = true) (e : l[i]? = some x) (q : p x = true) : (l.take (i + 1)).all p = true := by
  rw [List.take_add_one, e, List.all_append, h]
  simp [q]
section
variable {P : Program} {w : World} {K : PySem.W.Frag} {mg : Str → Option Value} {base : Heap}
def spAllA (K : PySem.W.Frag) : Sp := fun vs H Q _ => ∃ (sc : Addr) (H0 : Hp) (bs : List Box) (hs : List HnD) (kvs : List (Key × V)), vs = [.ref sc] ∧ Same H0 H ∧ H0 sc = none ∧ ScD K H0 H sc bs hs kvs ∧
  (hs.all (handG bs (hs.map (·.nm))) = true → ∀ H', Same H H' → Q (.bl true) H') ∧ (hs.all (handG bs (hs.map (·.nm))) = false → ∀ H', Same H H' → Q (.bl false) H')
set_option maxHeartbeats 16000000 in
theorem ok_allA {f : Addr} {fd : FuncData} {k : Nat} (F : Fun K "are_all_rows" "are_all_rows" s_are_all_rows f fd) (DR : Def P w K mg base (L2.CX P w) (k + 1) "are_rows" ["rows", "end", "sizes", "texts", "hands", "name"] (spRowsA K)) (ml : mg "len" = none) (mk : mg "KeyError" = none) : FnOk P w K mg base CX0 (k + 1 + 1) f fd ["scopes"] (spAllA K) := by
  refine F.ok scAll (fun vs H Q E h => ?_) (fun cdv A outer s H vs Q E hr h => ?_)
  · obtain ⟨sc, H0, bs, hs, kvs, rfl, _⟩ := h
    rfl
  obtain ⟨sc, H0, bs, hs, kvs, rfl, s0, nsc, ⟨hsc, hkl, hkn, hat⟩, qy, qn⟩ := h
  have nd := scAll.nd
  refine ⟨_, pss_cons (ps_try_only (c := .type "KeyError") (tb := fun W => tLock (tFor (iItems (tVar 0)) (gTup K 2 (gCons (gName 1) (gCons (gTup K 2 (gCons (gName 2) (gCons (gName 3) gNil))) gNil)))
        (tLock (tFor (iVals (tVar 3)) (gName 4) (tIfS (tNot (tB (tCallS (spRowsA K) (WE W) (tCons (tVar 4) (tCons (tCB (fun xs H Q => ∃ p ys, xs = [.ref p] ∧ (SqL K H p ys ∨ SqT K H p ys) ∧ Q (.int ys.length) H) (tCons (tVar 4) tNil)) (tCons (tVar 2) (tCons (tVar 3) (tCons (tVar 0) (tCons (tVar 1) tNil))))))))) (tRet (tC (.bl false))) tNext)))))
      (ts := fun _ _ _ => fun D σ G => ∃ d od u, G d = some (.frz od u) ∧ (∀ o' u', H d ≠ some (.frz o' u')) ∧ ∃ d2 od2 u2, (upd G d u) d2 = some (.frz od2 u2) ∧ (∀ o' u', H d2 ≠ some (.frz o' u')) ∧ tRet (tC (.bl false)) D σ (upd (upd G d u) d2 u2))
      rfl rfl ⟨by rfl, by decide, .inr ⟨mk, by decide +kernel, by decide⟩⟩ takes0
      (fun W pn xe tk po => pss_one (ps_lock (ps_for po rfl (pi_items (pv 0)) (pg_tup rfl (pgs_cons (pg_name (i := 1) nd rfl (.inl rfl)) (pgs_cons (pg_tup rfl (pgs_cons (pg_name (i := 2) nd rfl (.inl rfl)) (pgs_cons (pg_name (i := 3) nd rfl (.inl rfl)) pgs_nil))) pgs_nil)))
        (pss_one (ps_lock (ps_for po rfl (pi_values (pv 3)) (pg_name (i := 4) nd rfl (.inl rfl))
          (pss_one (ps_if (pt_not (pt_val (pe_callS DR.ok hr (by rfl) DR.g DR.kp DR.b (fun σ => passAt tk σ) (pa_cons (pv 4) (pa_cons (pe_callB call_len_seq (by rfl) ml PySem.boot_len (pa_cons (pv 4) pa_nil)) (pa_cons (pv 2) (pa_cons (pv 3) (pa_cons (pv 0) (pa_cons (pv 1) pa_nil))))))))) (pss_one (ps_ret pe_bl)) pss_nil))))))))
      (fun a oe cls d pn _ _ => pss_one (ps_unlk (ps_unlk (ps_ret pe_bl)))))
    (pss_one (ps_ret pe_bl)), ?_⟩
  refine ⟨sc, .dK kvs, hsc, trivial, fun od => ⟨_, rfl, sc, od, kvs, rfl, upd_same, ?_⟩⟩
  refine for_it walk_items (fun i σ H3 => ∃ a1 a2 a3 a4, σ = [some (.ref sc), a1, a2, a3, a4] ∧ Same (upd H sc (.frz od (.dK kvs))) H3 ∧ (hs.take i).all (handG bs (hs.map (·.nm))) = true) ⟨_, _, _, _, rfl, fun _ _ z => z, rfl⟩ (fun i σ H3 _ p => ?_) (fun i y σ H3 H4 hi p hy => ?_) (fun σ H3 p => ?_)
  · obtain ⟨_, _, _, _, _, sm, _⟩ := p
    exact sm _ _ upd_same
  · obtain ⟨a1, a2, a3, a4, rfl, sm, hpre⟩ := p
    obtain ⟨T, k1, k2, rfl, nT, rfl, hk1, hk2⟩ := hy
    have hhi : i < hs.length := by omega
    have e1 : hs[i]? = some hs[i] := List.getElem?_eq_getElem hhi
    obtain ⟨en, e2, hA⟩ := hat i _ e1
    have hm : hs[i] ∈ hs := List.getElem_mem hhi
    simp only [e2, Option.map_some] at hk1 hk2
    generalize hs[i] = h at hA hm e1
    obtain ⟨t, z, x, kvx, rfl, ht, hz, hx, n1, n2, nxz, nx0, nz0, hxl, hxn, hxt⟩ := hA
    cases hk1
    cases hk2
    have keep : ∀ b o, b ≠ sc → H b = some o → H3 b = some o := fun b o nb e => sm b o (by rw [upd_ne nb]; exact e)
    have nt : t ≠ sc := fun e => by
      rw [e, hsc] at ht
      cases ht
    have ht3 := keep _ _ nt ht
    have hz3 := keep _ _ n1 hz
    have hx3 := keep _ _ n2 hx
    have hsc3 := sm _ _ upd_same
    have sT : Same H3 (upd H3 T (.tup [.str h.nm, .ref t])) := same_new nT
    have ht4 := sT _ _ ht3
    have hz4 := sT _ _ hz3
    have hx4 := sT _ _ hx3
    have hsc4 := sT _ _ hsc3
    have hT4 : (upd H3 T (.tup [.str h.nm, .ref t])) T = some (.tup [.str h.nm, .ref t]) := upd_same
    have sm4 := sm.trans sT
    show gTup K 2 _ _ _ (upd H3 T (.tup [.str h.nm, .ref t])) _
    generalize upd H3 T (.tup [.str h.nm, .ref t]) = G at sT ht4 hz4 hx4 hsc4 hT4 sm4 ⊢
    refine ⟨T, _, rfl, .inl (.inl hT4), rfl, _, _, rfl, _, _, rfl, t, _, rfl, .inl (.inl ht4), rfl, _, _, rfl, _, _, rfl, rfl, rfl, ?_⟩
    refine ⟨x, _, hx4, trivial, fun od2 => ⟨_, rfl, x, od2, _, rfl, upd_same, ?_⟩⟩
    refine for_it walk_values (fun j σ H5 => ∃ a4, σ = [some (.ref sc), some (.str h.nm), some (.ref z), some (.ref x), a4] ∧ Same (upd G x (.frz od2 (.dK kvx))) H5 ∧ (h.ts.take j).all (rowsG bs (hs.map (·.nm)) h) = true) ⟨_, rfl, fun _ _ z => z, rfl⟩ (fun j σ H5 _ p => ?_) (fun j y σ H5 H6 hj p hy => ?_) (fun σ H5 p => ?_)
    · obtain ⟨_, _, s5, _⟩ := p
      exact s5 _ _ upd_same
    · obtain ⟨w4, rfl, s5, hpre2⟩ := p
      obtain ⟨rfl, ky, hky⟩ := hy
      have hj1 : j < h.ts.length := by omega
      have ej : h.ts[j]? = some h.ts[j] := List.getElem?_eq_getElem hj1
      have hmt : h.ts[j] ∈ h.ts := List.getElem_mem hj1
      generalize h.ts[j] = te at ej hmt
      obtain ⟨y2, ey, hd0⟩ := hxt j te ej
      rw [hky] at ey
      cases ey
      have s05 : Same H0 H6 := fun b o e => by
        have nb1 : b ≠ sc := fun q => by
          rw [q, nsc] at e
          cases e
        have nb2 : b ≠ x := fun q => by
          rw [q, nx0] at e
          cases e
        refine s5 b o ?_
        rw [upd_ne nb2]
        refine sm4 b o ?_
        rw [upd_ne nb1]
        exact s0 b o e
      have hd5 := dp_same s05 _ _ hd0
      obtain ⟨ra, rws, rfl, hra, hrr, hrl⟩ := small_of hd5
      have hx6 := s5 _ _ upd_same
      have hsc6 := s5 sc _ (by rw [upd_ne (Ne.symm n2)]; exact hsc4)
      have rz : SizesE H6 z (bs ++ h.own) := ⟨_, .inl (s5 _ _ (by rw [upd_ne (Ne.symm nxz)]; exact hz4)), size_valA⟩
      have rx : KeysE H6 x (h.ts.map (·.1)) := ⟨kvx, .inr ⟨_, hx6⟩, hxn⟩
      have rsc : KeysE H6 sc (hs.map (·.nm)) := ⟨kvs, .inr ⟨_, hsc6⟩, hkn⟩
      refine ⟨_, rfl, _, rfl, ra, rws, rfl, .inr hra, _, rfl, _, rfl, _, rfl, _, rfl, .ref ra, te.2, _, z, x, sc, h.nm, bs ++ h.own, h.ts.map (·.1), hs.map (·.nm), rfl, hd5, rz, rx, rsc, fun good H7 s7 => ⟨_, rfl, iteF ?_⟩, fun bad H7 s7 => ?_⟩
      · rw [hrl] at good
        exact ⟨_, rfl, s5.trans s7, take_all hpre2 ej good⟩
      · rw [hrl] at bad
        have nr : rowsG bs (hs.map (·.nm)) h te = false := bad
        have nh : hs.all (handG bs (hs.map (·.nm))) = false := all_no hm (all_no hmt nr)
        have hx7 := s7 _ _ hx6
        have hsc7 := s7 _ _ hsc6
        have sG : Same G (upd H7 x (.dK kvx)) := unlock_same hx4 (s5.trans s7)
        have sc8 : (upd H7 x (.dK kvx)) sc = some (.frz od (.dK kvs)) := by rw [upd_ne (Ne.symm n2)]; exact hsc7
        have fin := qn nh _ (unlock_same hsc (sm4.trans sG))
        refine ⟨⟨_, rfl, iteT ⟨hx7, sc8, fin⟩⟩, fun d => ⟨true, by rfl, fun _ a ha => ?_, fun q => nomatch q⟩⟩
        refine ⟨x, od2, _, hx7, fun o' u' e => ?_, sc, od, _, sc8, fun o' u' e => ?_, fin⟩
        · have e2 : H x = some (.frz o' u') := e
          rw [hx] at e2
          cases e2
        · have e2 : H sc = some (.frz o' u') := e
          rw [hsc] at e2
          cases e2
    · obtain ⟨w4, rfl, s5, hpre2⟩ := p
      refine ⟨s5 _ _ upd_same, _, _, _, _, rfl, sm4.trans (unlock_same hx4 s5), take_all hpre e1 ?_⟩
      rw [hxl, List.take_length] at hpre2
      exact hpre2
  · obtain ⟨_, _, _, _, rfl, sm, hpre⟩ := p
    rw [hkl, List.take_length] at hpre
    exact ⟨sm _ _ upd_same, qy hpre _ (unlock_same hsc sm)⟩
end
end PP

set_option maxHeartbeats 4000000
namespace PP
open PySem PySem.Spec PyProof.Rows L2 G3 M0 PA EE QA EK EN
abbrev nIsRow : List Str := ["scopes", "name", "end", "row", "sizes", "texts"]
abbrev nRefuse : List Str := ["scopes", "hand", "name", "text", "rows", "at", "row"]
theorem scIsRow : FnScope nIsRow ["scopes", "name", "end", "row"] (defScope s_is_row_of) := ⟨rfl, rfl, rfl, by decide +kernel, rfl, by decide +kernel, by decide +kernel⟩
theorem scRefuse : FnScope nRefuse ["scopes"] (defScope s_refuse_first_wrong) := ⟨rfl, rfl, rfl, by decide +kernel, rfl, by decide +kernel, by decide +kernel⟩
section
variable {P : Program} {w : World} {K : PySem.W.Frag} {mg : Str → Option Value} {base : Heap}
def spIsRow (K : PySem.W.Frag) : Sp := fun vs H Q _ => ∃ (sc t z x : Addr) (nm : Str) (e : Int) (v : V) (d : Dt) (bs : List Box) (titles names : List Str), vs = [.ref sc, .str nm, .int e, v] ∧ DGet H sc (.str nm) (some (.ref t)) ∧ H t = some (.tup [.ref z, .ref x]) ∧ SizesE H z bs ∧ KeysE H x titles ∧ KeysE H sc names ∧ Dp K H v d ∧
  ∀ H', Same H H' → Q (.bl (rowP bs titles names nm e d)) H'
set_option maxHeartbeats 16000000 in
theorem ok_isRow {f : Addr} {fd : FuncData} {k : Nat} (F : Fun K "is_row_of" "is_row_of" s_is_row_of f fd) (DR : Def P w K mg base (L2.CX P w) (k + 1) "are_rows" ["rows", "end", "sizes", "texts", "hands", "name"] (spRowsA K)) (mk : mg "KeyError" = none) : FnOk P w K mg base CX0 (k + 1 + 1) f fd ["scopes", "name", "end", "row"] (spIsRow K) := by
  refine F.ok scIsRow (fun vs H Q E h => ?_) (fun cdv A outer s H vs Q E hr h => ?_)
  · obtain ⟨sc, t, z, x, nm, e, v, d, bs, titles, names, rfl, _⟩ := h
    rfl
  obtain ⟨sc, t, z, x, nm, e, v, d, bs, titles, names, rfl, hg, ht, hz, hx, hn, hv, q⟩ := h
  have nd := scIsRow.nd
  have hu := hu_of hr
  refine ⟨_, pss_cons (ps_asg (pe_dget hu (pv 0) (pv 1) (fun _ _ => rfl)) (pg_tup rfl (pgs_cons (pg_name (i := 4) nd rfl (.inl rfl)) (pgs_cons (pg_name (i := 5) nd rfl (.inl rfl)) pgs_nil))))
    (pss_one (ps_try_only (c := .type "KeyError") (tb := fun W => tRet (tCallS (spRowsA K) (WE W) (tCons (tTup (tCons (tVar 3) tNil)) (tCons (tVar 2) (tCons (tVar 4) (tCons (tVar 5) (tCons (tVar 0) (tCons (tVar 1) tNil))))))))
      (ts := fun _ _ _ => tRet (tC (.bl false)))
      rfl rfl ⟨by rfl, by decide, .inr ⟨mk, by decide +kernel, by decide⟩⟩ takes0
      (fun W pn xe tk po => pss_one (ps_ret (pe_callS DR.ok hr (by rfl) DR.g DR.kp DR.b (fun σ => passAt tk σ) (pa_cons (pe_tup (pa_cons (pv 3) pa_nil)) (pa_cons (pv 2) (pa_cons (pv 4) (pa_cons (pv 5) (pa_cons (pv 0) (pa_cons (pv 1) pa_nil)))))))))
      (fun a oe cls d pn _ _ => pss_one (ps_ret pe_bl)))), ?_⟩
  refine ⟨_, rfl, _, rfl, sc, _, rfl, hg, t, _, rfl, .inl (.inl ht), rfl, _, _, rfl, _, _, rfl, rfl, ?_⟩
  refine ⟨_, rfl, by show 1 ≤ sizeLine; decide, fun u nu => ?_⟩
  have s1 : Same H (upd H u (.tup [v])) := same_new nu
  have hu1 : (upd H u (.tup [v])) u = some (.tup [v]) := upd_same
  generalize upd H u (.tup [v]) = G at s1 hu1 ⊢
  have hd : Dp K G (.ref u) (.tuple [d]) := .tup (SqT.of hu1) (.cons (dp_same s1 _ _ hv) .nil)
  refine ⟨_, rfl, _, rfl, _, rfl, _, rfl, _, rfl, .ref u, [d], e, z, x, sc, nm, bs, titles, names, rfl, hd, hz.same s1, hx.same s1, hn.same s1, fun good H' s' => ?_, fun bad H' s' => ?_⟩
  · have r : rowP bs titles names nm e d = true := by simpa using good
    have fin := q _ (s1.trans s')
    rw [r] at fin
    exact fin
  · have r : rowP bs titles names nm e d = false := by simpa using bad
    have fin := q _ (s1.trans s')
    rw [r] at fin
    exact ⟨fin, fun d => ⟨true, by rfl, fun _ a ha => fin, fun q => nomatch q⟩⟩
end
end PP

set_option maxHeartbeats 4000000
namespace PP
open PySem PySem.Spec PyProof.Rows L2 G3 M0 PA EE QA EK EN
/-- the first row that is none -/
def Wrong (bs : List Box) (hs : List HnD) (i j a : Nat) : Prop := ∃ h t d, hs[i]? = some h ∧ h.ts[j]? = some t ∧ t.2[a]? = some d ∧
  rowP (bs ++ h.own) (h.ts.map (·.1)) (hs.map (·.nm)) h.nm t.2.length d = false ∧ (t.2.take a).all (rowP (bs ++ h.own) (h.ts.map (·.1)) (hs.map (·.nm)) h.nm t.2.length) = true ∧
  (h.ts.take j).all (rowsG bs (hs.map (·.nm)) h) = true ∧ (hs.take i).all (handG bs (hs.map (·.nm))) = true
theorem key_at {kvs : List (Key × V)} {ns : List Str} (hl : kvs.length = ns.length) (hk : ∀ (i : Nat) (n : Str) (e : Key × V), ns[i]? = some n → kvs[i]? = some e → e.1 = Sum.inr n) (nd : ns.Nodup) {i : Nat} {n : Str} {v : V} (e : kvs[i]? = some (Sum.inr n, v)) : valV kvs (Sum.inr n) = some v := by
  have hi := (List.getElem?_eq_some_iff.mp e).1
  have hn : ns[i]? = some n := by
    obtain ⟨m, hm⟩ : ∃ m, ns[i]? = some m := ⟨_, List.getElem?_eq_getElem (by omega)⟩
    have := hk i m _ hm e
    cases this
    exact hm
  unfold valV
  cases hf : kvs.find? fun kv => decide (kv.1 = Sum.inr n) with
  | none =>
    rw [List.find?_eq_none] at hf
    exact absurd (hf _ (List.mem_of_getElem? e)) (by simp)
  | some p =>
    obtain ⟨j, hj, ej⟩ := List.getElem_of_mem (List.mem_of_find?_eq_some hf)
    have pk : p.1 = Sum.inr n := of_decide_eq_true (List.find?_some (p := fun kv : Key × V => decide (kv.1 = Sum.inr n)) hf)
    have e2 : kvs[j]? = some p := by rw [List.getElem?_eq_getElem hj, ej]
    obtain ⟨m, hm⟩ : ∃ m, ns[j]? = some m := ⟨_, List.getElem?_eq_getElem (by omega)⟩
    have e3 := hk j m p hm e2
    rw [pk] at e3
    cases e3
    have ij : j = i := (List.getElem?_inj (by omega) nd).mp (hm.trans hn.symm)
    subst ij
    rw [e] at e2
    cases e2
    rfl
section
variable {P : Program} {w : World} {K : PySem.W.Frag} {mg : Str → Option Value} {base : Heap}
def spRefuse (K : PySem.W.Frag) (C : Addr) : Sp := fun vs H Q E => ∃ (sc : Addr) (H0 : Hp) (bs : List Box) (hs : List HnD) (kvs : List (Key × V)), vs = [.ref sc] ∧ Same H0 H ∧ H0 sc = none ∧ ScD K H0 H sc bs hs kvs ∧ (hs.map (·.nm)).Nodup ∧
  hs.all (handG bs (hs.map (·.nm))) = false ∧ (∀ i j a, Wrong bs hs i j a → ∀ dd H', H0 dd = none → Same H0 H' → H' dd = some (.xd (E9.names ["hand", "text", "row"] [.int (i : Nat), .int (j : Nat), .int (a : Nat)])) → E (.ref C) (some dd) H')
set_option maxHeartbeats 16000000 in
theorem ok_refuse {f : Addr} {fd : FuncData} {k : Nat} (F : Fun K "refuse_first_wrong" "refuse_first_wrong" s_refuse_first_wrong f fd) (S : Err P w K mg base "NoProgram" ["hand", "text", "row"]) (DI : Def P w K mg base CX0 (k + 2) "is_row_of" ["scopes", "name", "end", "row"] (spIsRow K)) (me : mg "enumerate" = none) (ml : mg "len" = none) : FnOk P w K mg base (L2.CX P w) (k + 2 + 1) f fd ["scopes"] (spRefuse K S.C) := by
  refine F.okX scRefuse (fun vs H Q E h => ?_) (fun cdv A outer s H vs Q E hr h => ?_)
  · obtain ⟨sc, H0, bs, hs, kvs, rfl, _⟩ := h
    rfl
  obtain ⟨sc, H0, bs, hs, kvs, rfl, s0, nsc, ⟨hsc, hkl, hkn, hat⟩, hnd, hbad, qr⟩ := h
  have nd := scRefuse.nd
  have hu := hu_of hr
  refine ⟨_, pss_one (ps_lock (ps_for (passes_of rfl) rfl (pi_enumK (by rfl) me (pa_cons (pv 0) pa_nil)) (pg_tup rfl (pgs_cons (pg_name (i := 1) nd rfl (.inl rfl)) (pgs_cons (pg_name (i := 2) nd rfl (.inl rfl)) pgs_nil)))
    (pss_one (ps_lock (ps_for (passes_of rfl) rfl (pi_enumV (by rfl) me (pa_cons (pe_view (pe_ix ix_tup (pe_dget hu (pv 0) (pv 2) (fun _ _ => rfl)) pe_int (fun _ _ => rfl))) pa_nil)) (pg_tup rfl (pgs_cons (pg_name (i := 3) nd rfl (.inl rfl)) (pgs_cons (pg_name (i := 4) nd rfl (.inl rfl)) pgs_nil)))
      (pss_one (ps_for (passes_of rfl) rfl (pi_enumT (by rfl) me (pa_cons (pv 4) pa_nil)) (pg_tup rfl (pgs_cons (pg_name (i := 5) nd rfl (.inl rfl)) (pgs_cons (pg_name (i := 6) nd rfl (.inl rfl)) pgs_nil)))
        (pss_one (ps_if (pt_not (pt_val (pe_call DI.ok hr (by rfl) DI.g DI.kp DI.b .nil pass0 (pa_cons (pv 0) (pa_cons (pv 2) (pa_cons (pe_callB call_len_seq (by rfl) ml PySem.boot_len (pa_cons (pv 4) pa_nil)) (pa_cons (pv 6) pa_nil)))))))
          (pss_one (ps_raiseN rfl (takes_of rfl rfl rfl rfl) S (hr.mono (by omega)) (by rfl) (pa_cons (pv 1) (pa_cons (pv 3) (pa_cons (pv 5) pa_nil))))) pss_nil))))))))), ?_⟩
  have kn : ∀ (i : Nat) (n : Str) (e : Key × V), (hs.map (·.nm))[i]? = some n → kvs[i]? = some e → e.1 = Sum.inr n := fun i n e a b => by
    rw [List.getElem?_map] at a
    obtain ⟨h, hh, rfl⟩ := Option.map_eq_some_iff.mp a
    obtain ⟨e2, ee, _, _, _, _, q, _⟩ := hat i h hh
    rw [b] at ee
    cases ee
    rw [q]
  refine ⟨sc, .dK kvs, hsc, trivial, fun od => ⟨_, rfl, sc, od, kvs, rfl, upd_same, ?_⟩⟩
  refine for_it walk_ed (fun i σ H3 => ∃ a1 a2 a3 a4 a5 a6, σ = [some (.ref sc), a1, a2, a3, a4, a5, a6] ∧ Same (upd H sc (.frz od (.dK kvs))) H3 ∧ (hs.take i).all (handG bs (hs.map (·.nm))) = true) ⟨_, _, _, _, _, _, rfl, fun _ _ z => z, rfl⟩ (fun i σ H3 _ p => ?_) (fun i y σ H3 H4 hi p hy => ?_) (fun σ H3 p => ?_)
  · obtain ⟨_, _, _, _, _, _, _, sm, _⟩ := p
    exact sm _ _ upd_same
  · obtain ⟨a1, a2, a3, a4, a5, a6, rfl, sm, hpre⟩ := p
    obtain ⟨T, en, e2, rfl, nT, rfl⟩ := hy
    have hhi : i < hs.length := by omega
    have e1 : hs[i]? = some hs[i] := List.getElem?_eq_getElem hhi
    obtain ⟨en2, ee, hA⟩ := hat i _ e1
    rw [e2] at ee
    cases ee
    generalize hs[i] = h at hA e1
    obtain ⟨t, z, x, kvx, rfl, ht, hz, hx, n1, n2, nxz, nx0, nz0, hxl, hxn, hxt⟩ := hA
    have vsc : valV kvs (Sum.inr h.nm) = some (.ref t) := key_at (by rw [hkl, List.length_map]) kn hnd e2
    have keep : ∀ b o, b ≠ sc → H b = some o → H3 b = some o := fun b o nb e => sm b o (by rw [upd_ne nb]; exact e)
    have nt : t ≠ sc := fun e => by
      rw [e, hsc] at ht
      cases ht
    have sT : Same H3 (upd H3 T (.tup [.int (i : Nat), .str h.nm])) := same_new nT
    have ht4 := sT _ _ (keep _ _ nt ht)
    have hz4 := sT _ _ (keep _ _ n1 hz)
    have hx4 := sT _ _ (keep _ _ n2 hx)
    have hsc4 := sT _ _ (sm _ _ upd_same)
    have hT4 : (upd H3 T (.tup [.int (i : Nat), .str h.nm])) T = some (.tup [.int (i : Nat), .str h.nm]) := upd_same
    have sm4 := sm.trans sT
    show gTup K 2 _ _ _ (upd H3 T (.tup [.int (i : Nat), .str h.nm])) _
    generalize upd H3 T (.tup [.int (i : Nat), .str h.nm]) = G at sT ht4 hz4 hx4 hsc4 hT4 sm4 ⊢
    refine ⟨T, _, rfl, .inl (.inl hT4), rfl, _, _, rfl, _, _, rfl, rfl, ?_⟩
    refine ⟨x, _, hx4, trivial, fun od2 => ?_⟩
    have sL : ∀ b o, b ≠ x → G b = some o → (upd G x (.frz od2 (.dK kvx))) b = some o := fun b o nb e => by rw [upd_ne nb]; exact e
    have tx : t ≠ x := fun e => by
      rw [e, hx4] at ht4
      cases ht4
    have ht5 := sL _ _ tx ht4
    have hsc5 := sL _ _ (Ne.symm n2) hsc4
    have hx5 : (upd G x (.frz od2 (.dK kvx))) x = some (.frz od2 (.dK kvx)) := upd_same
    refine ⟨_, rfl, _, rfl, sc, _, rfl, .inl ⟨kvs, Sum.inr h.nm, .inr ⟨_, hsc5⟩, rfl, vsc.symm⟩, t, _, 1, _, rfl, rfl, SqT.of ht5, rfl, x, od2, kvx, rfl, hx5, fun v nv => ?_⟩
    have sv : Same (upd G x (.frz od2 (.dK kvx))) (upd (upd G x (.frz od2 (.dK kvx))) v (.ext fun h => h.IsValuesView v x)) := same_new nv
    have hv6 : (upd (upd G x (.frz od2 (.dK kvx))) v (.ext fun h => h.IsValuesView v x)) v = some (.ext fun h => h.IsValuesView v x) := upd_same
    generalize upd (upd G x (.frz od2 (.dK kvx))) v (.ext fun h => h.IsValuesView v x) = G6 at sv hv6 ⊢
    refine ⟨v, x, od2, kvx, rfl, hv6, sv _ _ hx5, ?_⟩
    refine for_it walk_ed (fun j σ H5 => ∃ a3 a4 a5 a6, σ = [some (.ref sc), some (.int (i : Nat)), some (.str h.nm), a3, a4, a5, a6] ∧ Same (upd G x (.frz od2 (.dK kvx))) H5 ∧ (h.ts.take j).all (rowsG bs (hs.map (·.nm)) h) = true) ⟨_, _, _, _, rfl, sv, rfl⟩ (fun j σ H5 _ p => ?_) (fun j y σ H5 H6 hj p hy => ?_) (fun σ H5 p => ?_)
    · obtain ⟨_, _, _, _, _, s5, _⟩ := p
      exact s5 _ _ upd_same
    · obtain ⟨a3, a4, a5, a6, rfl, s5, hpre2⟩ := p
      obtain ⟨T2, en, ey, rfl, nT2, rfl⟩ := hy
      have hj1 : j < h.ts.length := by omega
      have ej : h.ts[j]? = some h.ts[j] := List.getElem?_eq_getElem hj1
      generalize h.ts[j] = te at ej
      obtain ⟨y2, ey2, hd0⟩ := hxt j te ej
      rw [ey] at ey2
      cases ey2
      have s6 : Same H5 (upd H5 T2 (.tup [.int (j : Nat), y2])) := same_new nT2
      have hT6 : (upd H5 T2 (.tup [.int (j : Nat), y2])) T2 = some (.tup [.int (j : Nat), y2]) := upd_same
      show gTup K 2 _ _ _ (upd H5 T2 (.tup [.int (j : Nat), y2])) _
      replace s6 := s5.trans s6
      generalize upd H5 T2 (.tup [.int (j : Nat), y2]) = H6 at s6 hT6 ⊢
      refine ⟨T2, _, rfl, .inl (.inl hT6), rfl, _, _, rfl, _, _, rfl, rfl, ?_⟩
      have s0x : Same H0 (upd G x (.frz od2 (.dK kvx))) := fun b o e => by
        have nb1 : b ≠ sc := fun q => by
          rw [q, nsc] at e
          cases e
        have nb2 : b ≠ x := fun q => by
          rw [q, nx0] at e
          cases e
        rw [upd_ne nb2]
        refine sm4 b o ?_
        rw [upd_ne nb1]
        exact s0 b o e
      have hd6 := dp_same (s0x.trans s6) _ _ hd0
      obtain ⟨ra, rws, rfl, hra, hrr, hrl⟩ := small_of hd6
      refine ⟨_, rfl, ra, rws, rfl, hra, for_enumT (xs := rws) (fun a σ H7 => ∃ a5 a6, σ = [some (.ref sc), some (.int (i : Nat)), some (.str h.nm), some (.int (j : Nat)), some (.ref ra), a5, a6] ∧ Same H6 H7 ∧ (te.2.take a).all (rowP (bs ++ h.own) (h.ts.map (·.1)) (hs.map (·.nm)) h.nm te.2.length) = true) ⟨_, _, rfl, Same.refl _, rfl⟩ (fun a σ H7 p => ?_) (fun a r T3 σ H7 hr3 p nT3 => ?_) (fun σ H7 p => ?_)⟩
      · obtain ⟨_, _, _, s7, _⟩ := p
        exact same_tup s7 hra
      · obtain ⟨a5, a6, rfl, s7, hpre3⟩ := p
        obtain ⟨dr, hdr, hr0⟩ := dpAll_get hrr hr3
        have s8 : Same H7 (upd H7 T3 (.tup [.int (a : Nat), r])) := same_new nT3
        have hT8 : (upd H7 T3 (.tup [.int (a : Nat), r])) T3 = some (.tup [.int (a : Nat), r]) := upd_same
        have s68 := s7.trans s8
        generalize upd H7 T3 (.tup [.int (a : Nat), r]) = H8 at s8 hT8 s68 ⊢
        refine ⟨T3, _, rfl, .inl (.inl hT8), rfl, _, _, rfl, _, _, rfl, rfl, ?_⟩
        have s58 := s6.trans s68
        have hx8 := s58 _ _ hx5
        have hsc8 := s58 _ _ hsc5
        have ht8 := s58 _ _ ht5
        have hz8 := s58 _ _ (sL _ _ (Ne.symm nxz) hz4)
        have rz : SizesE H8 z (bs ++ h.own) := ⟨_, .inl hz8, size_valA⟩
        have rx : KeysE H8 x (h.ts.map (·.1)) := ⟨kvx, .inr ⟨_, hx8⟩, hxn⟩
        have rsc : KeysE H8 sc (hs.map (·.nm)) := ⟨kvs, .inr ⟨_, hsc8⟩, hkn⟩
        refine ⟨_, rfl, _, rfl, _, rfl, ra, rws, rfl, .inr (same_tup s68 hra), _, rfl, sc, t, z, x, h.nm, _, r, dr, bs ++ h.own, h.ts.map (·.1), hs.map (·.nm), rfl, .inl ⟨kvs, Sum.inr h.nm, .inr ⟨_, hsc8⟩, rfl, vsc.symm⟩, ht8, rz, rx, rsc, dp_same s68 _ _ hr0, fun H9 s9 => ⟨_, rfl, ?_⟩⟩
        rw [hrl]
        cases hrow : rowP (bs ++ h.own) (h.ts.map (·.1)) (hs.map (·.nm)) h.nm te.2.length dr with
        | true => exact iteF ⟨_, _, rfl, s68.trans s9, take_all hpre3 hdr hrow⟩
        | false =>
          refine iteT ⟨_, rfl, _, rfl, _, rfl, by show 3 ≤ 1000; decide, rfl, by simp [E9.names], fun dd H' n1 s' h1 => ?_⟩
          have s09 : Same H0 H9 := s0x.trans (s58.trans s9)
          exact qr i j a ⟨h, te, dr, e1, ej, hdr, hrow, hpre3, hpre2, hpre⟩ dd H' (same_none s09 n1) (s09.trans s') h1
      · obtain ⟨a5, a6, rfl, s7, hpre3⟩ := p
        rw [hrl, List.take_length] at hpre3
        exact ⟨_, _, _, _, rfl, s6.trans s7, take_all hpre2 ej hpre3⟩
    · obtain ⟨a3, a4, a5, a6, rfl, s5, hpre2⟩ := p
      refine ⟨s5 _ _ upd_same, _, _, _, _, _, _, rfl, sm4.trans (unlock_same hx4 s5), take_all hpre e1 ?_⟩
      rw [hxl, List.take_length] at hpre2
      exact hpre2
  · obtain ⟨_, _, _, _, _, _, rfl, sm, hpre⟩ := p
    rw [hkl, List.take_length, hbad] at hpre
    cases hpre
end
end PP

set_option maxHeartbeats 4000000
namespace PP
open PySem PySem.Spec PyProof.Rows L2 G3 M0 PA EE QA EK EN
theorem hand_new {bs : List Box} {seen : List Str} {d : Dt} {h : HnD} (e : handP bs seen d = .inl h) : ¬ h.nm ∈ seen := by
  unfold handP at e
  split at e
  · split at e
    · rename_i z o ts hc
      split at e
      · split at e
        · cases e
          simp only [Bool.and_eq_true, Bool.not_eq_true', decide_eq_false_iff_not] at hc
          exact hc.2.1
        · cases e
      · cases e
    · cases e
  · cases e
theorem scan_nd {bs : List Box} : ∀ (ds : List Dt) (seen : List Str) (i : Nat) (hs : List HnD), scanH bs seen i ds = .inl hs → (hs.map (·.nm)).Nodup ∧ ∀ h ∈ hs, ¬ h.nm ∈ seen
  | [], seen, i, hs, e => by
    have : Sum.inl [] = (Sum.inl hs : List HnD ⊕ (Nat × Option Nat)) := e
    cases this
    exact ⟨List.nodup_nil, fun h hh => by cases hh⟩
  | d :: r, seen, i, hs, e => by
    cases hp : handP bs seen d with
    | inr j => rw [scanH_no hp] at e; cases e
    | inl h =>
      rw [scanH_yes hp] at e
      cases hr : scanH bs (seen ++ [h.nm]) (i + 1) r with
      | inr j => rw [hr] at e; cases e
      | inl l =>
        rw [hr] at e
        cases e
        obtain ⟨a, b⟩ := scan_nd r _ _ l hr
        refine ⟨List.nodup_cons.mpr ⟨fun z => ?_, a⟩, fun x hx => ?_⟩
        · obtain ⟨y, hy, ey⟩ := List.mem_map.mp z
          exact b y hy (by rw [ey]; simp)
        · rcases List.mem_cons.mp hx with rfl | hx
          · exact hand_new hp
          · exact fun z => b x hx (List.mem_append_left _ z)

theorem handP_len {bs : List Box} : True := trivial
def topP : Dt → Option (List Box × List Dt)
  | .tuple [b, .tuple ds] => if decide (1 ≤ ds.length) && decide (ds.length ≤ 4) then (boxesP 8 4 [] b).map (·, ds) else none
  | _ => none
theorem box_len {gr : Int} : ∀ (ds : List Dt) (seen : List Str) (bs : List Box), scanB gr seen ds = some bs → bs.length = ds.length
  | [], seen, bs, e => by
    have : some [] = (some bs : Option (List Box)) := e
    cases this
    rfl
  | d :: r, seen, bs, e => by
    cases hb : boxP gr seen d with
    | none => rw [scan_none hb] at e; cases e
    | some b =>
      rw [scan_some hb] at e
      obtain ⟨l, hl, rfl⟩ := Option.map_eq_some_iff.mp e
      rw [List.length_cons, List.length_cons, box_len r _ l hl]
theorem boxes_len {most : Nat} {gr : Int} {seen : List Str} {d : Dt} {bs : List Box} (e : boxesP most gr seen d = some bs) : bs.length ≤ most := by
  unfold boxesP at e
  split at e
  · split at e
    · rename_i ds hl
      rw [box_len ds _ bs e]
      exact hl
    · cases e
  · cases e
section
variable {P : Program} {w : World} {K : PySem.W.Frag} {mg : Str → Option Value} {base : Heap}
abbrev xNo (i j a : V) : HO := .xd (E9.names ["hand", "text", "row"] [i, j, a])
def spLookA (K : PySem.W.Frag) (C : Addr) : Sp := fun vs H Q E => ∃ (v : V) (d : Dt), vs = [v] ∧ Dp K H v d ∧ SL d ∧
  (topP d = none → ∀ dd H', H dd = none → Same H H' → H' dd = some (xNo .non .non .non) → E (.ref C) (some dd) H') ∧
  ∀ bs ds, topP d = some (bs, ds) →
    (∀ i j, scanH bs [] 0 ds = .inr (i, j) → ∀ dd H', H dd = none → Same H H' → H' dd = some (xNo (.int (i : Nat)) (oV j) .non) → E (.ref C) (some dd) H') ∧
    ∀ hs, scanH bs [] 0 ds = .inl hs → (hs.all (handG bs (hs.map (·.nm))) = true → ∀ H', Same H H' → Q .non H') ∧
      (hs.all (handG bs (hs.map (·.nm))) = false → ∀ i j a, Wrong bs hs i j a → ∀ dd H', H dd = none → Same H H' → H' dd = some (xNo (.int (i : Nat)) (.int (j : Nat)) (.int (a : Nat))) → E (.ref C) (some dd) H')
set_option maxHeartbeats 16000000 in
theorem ok_lookA {f : Addr} {fd : FuncData} {k : Nat} {t4 t8 t9 : Tok} (F : Fun K "look_at_program" "look_at_program" s_look_at_program f fd) (S : Err P w K mg base "NoProgram" ["hand", "text", "row"]) (DB : Def P w K mg base CX0 (k + 3) "are_boxes" ["thing", "most", "greatest", "sizes"] (spBoxesA K))
    (DC : Def P w K mg base (L2.CX P w) (k + 3) "scopes_of" ["common", "hands"] (spScopesA K S.C)) (DA : Def P w K mg base CX0 (k + 3) "are_all_rows" ["scopes"] (spAllA K)) (DX : Def P w K mg base (L2.CX P w) (k + 3) "refuse_first_wrong" ["scopes"] (spRefuse K S.C))
    (mi : mg "isinstance" = none) (mt : mg "tuple" = none) (ml : mg "len" = none) (m4 : mg "MOST_HANDS" = some (.int 4 t4)) (m8 : mg "MOST_COMMON" = some (.int 8 t8)) (m9 : mg "GREATEST_COMMON" = some (.int 4 t9)) :
    FnOk P w K mg base (L2.CX P w) (k + 3 + 1) f fd ["thing"] (spLookA K S.C) := by
  refine F.okX scLook (fun vs H Q E h => ?_) (fun cdv A outer s H vs Q E hr h => ?_)
  · obtain ⟨v, p, rfl, _⟩ := h
    rfl
  obtain ⟨v, d, rfl, hv, sl, qt, qp⟩ := h
  have nd := scLook.nd
  refine ⟨_, pss_cons (ps_if (PW.pt (pw_or (pt_not (pt_val (pe_callB call_isi (by rfl) mi PyProof.Rows.boot_isinstance (pa_cons (pv 0) (pa_cons (pe_bltn (by rfl) mt (u := .type "tuple") (by decide +kernel) (show RelV (.ty "tuple") (.type "tuple") from rfl)) pa_nil)))))
          (pw_or1 (pt_cmpR op_ne (pe_callB call_len_seq (by rfl) ml PySem.boot_len (pa_cons (pv 0) pa_nil)) pe_int (nomark _))))) (pss_one (ps_raiseN rfl (takes_of rfl rfl rfl rfl) S (hr.mono (by omega)) (by rfl) (pa_cons pe_non (pa_cons pe_non (pa_cons pe_non pa_nil))))) pss_nil)
    (pss_cons (ps_asg (pv 0) (pg_tup rfl (pgs_cons (pg_name (i := 1) nd rfl (.inl rfl)) (pgs_cons (pg_name (i := 2) nd rfl (.inl rfl)) pgs_nil))))
    (pss_cons (ps_set (i := 3) nd rfl (.inl rfl) pe_dnewK)
    (pss_cons (ps_if (PW.pt (pw_or (pt_not (pt_val (pe_callB call_isi (by rfl) mi PyProof.Rows.boot_isinstance (pa_cons (pv 2) (pa_cons (pe_bltn (by rfl) mt (u := .type "tuple") (by decide +kernel) (show RelV (.ty "tuple") (.type "tuple") from rfl)) pa_nil)))))
          (pw_or1 (pt_not (pt_chain op_le op_le pe_int (pe_callB call_len_seq (by rfl) ml PySem.boot_len (pa_cons (pv 2) pa_nil)) (pe_glob (v := .int 4) (by rfl) m4 ⟨_, rfl⟩)))))) (pss_one (ps_raiseN rfl (takes_of rfl rfl rfl rfl) S (hr.mono (by omega)) (by rfl) (pa_cons pe_non (pa_cons pe_non (pa_cons pe_non pa_nil))))) pss_nil)
    (pss_cons (ps_if (pt_not (pt_val (pe_call DB.ok hr (by rfl) DB.g DB.kp DB.b .nil pass0 (pa_cons (pv 1) (pa_cons (pe_glob (v := .int 8) (by rfl) m8 ⟨_, rfl⟩) (pa_cons (pe_glob (v := .int 4) (by rfl) m9 ⟨_, rfl⟩) (pa_cons (pv 3) pa_nil))))))) (pss_one (ps_raiseN rfl (takes_of rfl rfl rfl rfl) S (hr.mono (by omega)) (by rfl) (pa_cons pe_non (pa_cons pe_non (pa_cons pe_non pa_nil))))) pss_nil)
    (pss_cons (ps_set (i := 4) nd rfl (.inl rfl) (pe_callS DC.ok hr (by rfl) DC.g DC.kp DC.b (fun σ => passAt (takes_of rfl rfl rfl rfl) σ) (pa_cons (pv 3) (pa_cons (pv 2) pa_nil))))
    (pss_one (ps_if (pt_not (pt_val (pe_call DA.ok hr (by rfl) DA.g DA.kp DA.b .nil pass0 (pa_cons (pv 4) pa_nil)))) (pss_one (ps_expr (pe_callS DX.ok hr (by rfl) DX.g DX.kp DX.b (fun σ => passAt (takes_of rfl rfl rfl rfl) σ) (pa_cons (pv 4) pa_nil)))) pss_nil))))))), ?_⟩
  have raise0 : topP d = none → ∀ G, Same H G → ∀ σ : L2.St, tNewR S.C ["hand", "text", "row"] (tCons (tC .non) (tCons (tC .non) (tCons (tC .non) tNil))) σ G fun cls d H' => E cls d H' :=
    fun z G sg σ => ⟨by show 3 ≤ 1000; decide, rfl, by simp [E9.names], fun dd H' n1 s' h1 => qt z dd H' (same_none sg n1) (sg.trans s') h1⟩
  by_cases dt : isTup d = true
  rotate_left
  · refine ⟨_, rfl, _, _, _, _, _, rfl, .ty "tuple", dp_ty hv, kit_tup K hv, _, rfl, ?_⟩
    rw [show isTup d = false by simpa using dt]
    refine iteT (iteT (raise0 ?_ H (Same.refl _) _))
    cases d with
    | tuple es => exact absurd rfl dt
    | _ => rfl
  obtain ⟨es, rfl⟩ := isT_tup d dt
  obtain ⟨a, xs, rfl, ha, hall, hxl⟩ := small_of hv
  refine ⟨_, rfl, _, _, _, _, _, rfl, .ty "tuple", dp_ty hv, kit_tup K hv, _, rfl, iteF ⟨_, rfl, a, _, rfl, .inr ha, rfl, _, rfl, ?_⟩⟩
  by_cases l2 : es.length = 2
  rotate_left
  · rw [ne_int (show (xs.length : Int) ≠ 2 by omega)]
    refine iteT (raise0 ?_ H (Same.refl _) _)
    unfold topP
    split
    · rename_i heq
      cases heq
      exact absurd rfl l2
    · rfl
  rw [eq_int (show (xs.length : Int) = 2 by omega)]
  obtain ⟨d1, d2, rfl⟩ := len2 l2
  cases hall with
  | @cons v1 _ _ _ g1 hall =>
  cases hall with
  | @cons v2 _ _ _ g2 hall =>
  cases hall
  have sls := sl.of_tup
  have sl1 := sls d1 List.mem_cons_self
  have sl2 := sls d2 (by simp)
  refine iteF ⟨_, rfl, a, _, rfl, ha, rfl, _, _, rfl, _, _, rfl, rfl, ?_⟩
  intro c nc
  have s1 : Same H (upd H c (.dK [])) := same_new nc
  have hc1 : (upd H c (.dK [])) c = some (.dK []) := upd_same
  have k1 := dp_same s1 _ _ g1
  have k2 := dp_same s1 _ _ g2
  refine ⟨_, rfl, _, _, _, _, _, rfl, .ty "tuple", dp_ty k2, kit_tup K k2, _, rfl, ?_⟩
  by_cases q2 : isTup d2 = true
  rotate_left
  · rw [show isTup d2 = false by simpa using q2]
    refine iteT (iteT (raise0 ?_ _ s1 _))
    cases d2 with
    | tuple es => exact absurd rfl q2
    | _ => rfl
  obtain ⟨ds, rfl⟩ := isT_tup d2 q2
  obtain ⟨ha2, ws, rfl, hs2, hws, hwl⟩ := small_of k2
  refine iteF ⟨_, rfl, ha2, _, rfl, .inr hs2, _, _, rfl, rfl, _, rfl, ?_⟩
  have noL : (decide (1 ≤ ds.length) && decide (ds.length ≤ 4)) = false → topP (.tuple [d1, .tuple ds]) = none := fun z => by
    show (if _ then _ else _) = _
    rw [z]
    rfl
  by_cases w1 : 1 ≤ ds.length
  rotate_left
  · rw [decide_eq_false (show ¬ (1 : Int) ≤ (ws.length : Int) by omega)]
    exact iteF ⟨_, rfl, iteT (raise0 (noL (by rw [decide_eq_false w1]; rfl)) _ s1 _)⟩
  rw [decide_eq_true (show (1 : Int) ≤ (ws.length : Int) by omega)]
  refine iteT ⟨_, _, rfl, rfl, _, rfl, ?_⟩
  by_cases w4 : ds.length ≤ 4
  rotate_left
  · rw [decide_eq_false (show ¬ (ws.length : Int) ≤ 4 by omega)]
    exact iteT (raise0 (noL (by rw [decide_eq_false w4, Bool.and_false])) _ s1 _)
  rw [decide_eq_true (show (ws.length : Int) ≤ 4 by omega)]
  have top : topP (.tuple [d1, .tuple ds]) = (boxesP 8 4 [] d1).map (·, ds) := by
    show (if decide (1 ≤ ds.length) && decide (ds.length ≤ 4) then _ else _) = _
    rw [decide_eq_true w1, decide_eq_true w4]
    rfl
  refine iteF ⟨_, rfl, _, rfl, v1, d1, 8, 4, c, [], [], rfl, k1, sl1, hc1, by show 0 ≤ 1000; omega, by omega, fun z => rfl, fun bs hb => ⟨_, rfl, iteF ?_⟩, fun hb kvs' => ⟨_, rfl, iteT (raise0 (by rw [top, hb]; rfl) _ ?_ _)⟩⟩
  rotate_left
  · rw [upd_upd]
    exact same_new nc
  rw [upd_upd, List.nil_append]
  have s2 : Same H (upd H c (.dK (bs.map boxK))) := same_new nc
  have hc2 : (upd H c (.dK (bs.map boxK))) c = some (.dK (bs.map boxK)) := upd_same
  have topS : topP (.tuple [d1, .tuple ds]) = some (bs, ds) := by rw [top, hb]; rfl
  obtain ⟨qs, qh⟩ := qp bs ds topS
  generalize upd H c (.dK (bs.map boxK)) = G at s2 hc2 ⊢
  refine ⟨_, rfl, _, rfl, c, .ref ha2, bs, ds, rfl, hc2, boxes_len hb, dp_same s2 _ _ g2, sl2, w4, fun hs hsc H3 sc kvs s3 nsc hat => ?_, fun i j hsc dd H' n1 s' h1 => qs i j hsc dd H' (same_none s2 n1) (s2.trans s') h1⟩
  obtain ⟨qg, qb⟩ := qh hs hsc
  have s23 := s2.trans s3
  have hnd := (scan_nd ds [] 0 hs hsc).1
  refine ⟨_, rfl, sc, G, bs, hs, kvs, rfl, s3, nsc, hat, fun good H4 s4 => ⟨_, rfl, iteF (qg good _ (s23.trans s4))⟩, fun bad H4 s4 => ⟨_, rfl, iteT ?_⟩⟩
  have hat4 : ScD K G H4 sc bs hs kvs := by
    obtain ⟨a1, a2, a3, a4⟩ := hat
    refine ⟨s4 _ _ a1, a2, a3, fun j h e => ?_⟩
    obtain ⟨e1, e2, e3⟩ := a4 j h e
    exact ⟨e1, e2, e3.keep (fun b o _ q => s4 _ _ q) fun xs q => by rw [a1] at q; cases q⟩
  exact ⟨_, rfl, sc, G, bs, hs, kvs, rfl, s3.trans s4, nsc, hat4, hnd, bad, fun i j a wr dd H' n1 s' h1 => qb bad i j a wr dd H' (same_none s2 n1) (s2.trans s') h1⟩
end
end PP

set_option maxHeartbeats 4000000
namespace PP
open PySem PySem.Spec PyProof.Rows L2 G3 M0 PA
theorem scPool : FnScope ["_law_script", "_law_k", "_law_cell", "_law_mixed"] ["_law_script", "_law_k"] (defScope s_law_pool) := ⟨rfl, rfl, rfl, by decide +kernel, rfl, by decide +kernel, by decide +kernel⟩
theorem scTake : FnScope ["_law_pool_here", "_law_many", "_law_found"] ["_law_pool_here", "_law_many"] (defScope s_law_take) := ⟨rfl, rfl, rfl, by decide +kernel, rfl, by decide +kernel, by decide +kernel⟩
section
variable {P : Program} {w : World} {K : PySem.W.Frag} {mg : Str → Option Value} {base : Heap}

/-- what a pool holds -/
def Pool (H : Hp) (p : Addr) : Prop := ∃ x y : Int, H p = some (.lst [.int x, .int y]) ∧ 0 ≤ x ∧ 0 ≤ y ∧ y < 2147483647
def spTake : Sp := fun vs H Q _ => ∃ (p : Addr) (m : Int), vs = [.ref p, .int m] ∧ Pool H p ∧ 0 < m ∧ m < 1073741824 ∧
  ∀ (H' : Hp) (r : Int), Pool H' p → M0.off p H' = M0.off p H → 0 ≤ r → r < m → Q (.int r) H'
def spPool (K : PySem.W.Frag) : Sp := fun vs H Q _ => ∃ (a : Addr) (ns : List Int) (k : Nat), vs = [.ref a, .int k] ∧ SqL K H a (ns.map V.int) ∧ k ≤ 1000 ∧
  ∀ (p : Addr) (x y : Int), H p = none → 0 ≤ x → 0 ≤ y → y < 2147483647 → Q (.ref p) (upd H p (.lst [.int x, .int y]))

theorem ok_take {f : Addr} {fd : FuncData} {k : Nat} (F : Fun K "_law_take" "_law_take" s_law_take f fd) : FnOk P w K mg base CX0 (k + 1) f fd ["_law_pool_here", "_law_many"] spTake := by
  refine F.ok scTake (fun vs H Q E h => ?_) (fun cdv A outer s H vs Q E hr h => ?_)
  · obtain ⟨p, m, rfl, _⟩ := h
    rfl
  · obtain ⟨p, m, rfl, ⟨x, y, hp, hx, hy, hy2⟩, hm, hm2, q0⟩ := h
    have q : ∀ (x y r : Int), 0 ≤ x → 0 ≤ y → y < 2147483647 → 0 ≤ r → r < m → Q (.int r) (upd H p (.lst [.int x, .int y])) := fun x y r a b c d e => q0 _ _ ⟨x, y, upd_same, a, b, c⟩ off_upd d e
    have nd := scTake.nd
    refine ⟨_, pss_cons (ps_if (pt_cmpR op_gt (pe_ix ix_list (pv 0) pe_int (fun _ _ => rfl)) pe_int (nomark _))
        (pss_cons (ps_set (i := 2) nd rfl (.inl rfl) (pe_op op_mod (pe_ix ix_list (pv 0) pe_int (fun _ _ => rfl)) (pv 1)))
        (pss_cons (ps_asg (pe_op op_fdiv (pe_ix ix_list (pv 0) pe_int (fun _ _ => rfl)) (pv 1)) (pg_sub (pv 0) pe_int set_list))
        (pss_one (ps_ret (pv 2))))) pss_nil)
      (pss_cons (ps_asg (pe_op op_mod (pe_op op_add (pe_op op_mul (pe_ix ix_list (pv 0) pe_int (fun _ _ => rfl)) pe_int) pe_int) pe_int) (pg_sub (pv 0) pe_int set_list))
      (pss_one (ps_ret (pe_op op_mod (pe_op op_fdiv (pe_op op_mod (pe_op op_mul (pe_ix ix_list (pv 0) pe_int (fun _ _ => rfl)) (pe_ix ix_list (pv 0) pe_int (fun _ _ => rfl))) pe_int) pe_int) (pv 1))))), ?_⟩
    have g0 : atI [V.int x, V.int y] 0 = some (V.int x) := atI_nat (j := 0) rfl
    have g1 : atI [V.int x, V.int y] 1 = some (V.int y) := atI_nat (j := 1) rfl
    refine ⟨_, rfl, p, _, 0, _, rfl, rfl, SqL.of hp, g0, x, 0, rfl, rfl, _, rfl, ite2 (fun e => ?_) (fun e => ?_)⟩
    · -- the great cell
      have hd1 : 0 ≤ x / m := Int.ediv_nonneg hx (Int.le_of_lt hm)
      refine ⟨_, rfl, p, _, 0, _, rfl, rfl, SqL.of hp, g0, _, rfl, x, m, rfl, rfl, hm, ?_⟩
      refine ⟨_, rfl, p, _, 0, _, rfl, rfl, SqL.of hp, g0, _, rfl, x, m, rfl, rfl, ⟨hm, hm2⟩, ?_⟩
      refine ⟨_, rfl, p, _, 0, 0, rfl, rfl, hp, rfl, _, rfl, ?_⟩
      exact q _ _ _ hd1 hy hy2 (Int.emod_nonneg x (by omega)) (Int.emod_lt_of_pos x hm)
    · have hz1 : 0 ≤ (y * 48271 + 12345) % 2147483647 := Int.emod_nonneg _ (by decide)
      have hz2 : (y * 48271 + 12345) % 2147483647 < 2147483647 := Int.emod_lt_of_pos _ (by decide)
      refine ⟨_, rfl, p, _, 1, _, rfl, rfl, SqL.of hp, g1, y, 48271, rfl, rfl, .inr ⟨by decide, by decide⟩, _, _, rfl, rfl, _, _, rfl, rfl, (show (0 : Int) < 2147483647 by decide), ?_⟩
      refine ⟨_, rfl, p, _, 1, 1, rfl, rfl, hp, rfl, ?_⟩
      have g2 : atI ([V.int x, V.int y].set 1 (V.int ((y * 48271 + 12345) % 2147483647))) 1 = some (V.int ((y * 48271 + 12345) % 2147483647)) := atI_nat (j := 1) rfl
      refine ⟨_, rfl, p, _, 1, _, rfl, rfl, SqL.of upd_same, g2, _, rfl, p, _, 1, _, rfl, rfl, SqL.of upd_same, g2, _, _, rfl, rfl, .inl ⟨by omega, by omega⟩, ?_⟩
      refine ⟨_, _, rfl, rfl, (show (0 : Int) < 2147483629 by decide), _, _, rfl, rfl, ⟨by decide, by decide⟩, _, rfl, _, m, rfl, rfl, hm, ?_⟩
      exact q _ _ _ hx hz1 hz2 (Int.emod_nonneg _ (by omega)) (Int.emod_lt_of_pos _ hm)

theorem ok_pool {f : Addr} {fd : FuncData} {k : Nat} (F : Fun K "_law_pool" "_law_pool" s_law_pool f fd) (ml : mg "len" = none) (ma : mg "abs" = none) (mi : mg "int" = none) : FnOk P w K mg base CX0 (k + 1) f fd ["_law_script", "_law_k"] (spPool K) := by
  refine F.ok scPool (fun vs H Q E h => ?_) (fun cdv A outer s H vs Q E hr h => ?_)
  · obtain ⟨a, ns, k, rfl, _⟩ := h
    rfl
  · obtain ⟨a, ns, k, rfl, hS, hk, q⟩ := h
    have nd := scPool.nd
    refine ⟨_, pss_cons (ps_set (i := 2) nd rfl (.inl rfl) pe_int)
      (pss_cons (ps_if (pt_cmpR op_lt (pv 1) (pe_callB call_len_seq (by rfl) ml PySem.boot_len (pa_cons (pv 0) pa_nil)) (nomark _))
        (pss_one (ps_set (i := 2) nd rfl (.inl rfl) (pe_callB call_abs (by rfl) ma (by decide +kernel) (pa_cons (pe_ix ix_list (pv 0) (pv 1) (fun _ _ => rfl)) pa_nil)))) pss_nil)
      (pss_cons (ps_set (i := 3) nd rfl (.inl rfl) (pe_op op_mod (pe_op op_mul (pe_op op_add (pe_op op_add (pe_op op_add (pe_op op_mod (pv 2) pe_int) (pe_op op_mul (pe_op op_mul pe_int (pv 1)) (pv 1))) (pe_op op_mul pe_int (pv 1))) pe_int) pe_int) pe_int))
      (pss_one (ps_ret (pe_lst (pa_cons (pe_op op_mul (pv 2) (pe_callTy call_int1 (by rfl) mi (by decide +kernel) (pa_cons (pe_cmpR op_ge (pv 2) (pe_op op_pow pe_int pe_int) (nomark _)) pa_nil)))
        (pa_cons (pe_op op_mod (pe_op op_mul (pv 3) (pv 3)) pe_int) pa_nil))))))), ?_⟩
    -- what follows once the cell is known
    have rest : ∀ c : Int, 0 ≤ c → (tSeq (tAsg (tOp (rI (fun _ j => 0 < j) fun i j => .int (i % j)) (tOp (rI CMul fun i j => .int (i * j)) (tOp (rI0 fun i j => .int (i + j)) (tOp (rI0 fun i j => .int (i + j)) (tOp (rI0 fun i j => .int (i + j)) (tOp (rI (fun _ j => 0 < j) fun i j => .int (i % j)) (tVar 2) (tC (.int 2147483629))) (tOp (rI CMul fun i j => .int (i * j)) (tOp (rI CMul fun i j => .int (i * j)) (tC (.int 7919)) (tVar 1)) (tVar 1))) (tOp (rI CMul fun i j => .int (i * j)) (tC (.int 31)) (tVar 1))) (tC (.int 17))) (tC (.int 48271))) (tC (.int 2147483647))) (gName 3))
        (tRet (tLst (tCons (tOp (rI CMul fun i j => .int (i * j)) (tVar 2) (tCB (fun xs H Q => (∃ i, xs = [.int i] ∧ Q (.int i) H) ∨ ∃ k, xs = [.bl k] ∧ Q (.int (if k then 1 else 0)) H) (tCons (tOp (rI0 fun i j => .bl (decide (j ≤ i))) (tVar 2) (tOp (rI CPow fun i j => .int (i ^ j.toNat)) (tC (.int 10)) (tC (.int 18)))) tNil)))
          (tCons (tOp (rI (fun _ j => 0 < j) fun i j => .int (i % j)) (tOp (rI CMul fun i j => .int (i * j)) (tVar 3) (tVar 3)) (tC (.int 2147483629))) tNil)))))
        { nx := fun _ H' => Q .non H', rt := Q } [some (.ref a), some (.int k), some (.int c), none] H := by
      intro c hc
      refine ⟨_, rfl, c, _, rfl, rfl, (show (0 : Int) < 2147483629 by decide), _, rfl, _, _, rfl, rfl, .inl ⟨by decide, by decide⟩, _, rfl, _, _, rfl, rfl, .inr ⟨by omega, by omega⟩, _, _, rfl, rfl, _, rfl, _, _, rfl, rfl, .inl ⟨by decide, by decide⟩, _, _, rfl, rfl, _, _, rfl, rfl, _, _, rfl, rfl, .inr ⟨by decide, by decide⟩, _, _, rfl, rfl, (show (0 : Int) < 2147483647 by decide), ?_⟩
      have hz1 : 0 ≤ (c % 2147483629 + 7919 * (k : Int) * k + 31 * k + 17) * 48271 % 2147483647 := Int.emod_nonneg _ (by decide)
      have hz2 : (c % 2147483629 + 7919 * (k : Int) * k + 31 * k + 17) * 48271 % 2147483647 < 2147483647 := Int.emod_lt_of_pos _ (by decide)
      refine ⟨_, rfl, _, rfl, _, _, rfl, rfl, ⟨by decide, by decide, by decide⟩, c, _, rfl, rfl, .inr ⟨_, rfl, ?_⟩⟩
      have key : ∀ b : Bool, 0 ≤ c * (if b then 1 else 0) := fun b => by cases b <;> simp [hc]
      have sm : ∀ b : Bool, (-(2 ^ 64) : Int) < (if b then 1 else 0) ∧ ((if b then 1 else 0) : Int) < 2 ^ 64 := fun b => by cases b <;> decide
      refine ⟨c, _, rfl, rfl, .inr (sm _), _, rfl, _, rfl, _, _, rfl, rfl, .inl ⟨Int.lt_of_lt_of_le (by decide) hz1, Int.lt_trans hz2 (by decide)⟩, _, _, rfl, rfl, (show (0 : Int) < 2147483629 by decide), by show 2 ≤ sizeLine; decide, fun p np => ?_⟩
      exact q p _ _ np (key _) (Int.emod_nonneg _ (by decide)) (Int.lt_trans (Int.emod_lt_of_pos _ (by decide)) (by decide))
    refine ⟨_, rfl, _, rfl, a, _, rfl, .inl hS, _, _, rfl, rfl, _, rfl, ite2 (fun e => ?_) (fun e => ?_)⟩
    · have hk2 : k < ns.length := by
        have := of_decide_eq_true e
        rw [List.length_map] at this
        omega
      have g : (ns.map V.int)[k]? = some (.int ns[k]) := by
        rw [List.getElem?_map, List.getElem?_eq_getElem hk2]
        rfl
      refine ⟨_, rfl, _, rfl, a, _, k, _, rfl, rfl, hS, atI_nat g, ns[k], rfl, ?_⟩
      refine rest _ ?_
      split <;> omega
    · exact rest 0 (by decide)
end
theorem off_put {p D : Addr} {H : Hp} {o : HO} (h : D ≠ p) : M0.off p (upd H D o) = upd (M0.off p H) D o := by
  funext b
  by_cases e : b = D
  · rw [e, off_ne h, upd_same, upd_same]
  · rw [upd_ne e]
    by_cases z : b = p
    · rw [z]
      unfold M0.off
      rw [if_pos rfl, if_pos rfl]
    · rw [off_ne z, off_ne z, upd_ne e]
theorem pool_ne {H : Hp} {p t : Addr} (pl : Pool H p) (nt : H t = none) : t ≠ p := fun e => by
  obtain ⟨x, y, h, _⟩ := pl
  rw [e, h] at nt
  cases nt
theorem pool_put {H : Hp} {p t : Addr} {o : HO} (pl : Pool H p) (ne : t ≠ p) : Pool (upd H t o) p := by
  obtain ⟨x, y, h, r⟩ := pl
  exact ⟨x, y, by rw [upd_ne ne.symm]; exact h, r⟩
theorem pool_same {H H' : Hp} {p : Addr} (h : Pool H p) (s : Same H H') : Pool H' p := by
  obtain ⟨x, y, e, r⟩ := h
  exact ⟨x, y, s _ _ e, r⟩
theorem off_none {p b : Addr} {H : Hp} (h : H b = none) : M0.off p H b = none := by
  unfold M0.off
  split
  · rfl
  · exact h
theorem off_at {p b : Addr} {H : Hp} {o : HO} (h : M0.off p H b = some o) : H b = some o ∧ b ≠ p := by
  by_cases z : b = p
  · rw [z] at h
    unfold M0.off at h
    rw [if_pos rfl] at h
    cases h
  · rw [off_ne z] at h
    exact ⟨h, z⟩
end PP

set_option maxHeartbeats 4000000
namespace PP
open PySem PySem.Spec PyProof.Rows L2 G3 M0 PA
abbrev nSrc : List Str := ["_law_pool_here", "_law_boxes", "_law_box", "_law_way", "_law_some", "_law_other"]
theorem scSrc : FnScope nSrc ["_law_pool_here", "_law_boxes", "_law_box"] (defScope s_law_source) := ⟨rfl, rfl, rfl, by decide +kernel, rfl, by decide +kernel, by decide +kernel⟩
/-- boxes that the law draws from -/
structure Draw (bs : List Box) : Prop where
  one : 1 ≤ bs.length
  few : bs.length ≤ 100
  nd : (bs.map (·.1)).Nodup
  sz : ∀ b ∈ bs, 1 ≤ b.2 ∧ b.2 < 1000
  lay : ∀ b ∈ bs, PyData.strOk b.1 = true
theorem size_mem {bs : List Box} (nd : (bs.map (·.1)).Nodup) {b : Box} (h : b ∈ bs) : size? bs b.1 = some b.2 := by
  unfold size?
  induction bs with
  | nil => cases h
  | cons c bs ih =>
    rw [List.map_cons, List.nodup_cons] at nd
    rw [List.find?_cons]
    by_cases e : c.1 = b.1
    · rcases List.mem_cons.mp h with rfl | h2
      · rw [decide_eq_true rfl]
        rfl
      · exact absurd (List.mem_map.mpr ⟨b, h2, e.symm⟩) nd.1
    · rw [decide_eq_false e]
      rcases List.mem_cons.mp h with rfl | h2
      · exact absurd rfl e
      · exact ih nd.2 h2
theorem lay_all : ∀ {xs : List PyData}, (∀ x ∈ xs, x.canLay0 = true) → PyData.canLayAll0 xs = true
  | [], _ => by simp only [PyData.canLayAll0]
  | x :: xs, h => by
    simp only [PyData.canLayAll0, h x List.mem_cons_self, lay_all fun y hy => h y (List.mem_cons_of_mem _ hy), Bool.and_self]
theorem boxD_lay {b : Box} (h : PyData.strOk b.1 = true) : (boxD b).canLay0 = true := by
  unfold boxD
  simp only [PyData.canLay0, PyData.canLayAll0, h, Bool.and_self]
theorem boxD_depth (b : Box) : (boxD b).depth ≤ 1 := by
  unfold boxD
  exact G4.depth_tuple (k := 0) fun x hx => by
    rcases List.mem_cons.mp hx with rfl | hx
    · simp only [PyData.depth]
      exact Nat.le_refl _
    · rw [List.mem_singleton.mp hx]
      simp only [PyData.depth]
      exact Nat.le_refl _
theorem boxD_shaped {b : Box} (h : PyData.strOk b.1 = true) : SeqAt.shaped (boxD b) = true := by
  unfold SeqAt.shaped
  rw [boxD_lay h, decide_eq_true (Nat.le_trans (boxD_depth b) (by decide))]
  rfl
theorem boxL_shaped {bs : List Box} (h : ∀ b ∈ bs, PyData.strOk b.1 = true) : SeqAt.shaped (.list (bs.map boxD)) = true := by
  unfold SeqAt.shaped
  have e1 : (PyData.list (bs.map boxD)).canLay0 = true := by
    simp only [PyData.canLay0]
    exact lay_all fun x hx => by
      obtain ⟨b, hb, rfl⟩ := List.mem_map.mp hx
      exact boxD_lay (h b hb)
  have e2 : (PyData.list (bs.map boxD)).depth ≤ 64 := Nat.le_trans (G4.depth_list (k := 1) fun x hx => by
    obtain ⟨b, hb, rfl⟩ := List.mem_map.mp hx
    exact boxD_depth b) (by decide)
  rw [e1, decide_eq_true e2]
  rfl
theorem nilL_shaped : SeqAt.shaped (.list []) = true := boxL_shaped (bs := []) fun _ z => nomatch z
theorem boxD_eqv (a b : Box) : PyData.eqv (boxD a) (boxD b) = decide (a = b) := by
  unfold boxD
  simp only [PyData.eqv, PyData.eqvAll, Bool.and_true]
  obtain ⟨a1, a2⟩ := a
  obtain ⟨b1, b2⟩ := b
  rw [Bool.eq_iff_iff]
  simp [Prod.mk.injEq]
theorem boxL_eqv (bs : List Box) : PyData.eqv (.list (bs.map boxD)) (.list []) = bs.isEmpty := by
  cases bs <;> simp [PyData.eqv, PyData.eqvAll]
section
variable {K : PySem.W.Frag} {a : Addr} {xs : List V} {bs : List Box} {m : Box → Bool} {g : TG} {tt : TT} {te : TE} {vs : List Nat} {σ : L2.St} {H1 : Hp} {D : Addr} {Qd : Hp → Prop}
theorem lc_boxes {G : Hp} (sG : Same G H1) (hs : SqL K H1 a xs) (ha : DpAll K G xs (bs.map boxD)) (len : bs.length ≤ 1000) (nD : H1 D = none)
    (turn : ∀ x b H (R : L2.St → Bool → Hp → Prop), b ∈ bs → Dp K G x (boxD b) → Same H1 H → (∀ σ2 H', Same H H' → (∀ Q' : VK, Q' x H' → te σ2 H' Q') → R σ2 (m b) H') → g x (wipe σ vs) H fun σ2 H2 => wipe σ2 vs = wipe σ vs ∧ tt σ2 H2 (R σ2))
    (fin : ∀ H' ys, Same H1 H' → H' D = some (.lst ys) → DpAll K G ys ((bs.filter m).map boxD) → Qd H') :
    ∃ W : Nat → Nat → Hp → Prop, (∃ m, W 0 m (upd H1 D (.lst []))) ∧ ∀ i m H, W i m H →
      ((Itl K a).stop i H ∧ Qd H) ∨ ((Itl K a).go i H ∧ ∃ Nx : Hp → Prop, (∀ H', Nx H' → ∃ m', m' < m ∧ W (i + 1) m' H') ∧ ∀ x H', (Itl K a).yld i H x H' → g x (wipe σ vs) H' fun σ2 H2 => wipe σ2 vs = wipe σ vs ∧ tt σ2 H2 fun b H3 =>
        if b = true then te σ2 H3 fun y H4 => ∃ acc, H4 D = some (.lst acc) ∧ acc.length < sizeLine ∧ Nx (upd H4 D (.lst (acc ++ [y]))) else Nx H3) := by
  have hl : xs.length = bs.length := by rw [dpAll_len ha, List.length_map]
  refine lc_it (walk_list (a := a) (xs := xs) (K := K)) (fun i H => Same H1 H ∧ ∃ ys, H D = some (.lst ys) ∧ ys.length ≤ i ∧ DpAll K G ys (((bs.take i).filter m).map boxD)) ⟨same_new nD, [], upd_same, Nat.zero_le _, .nil⟩ (fun i H _ h => h.1.seq hs) (fun i x H H' hi h y => ?_) (fun H h => ?_)
  · obtain ⟨rfl, ex⟩ := y
    obtain ⟨s1, ys, hD, hy1, hy2⟩ := h
    obtain ⟨d, hd1, hd2⟩ := dpAll_get ha ex
    rw [List.getElem?_map] at hd1
    obtain ⟨b, hb1, rfl⟩ := Option.map_eq_some_iff.mp hd1
    have tk : bs.take (i + 1) = bs.take i ++ [b] := by rw [List.take_succ, hb1]; rfl
    refine turn x b H' (fun σ2 k H3 => if k = true then te σ2 H3 fun y H4 => ∃ acc, H4 D = some (.lst acc) ∧ acc.length < sizeLine ∧ (Same H1 (upd H4 D (.lst (acc ++ [y]))) ∧ ∃ ys, (upd H4 D (.lst (acc ++ [y]))) D = some (.lst ys) ∧ ys.length ≤ i + 1 ∧ DpAll K G ys (((bs.take (i + 1)).filter m).map boxD))
      else Same H1 H3 ∧ ∃ ys, H3 D = some (.lst ys) ∧ ys.length ≤ i + 1 ∧ DpAll K G ys (((bs.take (i + 1)).filter m).map boxD)) (List.mem_of_getElem? hb1) hd2 s1 (fun σ2 H5 s t => ?_)
    refine ite2 (fun e1 => ?_) (fun e1 => ?_)
    · refine t _ ⟨ys, s _ _ hD, LC.small_line (by omega), same_put (s1.trans s) nD, ys ++ [x], upd_same, by rw [List.length_append]; exact Nat.succ_le_succ hy1, ?_⟩
      rw [tk, List.filter_append, List.filter_cons_of_pos (p := m) e1, List.filter_nil, List.map_append]
      exact dpAll_app hy2 (.cons hd2 .nil)
    · refine ⟨s1.trans s, ys, s _ _ hD, by omega, ?_⟩
      rw [tk, List.filter_append, List.filter_cons_of_neg (p := m) e1, List.filter_nil, List.append_nil]
      exact hy2
  · obtain ⟨s1, ys, hD, _, hy2⟩ := h
    rw [hl, List.take_length] at hy2
    exact fin H ys s1 hD hy2
end
theorem new_tup {K : PySem.W.Frag} {p t : Addr} {H G : Hp} {vs : List V} {ds : List PyData} (pl : Pool G p) (nt : G t = none) (s : Same (off p H) (off p G)) (hd : DpAll K (off p G) vs ds) :
    Pool (upd G t (.tup vs)) p ∧ Same (off p H) (off p (upd G t (.tup vs))) ∧ Dp K (off p (upd G t (.tup vs))) (.ref t) (.tuple ds) := by
  have ne := pool_ne pl nt
  have s2 : Same (off p G) (off p (upd G t (.tup vs))) := off_mono (same_new nt)
  refine ⟨pool_put pl ne, s.trans s2, .tup (SqT.of ?_) (dpAll_same s2 _ _ hd)⟩
  rw [off_put ne]
  exact upd_same
section
variable {P : Program} {w : World} {K : PySem.W.Frag} {mg : Str → Option Value} {base : Heap}
def spSrc (K : PySem.W.Frag) : Sp := fun vs H Q _ => ∃ (p l : Addr) (v : V) (ws : List V) (bs : List Box) (b : Box), vs = [.ref p, .ref l, v] ∧ Pool H p ∧ SqL K (off p H) l ws ∧ DpAll K (off p H) ws (bs.map boxD) ∧ Draw bs ∧ b ∈ bs ∧ Dp K (off p H) v (boxD b) ∧
  ∀ (H' : Hp) (u : V) (s : Src), Pool H' p → Same (off p H) (off p H') → Dp K (off p H') u s.data → SrcOk bs b.1 b.2 s → Q u H'
set_option maxHeartbeats 8000000 in
theorem ok_src {f : Addr} {fd : FuncData} {k : Nat} (F : Fun K "_law_source" "_law_source" s_law_source f fd) (T : Def P w K mg base CX0 (k + 1) "_law_take" ["_law_pool_here", "_law_many"] spTake) (ml : mg "len" = none) :
    FnOk P w K mg base CX0 (k + 1 + 1) f fd ["_law_pool_here", "_law_boxes", "_law_box"] (spSrc K) := by
  refine F.ok scSrc (fun vs H Q E h => ?_) (fun cdv A outer s H vs Q E hr h => ?_)
  · obtain ⟨p, l, v, ws, bs, b, rfl, _⟩ := h
    rfl
  obtain ⟨p, l, v, ws, bs, b, rfl, pl, hl, hws, ok, hb, hv, q⟩ := h
  have nd := scSrc.nd
  refine ⟨_, pss_cons (ps_set (i := 3) nd rfl (.inl rfl) (pe_call T.ok hr (by rfl) T.g T.kp T.b .nil pass0 (pa_cons (pv 0) (pa_cons pe_int pa_nil))))
    (pss_cons (ps_setLc (i := 4) (own := [("_law_other", 5)]) (g := gName 5) (by rfl) nd rfl rfl (sw_true rfl rfl rfl (by decide +kernel)) (pi_list (pv 1))
        (blkOk_by (N := nSrc) (sc := defScope s_law_source) (by decide +kernel)) (fun _ _ _ _ _ => pg_name (i := 5) nd rfl (.inl rfl))
        (fun _ _ _ _ _ => pts_one (PW.pt (pw_and (pt_cmpR op_le (pe_ix (r := rIxT K) ix_tup (pv 5) pe_int (fun _ _ => rfl)) (pe_ix (r := rIxT K) ix_tup (pv 2) pe_int (fun _ _ => rfl)) (nomark _)) (pw_and1 (pt_cmpR (r := rNeD K) (op_neD hr.units) (pv 5) (pv 2) (nomark _))))))
        (fun _ _ _ _ _ => pv 5))
    (pss_cons (ps_if (PW.pt (pw_and (pt_cmpR op_eq (pv 3) pe_int (nomark _)) (pw_and1 (pt_cmpR (op_neD hr.units) (pv 4) (pe_lst pa_nil) (nomark _)))))
      (pss_one (ps_ret (pe_tup (pa_cons pe_str (pa_cons (pe_ix ix_tup (pe_ix ix_list (pv 4) (pe_call T.ok hr (by rfl) T.g T.kp T.b .nil pass0 (pa_cons (pv 0) (pa_cons (pe_callB call_len_seq (by rfl) ml PySem.boot_len (pa_cons (pv 4) pa_nil)) pa_nil))) (fun _ _ => rfl)) pe_int (fun _ _ => rfl)) pa_nil))))) pss_nil)
    (pss_cons (ps_if (pt_cmpR op_eq (pv 3) pe_int (nomark _)) (pss_one (ps_ret (pe_tup (pa_cons pe_str pa_nil)))) pss_nil)
    (pss_cons (ps_if (pt_cmpR op_eq (pv 3) pe_int (nomark _)) (pss_one (ps_ret (pe_tup (pa_cons pe_str (pa_cons (pe_op op_add pe_int (pe_call T.ok hr (by rfl) T.g T.kp T.b .nil pass0 (pa_cons (pv 0) (pa_cons pe_int pa_nil)))) pa_nil))))) pss_nil)
    (pss_one (ps_ret (pe_tup (pa_cons pe_str (pa_cons (pe_call T.ok hr (by rfl) T.g T.kp T.b .nil pass0 (pa_cons (pv 0) (pa_cons (pe_ix ix_tup (pv 2) pe_int (fun _ _ => rfl)) pa_nil))) pa_nil))))))))), ?_⟩
  refine ⟨_, rfl, p, 5, rfl, pl, by decide, by decide, fun H1 r pl1 o1 r0 r1 => ?_⟩
  have hl1 : SqL K (off p H1) l ws := o1 ▸ hl
  have hws1 : DpAll K (off p H1) ws (bs.map boxD) := o1 ▸ hws
  have hv1 : Dp K (off p H1) v (boxD b) := o1 ▸ hv
  obtain ⟨ca, x1, x2, rfl, hc, d1, d2⟩ := dp2 hv1
  cases dp_str d1
  cases dp_int d2
  refine ⟨_, rfl, l, rfl, ⟨_, off_sub.seq hl1⟩, fun D nD => ?_⟩
  refine lc_boxes (m := fun c => decide (c.2 ≤ b.2) && !decide (c = b)) (G := off p H1) off_sub (off_sub.seq hl1) hws1 (Nat.le_trans ok.few (by decide)) nD (fun x c H2 R mc hx s2 fin => ⟨rfl, ?_⟩) (fun H2 ys s2 hD hy => ?_)
  · have hx2 := dp_same (off_sub.trans s2) _ _ hx
    have hv2 := dp_same (off_sub.trans s2) _ _ hv1
    obtain ⟨cx, z1, z2, rfl, hcx, e1, e2⟩ := dp2 hx2
    cases dp_str e1
    cases dp_int e2
    refine ⟨_, rfl, cx, _, 1, _, rfl, rfl, hcx, atI_nat (j := 1) rfl, _, rfl, ca, _, 1, _, rfl, rfl, same_tup (off_sub.trans s2) hc, atI_nat (j := 1) rfl, _, _, rfl, rfl, _, rfl, ite2 (fun e => ?_) (fun e => ?_)⟩
    · refine ⟨_, rfl, _, rfl, _, _, hx2, hv2, boxD_shaped (ok.lay c mc), boxD_shaped (ok.lay b hb), _, rfl, ?_⟩
      have e2 : (decide (c.2 ≤ b.2) && !decide (c = b)) = !PyData.eqv (boxD c) (boxD b) := by
        rw [boxD_eqv]
        show (decide (c.2 ≤ b.2) && !decide (c = b)) = !decide (c = b)
        rw [e]
        rfl
      have z := fin [some (.ref p), some (.ref l), some (.ref ca), some (.int r), none, some (.ref cx)] H2 (Same.refl H2) fun Q' h => ⟨_, rfl, h⟩
      rw [e2] at z
      exact z
    · have e2 : (decide (c.2 ≤ b.2) && !decide (c = b)) = false := by
        show (decide (c.2 ≤ b.2) && !decide (c = b)) = false
        rw [Bool.eq_false_iff.mpr e]
        rfl
      have z := fin [some (.ref p), some (.ref l), some (.ref ca), some (.int r), none, some (.ref cx)] H2 (Same.refl H2) fun Q' h => ⟨_, rfl, h⟩
      rw [e2] at z
      exact z
  have pl2 := pool_same pl1 s2
  have sb : Same (off p H) (off p H2) := by
    rw [← o1]
    exact off_mono s2
  have nDp : D ≠ p := pool_ne pl1 nD
  have s12 : Same (off p H1) (off p H2) := off_mono s2
  have hD2 : off p H2 D = some (.lst ys) := by
    rw [off_ne nDp]
    exact hD
  have hy2 := dpAll_same s12 _ _ hy
  have hc2 := same_tup s12 hc
  have yl : ys.length = (bs.filter fun c => decide (c.2 ≤ b.2) && !decide (c = b)).length := by rw [dpAll_len hy, List.length_map]
  have bsz := ok.sz b hb
  -- the rest
  have rest : ∀ G : Hp, Same H2 G → (tSeq (tIfS (tTest (tOp rEq (tVar 3) (tC (.int 1)))) (tRet (tTup (tCons (tC (.str "any")) tNil))) tNext)
      (tSeq (tIfS (tTest (tOp rEq (tVar 3) (tC (.int 2)))) (tRet (tTup (tCons (tC (.str "on")) (tCons (tOp (rI0 fun i j => .int (i + j)) (tC (.int 1)) (tCall spTake [] E0 (tCons (tVar 0) (tCons (tC (.int 3)) tNil)))) tNil)))) tNext)
      (tRet (tTup (tCons (tC (.str "to")) (tCons (tCall spTake [] E0 (tCons (tVar 0) (tCons (tOp (rIxT K) (tVar 2) (tC (.int 1))) tNil))) tNil))))))
      { nx := fun _ H' => Q .non H', rt := Q } [some (.ref p), some (.ref l), some (.ref ca), some (.int r), some (.ref D), none] G := by
    intro G sG
    have plG := pool_same pl2 sG
    have sbG : Same (off p H) (off p G) := sb.trans (off_mono sG)
    have hcG := same_tup (off_mono (p := p) sG) hc2
    refine ⟨_, rfl, rfl, _, rfl, ite2 (fun e => ?_) (fun e => ?_)⟩
    · refine ⟨by show 1 ≤ sizeLine; decide, fun t nt => ?_⟩
      obtain ⟨a1, a2, a3⟩ := new_tup (ds := [.str "any"]) plG nt sbG (.cons (.str _) .nil)
      exact q _ _ .any a1 a2 a3 trivial
    · refine ⟨_, rfl, rfl, _, rfl, ite2 (fun e => ?_) (fun e => ?_)⟩
      · refine ⟨_, rfl, p, 3, rfl, plG, by decide, by decide, fun H3 r3 pl3 o3 h0 h1 => ⟨_, _, rfl, rfl, by show 2 ≤ sizeLine; decide, fun t nt => ?_⟩⟩
        obtain ⟨a1, a2, a3⟩ := new_tup (ds := [.str "on", .int (1 + r3)]) (H := H) pl3 nt (by rw [o3]; exact sbG) (.cons (.str _) (.cons (.int _) .nil))
        exact q _ _ (.on (1 + r3)) a1 a2 a3 ⟨by omega, by omega⟩
      · refine ⟨_, rfl, _, rfl, ca, _, 1, _, rfl, rfl, same_tup off_sub hcG, atI_nat (j := 1) rfl, p, b.2, rfl, plG, by omega, by omega, fun H3 r3 pl3 o3 h0 h1 => ⟨by show 2 ≤ sizeLine; decide, fun t nt => ?_⟩⟩
        obtain ⟨a1, a2, a3⟩ := new_tup (ds := [.str "to", .int r3]) (H := H) pl3 nt (by rw [o3]; exact sbG) (.cons (.str _) (.cons (.int _) .nil))
        exact q _ _ (.to r3) a1 a2 a3 ⟨h0, h1⟩
  refine ⟨_, rfl, rfl, _, rfl, ite2 (fun e => ?_) (fun e => rest H2 (Same.refl H2))⟩
  refine ⟨_, rfl, Nat.zero_le _, fun e0 n0 => ?_⟩
  have s3 : Same H2 (upd H2 e0 (.lst [])) := same_new n0
  refine ⟨_, _, .lst (SqL.of (s3 _ _ hD)) (dpAll_same (off_sub.trans s3) _ _ hy2), .lst (SqL.of upd_same) .nil, boxL_shaped (fun c hc => ok.lay c (List.mem_filter.mp hc).1), nilL_shaped, _, rfl, ?_⟩
  rw [boxL_eqv]
  refine ite2 (fun e2 => ?_) (fun e2 => rest _ s3)
  have pl3 := pool_same pl2 s3
  have s23 : Same (off p H2) (off p (upd H2 e0 (.lst []))) := off_mono s3
  have hD3 := s23 _ _ hD2
  have hy3 := dpAll_same s23 _ _ hy2
  have sb3 := sb.trans s23
  generalize upd H2 e0 (.lst []) = H3 at pl3 s23 hD3 hy3 sb3 ⊢
  have yl0 : 0 < ys.length := by
    rw [yl]
    refine List.length_pos_iff.mpr fun z => ?_
    rw [z] at e2
    cases e2
  have yl1 : ys.length ≤ 100 := by
    rw [yl]
    exact Nat.le_trans (List.length_filter_le _ _) ok.few
  refine ⟨_, rfl, _, rfl, _, rfl, D, _, rfl, .inl (SqL.of (off_sub _ _ hD3)), p, _, rfl, pl3, by omega, by omega, fun H4 r4 pl4 o4 h0 h1 => ?_⟩
  have hD4 : off p H4 D = some (.lst ys) := by
    rw [o4]
    exact hD3
  have hi : r4.toNat < ys.length := by omega
  have hg : ys[r4.toNat]? = some ys[r4.toNat] := List.getElem?_eq_getElem hi
  obtain ⟨d, hd1, hd2⟩ := dpAll_get hy3 hg
  rw [List.getElem?_map] at hd1
  obtain ⟨c, hc1, rfl⟩ := Option.map_eq_some_iff.mp hd1
  have mc := List.mem_filter.mp (List.mem_of_getElem? hc1)
  rw [← o4] at hd2
  have hat : atI ys r4 = some ys[r4.toNat] := by
    have z := atI_nat hg
    rwa [Int.toNat_of_nonneg h0] at z
  generalize ys[r4.toNat] = y at hd2 hat
  obtain ⟨cy, z1, z2, rfl, hcy, f1, f2⟩ := dp2 hd2
  cases dp_str f1
  refine ⟨D, _, r4, _, rfl, rfl, SqL.of (off_sub _ _ hD4), hat, cy, _, 0, _, rfl, rfl, same_tup off_sub hcy, atI_nat (j := 0) rfl, by show 2 ≤ sizeLine; decide, fun t nt => ?_⟩
  obtain ⟨a1, a2, a3⟩ := new_tup (ds := [.str "of", .str c.1]) (H := H) pl4 nt (by rw [o4]; exact sb3) (.cons (.str _) (.cons (.str _) .nil))
  obtain ⟨m1, m2⟩ := Bool.and_eq_true_iff.mp mc.2
  refine q _ _ (.of c.1) a1 a2 a3 ⟨fun en => ?_, c.2, size_mem ok.nd mc.1, of_decide_eq_true m1⟩
  have z1 := size_mem ok.nd mc.1
  have z2 := size_mem ok.nd hb
  rw [en, z2] at z1
  have z3 : c = b := Prod.ext en (Option.some.inj z1).symm
  rw [z3, decide_eq_true rfl] at m2
  cases m2
end
end PP

set_option maxHeartbeats 4000000
/-! set(xs), xs a list of ints, as a value; sorted of it -/
namespace SL
open PySem PySem.Spec PyProof.Rows L2
/-- the set as it is born -/
abbrev born (w : World) : Obj := { cls := .type "set", dict := none, data := .set #[] 0 (.fresh 0 0 (!w.params.followText "set-order")) }
section
variable {P : Program} {w : World} {A : Around} {E : Value → Shared → Prop} {s : Shared}
theorem val_of {its : Array Value} {ns : List Int} (hi : IntsAre its.toList ns) (z : its.size = ns.length) : ∀ (i : Nat) (v : Value), its[i]? = some v → ∃ k t, ns[i]? = some k ∧ v = .int k t := fun i v e => by
  have lt : i < ns.length := z ▸ (Array.getElem?_eq_some_iff.mp e).1
  obtain ⟨t, q⟩ := PyProof.Rows.IntsAre.int_at hi i v (by rw [Array.getElem?_toList]; exact e)
  refine ⟨ns[i], t, List.getElem?_eq_getElem lt, ?_⟩
  rw [q, List.getD_eq_getElem?_getD, List.getElem?_eq_getElem lt] <;> rfl
/-- what stands once the set is filled -/
def Filled (w : World) (s : Shared) (ns : List Int) (s2 : Shared) : Prop := ∃ h' tk c, s2 = { s with heap := h', toks := tk } ∧ SetR w h' s.heap.objs.size (fun j => decide (j ∈ ns)) c ∧ c ≤ ns.length ∧ ∀ b o, s.heap.get? b = some o → h'.get? b = some o
set_option maxHeartbeats 8000000 in
theorem call_set_listI {l : Addr} {its : Array Value} (ns : List Int) {Q : Value → Shared → Prop} (hh : A.handled = none) (hl : s.heap.IsList l its) (hi : IntsAre its.toList ns) (few : ns.length + 1 < scanBound) (h : ∀ s2, Filled w s ns s2 → Q (.ref s.heap.objs.size) s2) :
    wpAny (model P w) A (call (.type "set") [.ref l]) Q E s := by
  have z : its.size = ns.length := by
    have q := IntsAre.length hi
    rwa [Array.length_toList] at q
  obtain ⟨c, tl, hmro⟩ := F.called_set.mro
  have hmade := F.called_set.made
  have hsub := F.called_set.sub
  refine wpAny_call (codeAny_of_tree ?_)
  show wpAny _ _ (callAny (.type "set") _) _ _ _
  refine wpAny_pure ⟨Code.quiet_builtin _ (by decide +kernel), codeAny_builtin F.entry_type_call ?_⟩
  rw [Around.under_plain (weight_type_call_type "set" [.ref l] []) rfl]
  have h1 := F.called_set.notType
  have h2 := F.called_set.canCreate
  have hct := F.typeCall_set_1 (.ref l)
  repeat (any_goals (first | assumption | wp_step))
  refine codeAny_mono (code_set_led1 (.ref l) (E := E) (Q₁ := fun obj s₁ => obj = .ref s.heap.objs.size ∧ s₁ = { s with heap := s.heap.push (born w) }) ⟨rfl, rfl⟩) fun r s₁ hr => ?_
  cases r with
  | error e => exact hr
  | ok fl =>
    cases fl with
    | ret obj =>
      obtain ⟨rfl, rfl⟩ := hr
      have new : (s.heap.push (born w)).get? s.heap.objs.size = some (born w) := Heap.get?_push_size _ rfl
      have hT : Shared.TypeIs { s with heap := s.heap.push (born w) } (.ref s.heap.objs.size) "set" := ⟨_, new, rfl⟩
      have hli := F.called_set.init.lookup
      have hbi := F.called_set.init.bind (.ref s.heap.objs.size)
      repeat (any_goals (first | assumption | wp_step))
      refine codeAny_mono (codeAny_call_builtin (R := wants (fun r s₂ => r = .none ∧ Filled w s ns s₂) E) F.called_set.init.plain F.entry_set_init (check_set_init_1 hT ?_)) fun r₂ s₂ hr₂ => ?_
      · obtain ⟨⟨ocls, odict, odata, oslots⟩, hol, hcl, nl, hdl⟩ := hl
        simp only at hcl hdl
        subst hcl; subst hdl
        have lt : l < s.heap.objs.size := Heap.lt_size hol
        have hol' : (s.heap.push (born w)).get? l = some { cls := .type "list", dict := odict, data := .seq its nl, slots := oslots } := Heap.get?_push_of_some _ hol
        have hsls := F.sub_list_set
        have hslf := F.sub_list_frozenset
        have hne : (Value.type "list" == Value.type "dict") = false := by decide
        have hl1 : (s.heap.push (born w)).IsList l its := ⟨_, hol', rfl, nl, rfl⟩
        unfold Builtin.«set.__init__» noKeywords Builtin.Frozenset.updateFrom
        generalize hPI : pyIter = PI
        wp_walk
        subst hPI
        refine wpAny_pyIter_list hl1 ?_
        refine wpAny_bind (wpAny_runValue ?_)
        have hh3 : A.in1.in1.in1.handled = none := by simp [hh]
        have hz : (s.heap.push (born w)).objs.size = s.heap.objs.size + 1 := Heap.size_push ..
        have hneI : l ≠ (s.heap.push (born w)).objs.size := by rw [hz]; exact Nat.ne_of_lt (Nat.lt_succ_of_lt lt)
        have out : s.heap.objs.size ∉ [(s.heap.push (born w)).objs.size, l] := by
          rw [hz]
          simp only [List.mem_cons, List.mem_singleton, List.not_mem_nil, or_false, not_or]
          exact ⟨Nat.ne_of_lt (Nat.lt_succ_self _), Nat.ne_of_gt lt⟩
        refine set_update_ints ((Walks.list hh3 _ l hneI its).toS) s.heap.objs.size out ns z few (val_of hi z) (its.size - 0) 0 _ (by omega) (Nat.zero_le _) ⟨⟨_, Heap.get?_push_size _ rfl, rfl, rfl⟩, (hl1.push _)⟩
          ⟨0, Nat.le_refl 0, setR_new_at (Heap.get?_push_of_some _ new)⟩ fun s' c' hm hc' hS' => ?_
        obtain ⟨h', g2, d', tk', os'⟩ := s'
        obtain rfl : g2 = s.gens := hm.gens
        obtain rfl : d' = s.drawn := hm.drawn
        obtain rfl : os' = s.os := hm.os
        show wpAny _ _ _ _ _ _
        refine wpAny_pure ?_
        show wpAny _ _ (ret Value.none) _ _ _
        refine wpAny_pure ⟨rfl, h', tk', c', rfl, hS', z ▸ hc', fun b o e => ?_⟩
        have hb0 : b < s.heap.objs.size := Heap.lt_size e
        refine hm.heap b o ?_ (Heap.get?_push_of_some _ (Heap.get?_push_of_some _ e))
        rw [hz]
        simp only [List.mem_cons, List.mem_singleton, List.not_mem_nil, or_false, not_or]
        exact ⟨Nat.ne_of_lt hb0, Nat.ne_of_lt (Nat.lt_succ_of_lt hb0)⟩
      · cases r₂ with
        | error e => exact hr₂
        | ok fl₂ =>
          cases fl₂ with
          | ret r =>
            obtain ⟨rfl, hF⟩ := hr₂
            repeat (any_goals (first | assumption | wp_step))
            exact h _ hF
          | _ => exact hr₂.elim
    | _ => exact hr.elim
end
section
variable {X : Cx}
def rSetL (K : PySem.W.Frag) (w : World) : List V → Hp → VK → Prop := fun vs H Q => ∃ (t : Addr) (ns : List Int), vs = [.ref t] ∧ SqL K H t (ns.map V.int) ∧ ns.length < 60 ∧
  ∀ a c, H a = none → c ≤ ns.length → Q (.ref a) (upd H a (SetO w a (fun j => decide (j ∈ ns)) c))
theorem cr_setL (calm : X.calm = true) : CallR X (.type "set") (rSetL X.K X.w) := by
  intro pins s σ H vs us Q I r ⟨t, ns, e, ht, few, q⟩
  subst e
  rw [Vals.ref1 r]
  obtain ⟨its, rv, pl, hz⟩ := I.list ht
  refine call_set_listI ns (I.ok.hd calm) pl.isList (by simpa using ints_of_vals rv) (by unfold scanBound; omega) fun s2 ⟨h1, tk, c, e, R, le, old⟩ => ?_
  subst e
  exact ⟨.ref s.heap.objs.size, _, I.laid (t' := tk) old (Nat.le_refl _) (setO_new R), rfl, q _ c (I.hok.fresh (Nat.le_refl _)) le⟩
end
end SL

set_option maxHeartbeats 4000000
namespace PP
open PySem PySem.Spec PyProof.Rows L2 G3 M0 PA
abbrev nRow : List Str := ["_law_pool_here", "_law_boxes", "_law_many", "_law_titles", "_law_others", "_law_way", "_law_box"]
theorem scRow : FnScope nRow ["_law_pool_here", "_law_boxes", "_law_many", "_law_titles", "_law_others"] (defScope s_law_row) := ⟨rfl, rfl, rfl, by decide +kernel, rfl, by decide +kernel, by decide +kernel⟩
theorem strL_shaped {zs : List Str} (h : ∀ z ∈ zs, PyData.strOk z = true) : SeqAt.shaped (.list (zs.map PyData.str)) = true := by
  unfold SeqAt.shaped
  have e1 : (PyData.list (zs.map PyData.str)).canLay0 = true := by
    simp only [PyData.canLay0]
    exact lay_all fun x hx => by
      obtain ⟨b, hb, rfl⟩ := List.mem_map.mp hx
      simp only [PyData.canLay0]
      exact h b hb
  have e2 : (PyData.list (zs.map PyData.str)).depth ≤ 64 := Nat.le_trans (G4.depth_list (k := 0) fun x hx => by
    obtain ⟨b, hb, rfl⟩ := List.mem_map.mp hx
    simp only [PyData.depth]
    exact Nat.le_refl _) (by decide)
  rw [e1, decide_eq_true e2]
  rfl
theorem strL_eqv (zs : List Str) : PyData.eqv (.list (zs.map PyData.str)) (.list []) = zs.isEmpty := by
  cases zs <;> simp [PyData.eqv, PyData.eqvAll]
theorem strL_dp {K : PySem.W.Frag} {H : Hp} : ∀ zs : List Str, DpAll K H (zs.map V.str) (zs.map PyData.str)
  | [] => .nil
  | z :: zs => .cons (.str z) (strL_dp zs)
theorem intL_dp {K : PySem.W.Frag} {H : Hp} : ∀ zs : List Int, DpAll K H (zs.map V.int) (zs.map PyData.int)
  | [] => .nil
  | z :: zs => .cons (.int z) (intL_dp zs)
theorem rising_of {a : Int} : ∀ {ns : List Int}, ns.Pairwise (· < ·) → (∀ n ∈ ns, a < n) → Rising a ns
  | [], _, _ => trivial
  | n :: ns, h, ha => by
    obtain ⟨h1, h2⟩ := List.pairwise_cons.mp h
    exact ⟨ha n List.mem_cons_self, rising_of h2 h1⟩
theorem and_if {T : Hp → Prop} {H : Hp} {b : Bool} {X : Prop} (rest : ∀ G, Same H G → T G) (yes : b = true → (∀ G, Same H G → T G) → X) : if b = true then X else T H := by
  split
  · exact yes ‹_› rest
  · exact rest H (Same.refl H)
theorem lz1 : 1 ≤ sizeLine := by decide
theorem lz2 : 2 ≤ sizeLine := by decide
theorem lz3 : 3 ≤ sizeLine := by decide
theorem lz4 : 4 ≤ sizeLine := by decide
/-- a word drawn from a list -/
theorem pick {zs : List Str} {i : Int} (h0 : 0 ≤ i) (h1 : i < zs.length) : ∃ z ∈ zs, atI (zs.map V.str) i = some (.str z) := by
  have hi : i.toNat < zs.length := by omega
  refine ⟨zs[i.toNat], List.getElem_mem hi, ?_⟩
  have z := atI_nat (xs := zs.map V.str) (j := i.toNat) (v := .str zs[i.toNat]) (by rw [List.getElem?_map, List.getElem?_eq_getElem hi]; rfl)
  rwa [Int.toNat_of_nonneg h0] at z
section
variable {P : Program} {w : World} {K : PySem.W.Frag} {mg : Str → Option Value} {base : Heap}
structure Words (zs : List Str) : Prop where
  few : zs.length ≤ 100
  lay : ∀ z ∈ zs, PyData.strOk z = true
def spRow (K : PySem.W.Frag) : Sp := fun vs H Q _ => ∃ (p l tl ol : Addr) (ws : List V) (bs : List Box) (m : Int) (ts os : List Str), vs = [.ref p, .ref l, .int m, .ref tl, .ref ol] ∧ Pool H p ∧ SqL K (off p H) l ws ∧ DpAll K (off p H) ws (bs.map boxD) ∧ Draw bs ∧
  1 ≤ m ∧ m ≤ 1000 ∧ SqL K (off p H) tl (ts.map V.str) ∧ SqL K (off p H) ol (os.map V.str) ∧ Words ts ∧ Words os ∧
  ∀ (H' : Hp) (u : V) (r : PA.Row), Pool H' p → Same (off p H) (off p H') → Dp K (off p H') u r.data → RowOk bs ts os m r → Q u H'
set_option maxHeartbeats 8000000 in
theorem ok_row {f : Addr} {fd : FuncData} {k : Nat} (F : Fun K "_law_row" "_law_row" s_law_row f fd) (T : Def P w K mg base CX0 (k + 1) "_law_take" ["_law_pool_here", "_law_many"] spTake) (S : Def P w K mg base CX0 (k + 1) "_law_source" ["_law_pool_here", "_law_boxes", "_law_box"] (spSrc K))
    (ml : mg "len" = none) (mt : mg "tuple" = none) (mso : mg "sorted" = none) (mse : mg "set" = none) (mi : mg "int" = none) :
    FnOk P w K mg base CX0 (k + 1 + 1) f fd ["_law_pool_here", "_law_boxes", "_law_many", "_law_titles", "_law_others"] (spRow K) := by
  refine F.ok scRow (fun vs H Q E h => ?_) (fun cdv A outer s H vs Q E hr h => ?_)
  · obtain ⟨p, l, tl, ol, ws, bs, m, ts, os, rfl, _⟩ := h
    rfl
  obtain ⟨p, l, tl, ol, ws, bs, m, ts, os, rfl, pl, hl, hws, ok, m1, m2, htl, hol, wt, wo, q⟩ := h
  have nd := scRow.nd
  refine ⟨_, pss_cons (ps_set (i := 5) nd rfl (.inl rfl) (pe_call T.ok hr (by rfl) T.g T.kp T.b .nil pass0 (pa_cons (pv 0) (pa_cons pe_int pa_nil))))
    (pss_cons (ps_set (i := 6) nd rfl (.inl rfl) (pe_ix ix_list (pv 1) (pe_call T.ok hr (by rfl) T.g T.kp T.b .nil pass0 (pa_cons (pv 0) (pa_cons (pe_callB call_len_seq (by rfl) ml PySem.boot_len (pa_cons (pv 1) pa_nil)) pa_nil))) (fun _ _ => rfl)))
    (pss_cons (ps_if (pt_cmpR op_lt (pv 5) pe_int (nomark _)) (pss_one (ps_ret (pe_tup (pa_cons pe_str (pa_cons (pe_ix ix_tup (pv 6) pe_int (fun _ _ => rfl)) (pa_cons (pe_call S.ok hr (by rfl) S.g S.kp S.b .nil pass0 (pa_cons (pv 0) (pa_cons (pv 1) (pa_cons (pv 6) pa_nil)))) pa_nil)))))) pss_nil)
    (pss_cons (ps_if (pt_cmpR op_lt (pv 5) pe_int (nomark _)) (pss_one (ps_ret (pe_tup (pa_cons pe_str (pa_cons (pe_ix ix_tup (pv 6) pe_int (fun _ _ => rfl)) (pa_cons (pe_call T.ok hr (by rfl) T.g T.kp T.b .nil pass0 (pa_cons (pv 0) (pa_cons (pe_ix ix_tup (pv 6) pe_int (fun _ _ => rfl)) pa_nil))) (pa_cons (pe_call T.ok hr (by rfl) T.g T.kp T.b .nil pass0 (pa_cons (pv 0) (pa_cons (pe_op op_add (pv 2) pe_int) pa_nil))) pa_nil))))))) pss_nil)
    (pss_cons (ps_if (pt_cmpR op_eq (pv 5) pe_int (nomark _)) (pss_one (ps_ret (pe_tup (pa_cons pe_str (pa_cons (pe_ix ix_tup (pv 6) pe_int (fun _ _ => rfl)) (pa_cons (pe_call T.ok hr (by rfl) T.g T.kp T.b .nil pass0 (pa_cons (pv 0) (pa_cons (pe_ix ix_tup (pv 6) pe_int (fun _ _ => rfl)) pa_nil))) pa_nil)))))) pss_nil)
    (pss_cons (ps_if (pt_cmpR op_eq (pv 5) pe_int (nomark _)) (pss_one (ps_ret (pe_tup (pa_cons pe_str (pa_cons (pe_callTy call_tuple_of (by rfl) mt (by decide +kernel) (pa_cons (pe_callB (cr_sortedSet rfl) (by rfl) mso (by decide +kernel) (pa_cons (pe_callTy (SL.cr_setL rfl) (by rfl) mse (by decide +kernel) (pa_cons (pe_lst
        (pa_cons (pe_call T.ok hr (by rfl) T.g T.kp T.b .nil pass0 (pa_cons (pv 0) (pa_cons (pe_op op_add (pv 2) pe_int) pa_nil))) (pa_cons (pe_call T.ok hr (by rfl) T.g T.kp T.b .nil pass0 (pa_cons (pv 0) (pa_cons (pe_op op_add (pv 2) pe_int) pa_nil))) pa_nil))) pa_nil)) pa_nil)) pa_nil)) pa_nil))))) pss_nil)
    (pss_cons (ps_if (PW.pt (pw_and (pt_cmpR op_lt (pv 5) pe_int (nomark _)) (pw_and1 (pt_cmpR (op_neD hr.units) (pv 3) (pe_lst pa_nil) (nomark _))))) (pss_one (ps_ret (pe_tup (pa_cons pe_str (pa_cons (pe_ix ix_list (pv 3) (pe_call T.ok hr (by rfl) T.g T.kp T.b .nil pass0 (pa_cons (pv 0) (pa_cons (pe_callB call_len_seq (by rfl) ml PySem.boot_len (pa_cons (pv 3) pa_nil)) pa_nil))) (fun _ _ => rfl)) pa_nil))))) pss_nil)
    (pss_cons (ps_if (PW.pt (pw_and (pt_cmpR op_eq (pv 5) pe_int (nomark _)) (pw_and1 (pt_cmpR (op_neD hr.units) (pv 4) (pe_lst pa_nil) (nomark _))))) (pss_one (ps_ret (pe_tup (pa_cons pe_str (pa_cons (pe_ix ix_list (pv 4) (pe_call T.ok hr (by rfl) T.g T.kp T.b .nil pass0 (pa_cons (pv 0) (pa_cons (pe_callB call_len_seq (by rfl) ml PySem.boot_len (pa_cons (pv 4) pa_nil)) pa_nil))) (fun _ _ => rfl)) pa_nil))))) pss_nil)
    (pss_one (ps_ret (pe_ix ix_list (pe_lst (pa_cons (pe_tup (pa_cons pe_str pa_nil)) (pa_cons (pe_tup (pa_cons pe_str pa_nil)) pa_nil))) (pe_callTy call_int1 (by rfl) mi (by decide +kernel) (pa_cons (pe_cmpR op_eq (pv 5) pe_int (nomark _)) pa_nil)) (fun _ _ => rfl))))))))))), ?_⟩
  have bl1 := ok.one
  have bl2 := ok.few
  have hwl : ws.length = bs.length := by rw [dpAll_len hws, List.length_map]
  refine ⟨_, rfl, p, 14, rfl, pl, by decide, by decide, fun H1 r1 pl1 o1 r10 r11 => ?_⟩
  refine ⟨_, rfl, _, rfl, _, rfl, l, _, rfl, .inl (off_sub.seq (o1 ▸ hl)), p, _, rfl, pl1, by omega, by omega, fun H2 r2 pl2 o2 r20 r21 => ?_⟩
  have oo : off p H2 = off p H := o2.trans o1
  have hi : r2.toNat < ws.length := by omega
  have hg : ws[r2.toNat]? = some ws[r2.toNat] := List.getElem?_eq_getElem hi
  obtain ⟨d, hd1, hd2⟩ := dpAll_get hws hg
  rw [List.getElem?_map] at hd1
  obtain ⟨b, hb1, rfl⟩ := Option.map_eq_some_iff.mp hd1
  have mb := List.mem_of_getElem? hb1
  have hat : atI ws r2 = some ws[r2.toNat] := by
    have z := atI_nat hg
    rwa [Int.toNat_of_nonneg r20] at z
  rw [← oo] at hd2 hl hws htl hol q
  generalize ws[r2.toNat] = y at hd2 hat
  obtain ⟨cy, z1, z2, rfl, hcy, f1, f2⟩ := dp2 hd2
  cases dp_str f1
  cases dp_int f2
  have hcs := same_tup off_sub hcy
  obtain ⟨sz1, sz2⟩ := ok.sz b mb
  have hsz := size_mem ok.nd mb
  refine ⟨l, _, r2, _, rfl, rfl, off_sub.seq hl, hat, ?_⟩
  refine ⟨_, rfl, _, _, rfl, rfl, _, rfl, ite2 (fun e => ?_) (fun e => ?_)⟩
  · -- set
    refine ⟨_, rfl, cy, _, 0, _, rfl, rfl, hcs, atI_nat (j := 0) rfl, _, rfl, _, rfl, _, rfl, p, l, _, ws, bs, b, rfl, pl2, hl, hws, ok, mb, hd2, fun H3 u so pl3 s3 hu hso => ⟨lz3, fun t nt => ?_⟩⟩
    obtain ⟨a1, a2, a3⟩ := new_tup (ds := [.str "set", .str b.1, so.data]) (H := H2) pl3 nt s3 (.cons (.str _) (.cons (.str _) (.cons hu .nil)))
    exact q _ _ (.set b.1 so) a1 a2 a3 ⟨b.2, hsz, hso⟩
  refine ⟨_, rfl, _, _, rfl, rfl, _, rfl, ite2 (fun e => ?_) (fun e => ?_)⟩
  · -- if
    refine ⟨_, rfl, cy, _, 0, _, rfl, rfl, hcs, atI_nat (j := 0) rfl, _, rfl, _, rfl, cy, _, 1, _, rfl, rfl, hcs, atI_nat (j := 1) rfl, p, b.2, rfl, pl2, by omega, by omega, fun H3 r3 pl3 o3 h0 h1 => ?_⟩
    refine ⟨_, rfl, _, rfl, _, _, rfl, rfl, p, m + 1, rfl, pl3, by omega, by omega, fun H4 r4 pl4 o4 g0 g1 => ⟨lz4, fun t nt => ?_⟩⟩
    obtain ⟨a1, a2, a3⟩ := new_tup (K := K) (vs := [.str "if", .str b.1, .int r3, .int r4]) (ds := [.str "if", .str b.1, .int r3, .int r4]) (H := H2) pl4 nt (by rw [o4, o3]; exact Same.refl _) (.cons (.str _) (.cons (.str _) (.cons (.int _) (.cons (.int _) .nil))))
    exact q _ _ (.ift b.1 r3 r4) a1 a2 a3 ⟨b.2, hsz, h0, h1, g0, by omega⟩
  refine ⟨_, rfl, rfl, _, rfl, ite2 (fun e => ?_) (fun e => ?_)⟩
  · -- wait
    refine ⟨_, rfl, cy, _, 0, _, rfl, rfl, hcs, atI_nat (j := 0) rfl, _, rfl, _, rfl, cy, _, 1, _, rfl, rfl, hcs, atI_nat (j := 1) rfl, p, b.2, rfl, pl2, by omega, by omega, fun H3 r3 pl3 o3 h0 h1 => ⟨lz3, fun t nt => ?_⟩⟩
    obtain ⟨a1, a2, a3⟩ := new_tup (K := K) (vs := [.str "wait", .str b.1, .int r3]) (ds := [.str "wait", .str b.1, .int r3]) (H := H2) pl3 nt (by rw [o3]; exact Same.refl _) (.cons (.str _) (.cons (.str _) (.cons (.int _) .nil)))
    exact q _ _ (.wait b.1 r3) a1 a2 a3 ⟨b.2, hsz, h0, h1⟩
  refine ⟨_, rfl, rfl, _, rfl, ite2 (fun e => ?_) (fun e => ?_)⟩
  · -- go
    refine ⟨_, rfl, _, rfl, _, _, rfl, rfl, p, m + 1, rfl, pl2, by omega, by omega, fun H3 r3 pl3 o3 h0 h1 => ?_⟩
    refine ⟨_, rfl, _, rfl, _, _, rfl, rfl, p, m + 1, rfl, pl3, by omega, by omega, fun H4 r4 pl4 o4 g0 g1 => ⟨lz2, fun x nx => ?_⟩⟩
    have s4 : Same (off p H2) (off p H4) := by rw [o4, o3]; exact Same.refl _
    refine ⟨x, [r3, r4], rfl, SqL.of upd_same, by show 2 < 60; decide, fun a c na hc => ?_⟩
    have s5 : Same H4 (upd H4 x (.lst [.int r3, .int r4])) := same_new nx
    refine ⟨a, _, c, rfl, upd_same, Nat.lt_of_le_of_lt hc (by show 2 < 64; decide), fun ns b2 pw mem len nb => ?_⟩
    have s6 := same_new (o := SetO w a (fun j => decide (j ∈ [r3, r4])) c) na
    have s7 := same_new (o := .lst (ns.map V.int)) nb
    have s47 := (s5.trans s6).trans s7
    refine ⟨b2, _, rfl, .inl ⟨SqL.of upd_same, fun t nt => ⟨lz2, fun t2 nt2 => ?_⟩⟩⟩
    have pl7 := pool_same pl4 s47
    obtain ⟨a1, a2, a3⟩ := new_tup (K := K) (ds := ns.map PyData.int) (H := H2) pl7 nt (s4.trans (off_mono s47)) (intL_dp ns)
    obtain ⟨b1, b2, b3⟩ := new_tup (ds := [.str "go", .tuple (ns.map PyData.int)]) (H := H2) a1 nt2 a2 (.cons (.str _) (.cons a3 .nil))
    have mm : ∀ n ∈ ns, n = r3 ∨ n = r4 := fun n hn => by
      have z := of_decide_eq_true ((mem n).mp hn)
      simpa using z
    refine q _ _ (.go ns) b1 b2 b3 ⟨?_, ?_, rising_of pw fun n hn => ?_, fun n hn => ?_⟩
    · exact List.length_pos_of_mem ((mem r3).mpr (decide_eq_true List.mem_cons_self))
    · rw [len]
      exact Nat.le_trans hc (by show 2 ≤ 4; decide)
    · rcases mm n hn with rfl | rfl <;> omega
    · rcases mm n hn with rfl | rfl <;> omega
  -- call
  refine ⟨_, rfl, _, _, rfl, rfl, _, rfl, and_if (H := H2) (fun G sG => iteF ?_) (fun e rest => ?_)⟩
  case refine_2 =>
    refine ⟨_, rfl, Nat.zero_le _, fun e0 n0 => ?_⟩
    have s3 : Same H2 (upd H2 e0 (.lst [])) := same_new n0
    refine ⟨_, _, .lst (s3.seq (off_sub.seq htl)) (strL_dp ts), .lst (SqL.of upd_same) .nil, strL_shaped wt.lay, nilL_shaped, _, rfl, ?_⟩
    rw [strL_eqv]
    refine ite2 (fun e2 => ?_) (fun e2 => rest _ s3)
    have t0 : 0 < ts.length := List.length_pos_iff.mpr fun z => by
      rw [z] at e2
      cases e2
    have tf := wt.few
    refine ⟨_, rfl, _, rfl, _, rfl, tl, _, rfl, .inl (s3.seq (off_sub.seq htl)), p, _, rfl, pool_same pl2 s3, by rw [List.length_map]; omega, by rw [List.length_map]; omega, fun H4 r4 pl4 o4 h0 h1 => ?_⟩
    rw [List.length_map] at h1
    obtain ⟨z, hz, hat4⟩ := pick h0 h1
    have s4 : Same (off p H2) (off p H4) := by
      rw [o4]
      exact off_mono s3
    refine ⟨tl, _, r4, _, rfl, rfl, off_sub.seq (s4.seq htl), hat4, lz2, fun t nt => ?_⟩
    obtain ⟨a1, a2, a3⟩ := new_tup (K := K) (vs := [.str "call", .str z]) (ds := [.str "call", .str z]) (H := H2) pl4 nt s4 (.cons (.str _) (.cons (.str _) .nil))
    exact q _ _ (.call z) a1 a2 a3 hz
  -- begin
  refine ⟨_, rfl, rfl, _, rfl, and_if (H := G) (fun G2 sG2 => iteF ?_) (fun e rest => ?_)⟩
  case refine_2 =>
    refine ⟨_, rfl, Nat.zero_le _, fun e0 n0 => ?_⟩
    have s3 : Same H2 (upd G e0 (.lst [])) := sG.trans (same_new n0)
    refine ⟨_, _, .lst (s3.seq (off_sub.seq hol)) (strL_dp os), .lst (SqL.of upd_same) .nil, strL_shaped wo.lay, nilL_shaped, _, rfl, ?_⟩
    rw [strL_eqv]
    refine ite2 (fun e2 => ?_) (fun e2 => rest _ (same_new n0))
    have t0 : 0 < os.length := List.length_pos_iff.mpr fun z => by
      rw [z] at e2
      cases e2
    have tf := wo.few
    refine ⟨_, rfl, _, rfl, _, rfl, ol, _, rfl, .inl (s3.seq (off_sub.seq hol)), p, _, rfl, pool_same pl2 s3, by rw [List.length_map]; omega, by rw [List.length_map]; omega, fun H4 r4 pl4 o4 h0 h1 => ?_⟩
    rw [List.length_map] at h1
    obtain ⟨z, hz, hat4⟩ := pick h0 h1
    have s4 : Same (off p H2) (off p H4) := by
      rw [o4]
      exact off_mono s3
    refine ⟨ol, _, r4, _, rfl, rfl, off_sub.seq (s4.seq hol), hat4, lz2, fun t nt => ?_⟩
    obtain ⟨a1, a2, a3⟩ := new_tup (K := K) (vs := [.str "begin", .str z]) (ds := [.str "begin", .str z]) (H := H2) pl4 nt s4 (.cons (.str _) (.cons (.str _) .nil))
    exact q _ _ (.begin z) a1 a2 a3 hz
  -- back, fault
  have s2G := sG.trans sG2
  have plG := pool_same pl2 s2G
  refine ⟨lz1, fun t1 n1 => ⟨lz1, fun t2 n2 => ⟨lz2, fun x nx => ?_⟩⟩⟩
  obtain ⟨a1, a2, a3⟩ := new_tup (K := K) (vs := [.str "back"]) (ds := [.str "back"]) (H := H2) plG n1 (off_mono s2G) (.cons (.str _) .nil)
  obtain ⟨b1, b2, b3⟩ := new_tup (K := K) (vs := [.str "fault"]) (ds := [.str "fault"]) (H := H2) a1 n2 a2 (.cons (.str _) .nil)
  have a4 := dp_same (off_mono (p := p) (same_new (o := .tup [.str "fault"]) n2)) _ _ a3
  have sx := same_new (o := .lst [.ref t1, .ref t2]) nx
  have sxo := off_mono (p := p) sx
  have plx := pool_same b1 sx
  have a5 := dp_same sxo _ _ a4
  have b5 := dp_same sxo _ _ b3
  have s5 := b2.trans sxo
  refine ⟨_, rfl, rfl, .inr ⟨_, rfl, ?_⟩⟩
  have fin : ∀ kk : Bool, rIxL K (.ref x) (.int (if kk then 1 else 0)) (upd (upd (upd G2 t1 (.tup [.str "back"])) t2 (.tup [.str "fault"])) x (.lst [.ref t1, .ref t2])) Q := by
    intro kk
    cases kk with
    | false => exact ⟨x, _, 0, _, rfl, rfl, SqL.of upd_same, atI_nat (j := 0) rfl, q _ _ .back plx s5 a5 trivial⟩
    | true => exact ⟨x, _, 1, _, rfl, rfl, SqL.of upd_same, atI_nat (j := 1) rfl, q _ _ .fault plx s5 b5 trivial⟩
  exact fin _
end
end PP

set_option maxHeartbeats 4000000
namespace PP
open PySem PySem.Spec PyProof.Rows L2 G3 G4 M0 PA EE QA LC
theorem sign_tab : ∀ c, c < 128 → (Unicode.isAlpha c && !(Unicode.isUpper c || Unicode.isTitle c)) = (decide (97 ≤ c) && decide (c ≤ 122)) := by decide +kernel
theorem low_tab : ∀ c, c < 128 → 97 ≤ c → c ≤ 122 → Unicode.isLower c = true := by decide +kernel
theorem nameB_eq (z : Str) : nameB z = (decide (1 ≤ z.length) && (decide (z.length ≤ 8) && z.cps.toList.all fun c => decide (97 ≤ c) && decide (c ≤ 122))) := by
  have hl : z.length = z.cps.toList.length := by rw [Array.length_toList]; rfl
  rw [Bool.eq_iff_iff]
  unfold nameB Txt.isascii Txt.isalpha Txt.islower
  simp only [Bool.and_eq_true, decide_eq_true_eq, List.all_eq_true, Bool.not_eq_true', ← Array.all_toList, ← Array.any_toList]
  constructor
  · rintro ⟨h1, h2, ⟨h3, h4⟩, h5, h6⟩
    refine ⟨by omega, h1, fun c hc => ?_⟩
    have a := h2 c hc
    have b := h4 c hc
    rw [List.any_eq_false] at h6
    have d := h6 c hc
    have t := sign_tab c a
    rw [b, Bool.eq_false_iff.mpr d] at t
    have t2 : (decide (97 ≤ c) && decide (c ≤ 122)) = true := t.symm
    simpa using t2
  · rintro ⟨h1, h2, h3⟩
    have lt : ∀ c ∈ z.cps.toList, c < 128 := fun c hc => by have := h3 c hc; omega
    have al : ∀ c ∈ z.cps.toList, Unicode.isAlpha c = true ∧ (Unicode.isUpper c || Unicode.isTitle c) = false := fun c hc => by
      have t := sign_tab c (lt c hc)
      obtain ⟨a, b⟩ := h3 c hc
      rw [decide_eq_true a, decide_eq_true b] at t
      simpa using t
    refine ⟨h2, lt, ⟨by omega, fun c hc => (al c hc).1⟩, ?_, ?_⟩
    · obtain ⟨c, hc⟩ : ∃ c, c ∈ z.cps.toList := by
        cases e : z.cps.toList with
        | nil => rw [e] at hl; simp at hl; omega
        | cons c r => exact ⟨c, List.mem_cons_self⟩
      rw [List.any_eq_true]
      exact ⟨c, hc, low_tab c (lt c hc) (h3 c hc).1 (h3 c hc).2⟩
    · rw [List.any_eq_false]
      intro c hc
      rw [(al c hc).2]
      exact Bool.false_ne_true
def nameD : Dt → Bool
  | .str z => nameB z
  | _ => false
def numD (lo hi : Int) : Dt → Bool
  | .int n => decide (lo ≤ n) && decide (n ≤ hi)
  | _ => false
/-- texts are texts -/
inductive TK : Dt → Prop where
  | non : TK .none
  | bl (b : Bool) : TK (.bool b)
  | int (i : Int) : TK (.int i)
  | str {z : Str} (h : PyData.strOk z = true) : TK (.str z)
  | lst {ds : List Dt} (h : ∀ d ∈ ds, TK d) : TK (.list ds)
  | tup {ds : List Dt} (h : ∀ d ∈ ds, TK d) : TK (.tuple ds)
theorem TK.of_tup {ds : List Dt} (h : TK (.tuple ds)) : ∀ d ∈ ds, TK d := by
  cases h with
  | tup h => exact h
theorem TK.of_str {z : Str} (h : TK (.str z)) : PyData.strOk z = true := by
  cases h with
  | str h => exact h
def badS (c : Nat) : Bool := !(decide (97 ≤ c) && decide (c ≤ 122))
def badV : V → Bool
  | .str z => !(!decide (z.cps.toList < ("a" : Str).cps.toList) && !decide (("z" : Str).cps.toList < z.cps.toList))
  | _ => false
theorem bad_sign (c : Nat) : badV (.str ⟨#[c]⟩) = badS c := by
  show (!(!decide ([c] < [97]) && !decide ([122] < [c]))) = !(decide (97 ≤ c) && decide (c ≤ 122))
  have a : (!decide ([c] < [97])) = decide (97 ≤ c) := by
    rw [Bool.eq_iff_iff]
    simp [List.cons_lt_cons_iff]
  have b : (!decide ([122] < [c])) = decide (c ≤ 122) := by
    rw [Bool.eq_iff_iff]
    simp [List.cons_lt_cons_iff]
  rw [a, b]
theorem a_sign (c : Nat) : (!decide ((⟨#[c]⟩ : Str).cps.toList < (Str.ofString "a").cps.toList)) = decide (97 ≤ c) := by
  show (!decide ([c] < [97])) = _
  rw [Bool.eq_iff_iff]
  simp [List.cons_lt_cons_iff]
theorem z_sign (c : Nat) : (!decide ((Str.ofString "z").cps.toList < (⟨#[c]⟩ : Str).cps.toList)) = decide (c ≤ 122) := by
  show (!decide ([122] < [c])) = _
  rw [Bool.eq_iff_iff]
  simp [List.cons_lt_cons_iff]
theorem sgn_bad (z : Str) : (sgn z).filter badV = (z.cps.toList.filter badS).map fun c => V.str ⟨#[c]⟩ := by
  unfold sgn
  rw [List.filter_map]
  congr 1
  congr 1
  funext c
  exact bad_sign c
theorem sgn_empty (z : Str) : ((z.cps.toList.filter badS).map fun c => (⟨#[c]⟩ : Str)).isEmpty = z.cps.toList.all fun c => decide (97 ≤ c) && decide (c ≤ 122) := by
  rw [Bool.eq_iff_iff, List.isEmpty_iff, List.map_eq_nil_iff, List.filter_eq_nil_iff, List.all_eq_true]
  constructor
  · intro h c hc
    have := h c hc
    unfold badS at this
    simpa using this
  · intro h c hc
    unfold badS
    rw [h c hc]
    decide
abbrev nLName : List Str := ["_law_item", "_law_sign"]
theorem scLName : FnScope nLName ["_law_item"] (defScope s_law_is_name) := ⟨rfl, rfl, rfl, by decide +kernel, rfl, by decide +kernel, by decide +kernel⟩
abbrev nLNum : List Str := ["_law_item", "_law_low", "_law_high"]
theorem scLNum : FnScope nLNum ["_law_item", "_law_low", "_law_high"] (defScope s_law_is_number) := ⟨rfl, rfl, rfl, by decide +kernel, rfl, by decide +kernel, by decide +kernel⟩
section
variable {P : Program} {w : World} {K : PySem.W.Frag} {mg : Str → Option Value} {base : Heap}
def spLNum (K : PySem.W.Frag) : Sp := fun vs H Q _ => ∃ (v : V) (d : Dt) (lo hi : Int), vs = [v, .int lo, .int hi] ∧ Dp K H v d ∧ Q (.bl (numD lo hi d)) H
theorem ok_lnum {f : Addr} {fd : FuncData} {k : Nat} (F : Fun K "_law_is_number" "_law_is_number" s_law_is_number f fd) (mi : mg "isinstance" = none) (mn : mg "int" = none) (mb : mg "bool" = none) : FnOk P w K mg base CX0 (k + 1) f fd ["_law_item", "_law_low", "_law_high"] (spLNum K) := by
  refine F.ok scLNum (fun vs H Q E h => ?_) (fun cdv A outer s H vs Q E hr h => ?_)
  · obtain ⟨v, d, lo, hi, rfl, _⟩ := h
    rfl
  obtain ⟨v, d, lo, hi, rfl, hd, q⟩ := h
  have nd := scLNum.nd
  refine ⟨_, pss_one (ps_ret (pe_and (pe_callB call_isi (by rfl) mi PyProof.Rows.boot_isinstance (pa_cons (pv 0) (pa_cons (pe_bltn (by rfl) mn (u := .type "int") (by decide +kernel) (show RelV (.ty "int") (.type "int") from rfl)) pa_nil)))
    (pe_and (pe_not (pe_callB call_isi (by rfl) mi PyProof.Rows.boot_isinstance (pa_cons (pv 0) (pa_cons (pe_bltn (by rfl) mb (u := .type "bool") (by decide +kernel) (show RelV (.ty "bool") (.type "bool") from rfl)) pa_nil))))
      (pe_one (pe_chain op_le op_le (pv 1) (pv 0) (pv 2)))))), ?_⟩
  refine ⟨_, rfl, _, _, _, _, _, rfl, .ty "int", dp_ty hd, kit_int K hd, _, rfl, ite2 (fun e1 => ?_) (fun e1 => ?_)⟩
  · refine ⟨_, rfl, _, _, _, _, _, rfl, .ty "bool", dp_ty hd, kit_bool K hd, _, rfl, _, rfl, ?_⟩
    cases hd with
    | bl b => exact iteF q
    | int i =>
      refine iteT ⟨_, rfl, _, rfl, _, _, rfl, rfl, _, rfl, ?_⟩
      by_cases z : lo ≤ i
      · rw [decide_eq_true z]
        refine ⟨_, rfl, _, _, rfl, rfl, ?_⟩
        rw [show numD lo hi (.int i) = decide (i ≤ hi) by show (decide (lo ≤ i) && decide (i ≤ hi)) = _; rw [decide_eq_true z]; rfl] at q
        exact q
      · rw [decide_eq_false z]
        rw [show numD lo hi (.int i) = false by show (decide (lo ≤ i) && decide (i ≤ hi)) = _; rw [decide_eq_false z]; rfl] at q
        exact q
    | _ => exact Bool.noConfusion (show false = true from e1)
  · cases hd with
    | bl b => exact absurd rfl e1
    | int i => exact absurd rfl e1
    | _ => exact q
def spLName (K : PySem.W.Frag) : Sp := fun vs H Q _ => ∃ (v : V) (d : Dt), vs = [v] ∧ Dp K H v d ∧ SL d ∧ TK d ∧ ∀ H', Same H H' → Q (.bl (nameD d)) H'
set_option maxHeartbeats 8000000 in
theorem ok_lname {f : Addr} {fd : FuncData} {k : Nat} (F : Fun K "_law_is_name" "_law_is_name" s_law_is_name f fd) (mi : mg "isinstance" = none) (ms : mg "str" = none) (ml : mg "len" = none) : FnOk P w K mg base CX0 (k + 1) f fd ["_law_item"] (spLName K) := by
  refine F.ok scLName (fun vs H Q E h => ?_) (fun cdv A outer s H vs Q E hr h => ?_)
  · obtain ⟨v, d, rfl, _⟩ := h
    rfl
  obtain ⟨v, d, rfl, hd, sl, tk, q⟩ := h
  have nd := scLName.nd
  refine ⟨_, pss_cons (ps_if (PW.pt (pw_or (pt_not (pt_val (pe_callB call_isi (by rfl) mi PyProof.Rows.boot_isinstance (pa_cons (pv 0) (pa_cons (pe_bltn (by rfl) ms (u := .type "str") (by decide +kernel) (show RelV (.ty "str") (.type "str") from rfl)) pa_nil)))))
      (pw_or1 (pt_not (pt_chain op_le op_le pe_int (pe_callB call_len_str (by rfl) ml PySem.boot_len (pa_cons (pv 0) pa_nil)) pe_int))))) (pss_one (ps_ret pe_bl)) pss_nil)
    (pss_one (ps_ret (pe_cmpR (op_eqD hr.units) (pe_lc (own := [("_law_sign", 1)]) (g := gName 1) (by rfl) nd (pi_str (pv 0))
        (blkOk_by (N := nLName) (sc := defScope s_law_is_name) (by decide +kernel)) (fun _ _ _ _ _ => pg_name (i := 1) nd rfl (.inl rfl)) (fun _ _ _ _ _ => pts_one (pt_not (pt_chain op_le_str op_le_str pe_str (pv 1) pe_str)))
        (fun _ _ _ _ _ => pv 1)) (pe_lst pa_nil) (nomark _)))), ?_⟩
  refine ⟨_, rfl, _, _, _, _, _, rfl, .ty "str", dp_ty hd, kit_str K hd, _, rfl, ?_⟩
  by_cases ds : isStr d = true
  rotate_left
  · rw [show isStr d = false by simpa using ds]
    have z := q H (Same.refl _)
    rw [show nameD d = false by cases d with | str z => exact absurd rfl ds | _ => rfl] at z
    exact iteT (iteT z)
  obtain ⟨z, rfl⟩ := isS_str d ds
  cases dp_str hd
  have sz : z.length ≤ 1000 := sl.of_str
  have q0 := q H (Same.refl _)
  refine iteF ⟨_, rfl, z, rfl, small_le (by omega), _, _, rfl, rfl, _, rfl, ?_⟩
  by_cases z1 : 1 ≤ z.length
  rotate_left
  · rw [decide_eq_false (show ¬ (1 : Int) ≤ (z.length : Int) by omega)]
    rw [show nameD (.str z) = false by show nameB z = false; rw [nameB_eq, decide_eq_false z1]; rfl] at q0
    exact iteF ⟨_, rfl, iteT q0⟩
  rw [decide_eq_true (show (1 : Int) ≤ (z.length : Int) by omega)]
  refine iteT ⟨_, _, rfl, rfl, _, rfl, ?_⟩
  by_cases z8 : z.length ≤ 8
  rotate_left
  · rw [decide_eq_false (show ¬ (z.length : Int) ≤ 8 by omega)]
    rw [show nameD (.str z) = false by show nameB z = false; rw [nameB_eq, decide_eq_false z8]; simp] at q0
    exact iteT q0
  rw [decide_eq_true (show (z.length : Int) ≤ 8 by omega)]
  have zl : z.length = z.cps.toList.length := by rw [Array.length_toList]; rfl
  have nv : nameD (.str z) = z.cps.toList.all fun c => decide (97 ≤ c) && decide (c ≤ 122) := by
    show nameB z = _
    rw [nameB_eq, decide_eq_true z1, decide_eq_true z8, Bool.true_and, Bool.true_and]
  refine iteF ⟨_, rfl, z, rfl, fun D nD => ?_⟩
  refine LC.lc_sift (walk_sgn z) (fun _ _ => trivial) (by unfold sgn; rw [List.length_map]; omega) nD badV (fun x H2 R hx s2 fin => ?_) (fun H2 s2 hD => ?_)
  · obtain ⟨c, hc, rfl⟩ := List.mem_map.mp hx
    have fin2 := fin [some (.str z), some (.str ⟨#[c]⟩)] H2 (Same.refl _) fun Q' h => ⟨_, rfl, h⟩
    rw [bad_sign] at fin2
    refine ⟨rfl, _, rfl, _, _, rfl, rfl, _, rfl, ?_⟩
    rw [a_sign]
    unfold badS at fin2
    by_cases c1 : 97 ≤ c
    · rw [decide_eq_true c1] at fin2 ⊢
      refine iteT ⟨_, _, rfl, rfl, _, rfl, ?_⟩
      rw [z_sign]
      exact fin2
    · rw [decide_eq_false c1] at fin2 ⊢
      exact iteF ⟨_, rfl, fin2⟩
  · rw [sgn_bad] at hD
    refine ⟨Nat.zero_le _, fun e0 n0 => ?_⟩
    have s3 : Same H2 (upd H2 e0 (.lst [])) := same_new n0
    have e : (z.cps.toList.filter badS).map (fun c => V.str ⟨#[c]⟩) = ((z.cps.toList.filter badS).map fun c => (⟨#[c]⟩ : Str)).map V.str := by rw [List.map_map]; rfl
    rw [e] at hD
    have sh : SeqAt.shaped (.list (((z.cps.toList.filter badS).map fun c => (⟨#[c]⟩ : Str)).map PyData.str)) = true := strL_shaped fun y hy => by
      obtain ⟨c, hc, rfl⟩ := List.mem_map.mp hy
      have t := tk.of_str
      unfold PyData.strOk at t ⊢
      rw [← Array.all_toList] at t ⊢
      have t2 := List.all_eq_true.mp t c (List.mem_filter.mp hc).1
      simpa using t2
    refine ⟨_, _, .lst (SqL.of (s3 _ _ hD)) (strL_dp _), .lst (SqL.of upd_same) .nil, sh, nilL_shaped, ?_⟩
    rw [strL_eqv, sgn_empty, ← nv]
    exact q _ (s2.trans s3)
end
end PP

set_option maxHeartbeats 4000000
/-! set(xs), xs a list of texts, as a value; len of it -/
namespace SX
open PySem PySem.Spec PyProof.Rows L2
/-- the set as it is born -/
abbrev born (w : World) : Obj := { cls := .type "set", dict := none, data := .set #[] 0 (.fresh 0 0 (!w.params.followText "set-order")) }
abbrev TxS (P : Program) (w : World) (h : Heap) (a : Addr) (xs : List Str) (c : Nat) : Prop := h.SetOf (PySem.strKind P w) a (fun k => decide (k ∈ xs)) c
theorem TxS.at {P : Program} {w : World} {h h' : Heap} {a : Addr} {xs : List Str} {c : Nat} (x : TxS P w h a xs c) (k : ∀ o, h.get? a = some o → h'.get? a = some o) : TxS P w h' a xs c := by
  obtain ⟨o, es, ep, t, ho, rest⟩ := x
  exact ⟨o, es, ep, t, k o ho, rest⟩
theorem setT_new {P : Program} {w : World} {h : Heap} {a : Addr} {ns : List Str} (ho : h.get? a = some (born w)) : TxS P w h a (ns.take 0) 0 :=
  ⟨_, #[], 0, _, ho, ⟨rfl, rfl, rfl⟩, rfl, (fun e he => by simp at he), (fun k => by simp), (by decide), (by rfl), rfl⟩
section
variable {P : Program} {w : World} {A : Around} {E : Value → Shared → Prop} {s : Shared}
theorem val_of {its : Array Value} {ns : List Str} (hi : StrsAre its.toList ns) (z : its.size = ns.length) : ∀ (i : Nat) (v : Value), its[i]? = some v → ∃ k t, ns[i]? = some k ∧ v = .str k t := fun i v e => by
  have lt : i < ns.length := z ▸ (Array.getElem?_eq_some_iff.mp e).1
  obtain ⟨t, q⟩ := hi.at (List.getElem?_eq_getElem lt)
  rw [Array.getElem?_toList, e] at q
  exact ⟨_, t, List.getElem?_eq_getElem lt, Option.some.inj q⟩
theorem set_update_txts {I : Addr} {fp wr : List Addr} {G : Array GenState → Array GenState → Prop} {n : Nat} {Pv : Nat → Value → Prop} {St : Nat → Shared → Prop} {R : Result → Shared → Prop}
    (W : WalksS P w A.in1 I fp wr G n Pv St) (S : Addr) (hSf : S ∉ fp) (ns : List Str) (hn : n = ns.length) (hb : ns.length + 1 < scanBound) (hval : ∀ i v, Pv i v → ∃ k t, ns[i]? = some k ∧ v = .str k t) :
    ∀ (k i : Nat) (s : Shared), n - i = k → i ≤ n → St i s → (∃ c, c ≤ i ∧ (c = i ↔ (ns.take i).Nodup) ∧ TxS P w s.heap S (ns.take i) c) →
      (∀ s' c, Moved (S :: wr) G s s' → c ≤ n → (c = n ↔ ns.Nodup) → TxS P w s'.heap S ns c → R (.ok (.ret .none)) s') →
      codeAny (model P w) A (.builtin "set.update.loop" ⟨[.ref S, .ref I], []⟩) R s := by
  have far : S ∉ wr := fun h => hSf (W.sub _ h)
  have wide : ∀ b ∈ wr, b ∈ S :: wr := fun b hb => List.mem_cons_of_mem _ hb
  intro k
  induction k with
  | zero =>
    intro i s hk' hi hst ⟨c, hc, hd, hS⟩ hR
    obtain rfl : i = n := by omega
    have e : ns.take i = ns := List.take_of_length_le (by omega)
    rw [e] at hS hd
    refine codeAny_builtin F.entry_set_update_loop ?_
    rw [Around.under_plainId F.plain_set_update_loop _]
    show wpAny _ A.in1 (pyNext (.ref I) >>= _) _ _ s
    refine wpAny_bind (W.done s _ _ hst fun s' hm => ?_)
    show wpAny _ A.in1 (ret Value.none) _ _ s'
    exact wpAny_pure (hR s' c (hm.mono wide) hc hd (hS.at fun o e => hm.heap S o far e))
  | succ k ih =>
    intro i s hk' hi hst ⟨c, hc, hd, hS⟩ hR
    have hlt : i < n := by omega
    refine codeAny_builtin F.entry_set_update_loop ?_
    rw [Around.under_plainId F.plain_set_update_loop _]
    show wpAny _ A.in1 (pyNext (.ref I) >>= _) _ _ s
    refine wpAny_bind (W.item i s _ _ hlt hst fun v s' hP hst' hm => ?_)
    obtain ⟨z, t, hz, rfl⟩ := hval i v hP
    have hS' : TxS P w s'.heap S (ns.take i) c := hS.at fun o e => hm.heap S o far e
    show wpAny _ A.in1 (holding [Value.str z t] (setAdd S (.str z t)) >>= _) _ _ s'
    refine wpAny_bind (wpAny_holding ?_)
    unfold setAdd
    refine wpAny_holding ?_
    refine wpAny_bind ((PySem.strKind P w).pyHash (k := z) (strKind_is _ _ _ _) ?_)
    refine wpAny_setAddHashed_of (knd := PySem.strKind P w) (s := { s' with toks := s'.toks + 1 }) (strKind_is _ _ _ _) rfl hS' (by omega) fun h' hsb hS2 => ?_
    have tk : ns.take (i + 1) = ns.take i ++ [z] := by rw [List.take_add_one, hz]; rfl
    have hS3 : TxS P w h' S (ns.take (i + 1)) (if decide (z ∈ ns.take i) = true then c else c + 1) := SetOf_congr hS2 (fun j => by
      rw [tk]
      simp [List.mem_append, Bool.decide_or]) rfl
    have hc3 : (if decide (z ∈ ns.take i) = true then c else c + 1) ≤ i + 1 := by
      split <;> omega
    have hd3 : (if decide (z ∈ ns.take i) = true then c else c + 1) = i + 1 ↔ (ns.take (i + 1)).Nodup := by
      rw [tk, List.nodup_append]
      by_cases m : z ∈ ns.take i
      · rw [if_pos (decide_eq_true m)]
        exact ⟨fun q => by omega, fun q => absurd rfl (q.2.2 z m z (List.mem_singleton.mpr rfl))⟩
      · rw [if_neg (by rw [decide_eq_true_eq]; exact m)]
        constructor
        · intro q
          exact ⟨hd.mp (by omega), List.nodup_cons.mpr ⟨fun h => (by cases h), List.nodup_nil⟩, fun a ha b hb e => m (by rw [List.mem_singleton.mp hb] at e; exact e ▸ ha)⟩
        · intro q
          have := hd.mpr q.1
          omega
    refine wpAny_pure ⟨plainId_quiet F.plain_set_update_loop _, ih (i + 1) _ (by omega) hlt (W.frame _ s' _ _ hst' (Nat.le_succ _) fun b hb o e => ?_) ⟨_, hc3, hd3, hS3⟩ fun s'' c2 hm'' hc'' hd'' hS'' => ?_⟩
    · rw [hsb.2 b (fun h : b = S => hSf (by rw [← h]; exact hb))]; exact e
    · refine hR s'' c2 (Moved.trans W.gtrans ((hm.mono wide).then_heap (Nat.le_succ _) fun b o hb e => ?_) hm'') hc'' hd'' hS''
      rw [hsb.2 b (fun h : b = S => hb (by rw [h]; exact List.mem_cons_self))]; exact e
/-- what stands once the set is filled -/
def Filled (P : Program) (w : World) (s : Shared) (ns : List Str) (s2 : Shared) : Prop := ∃ h' tk c, s2 = { s with heap := h', toks := tk } ∧ TxS P w h' s.heap.objs.size ns c ∧ c ≤ ns.length ∧ (c = ns.length ↔ ns.Nodup) ∧ ∀ b o, s.heap.get? b = some o → h'.get? b = some o
set_option maxHeartbeats 8000000 in
theorem call_set_listT {l : Addr} {its : Array Value} (ns : List Str) {Q : Value → Shared → Prop} (hh : A.handled = none) (hl : s.heap.IsList l its) (hi : StrsAre its.toList ns) (few : ns.length + 1 < scanBound) (h : ∀ s2, Filled P w s ns s2 → Q (.ref s.heap.objs.size) s2) :
    wpAny (model P w) A (call (.type "set") [.ref l]) Q E s := by
  have z : its.size = ns.length := by
    have q := StrsAre.length hi
    rwa [Array.length_toList] at q
  obtain ⟨c, tl, hmro⟩ := F.called_set.mro
  have hmade := F.called_set.made
  have hsub := F.called_set.sub
  refine wpAny_call (codeAny_of_tree ?_)
  show wpAny _ _ (callAny (.type "set") _) _ _ _
  refine wpAny_pure ⟨Code.quiet_builtin _ (by decide +kernel), codeAny_builtin F.entry_type_call ?_⟩
  rw [Around.under_plain (weight_type_call_type "set" [.ref l] []) rfl]
  have h1 := F.called_set.notType
  have h2 := F.called_set.canCreate
  have hct := F.typeCall_set_1 (.ref l)
  repeat (any_goals (first | assumption | wp_step))
  refine codeAny_mono (code_set_led1 (.ref l) (E := E) (Q₁ := fun obj s₁ => obj = .ref s.heap.objs.size ∧ s₁ = { s with heap := s.heap.push (born w) }) ⟨rfl, rfl⟩) fun r s₁ hr => ?_
  cases r with
  | error e => exact hr
  | ok fl =>
    cases fl with
    | ret obj =>
      obtain ⟨rfl, rfl⟩ := hr
      have new : (s.heap.push (born w)).get? s.heap.objs.size = some (born w) := Heap.get?_push_size _ rfl
      have hT : Shared.TypeIs { s with heap := s.heap.push (born w) } (.ref s.heap.objs.size) "set" := ⟨_, new, rfl⟩
      have hli := F.called_set.init.lookup
      have hbi := F.called_set.init.bind (.ref s.heap.objs.size)
      repeat (any_goals (first | assumption | wp_step))
      refine codeAny_mono (codeAny_call_builtin (R := wants (fun r s₂ => r = .none ∧ Filled P w s ns s₂) E) F.called_set.init.plain F.entry_set_init (check_set_init_1 hT ?_)) fun r₂ s₂ hr₂ => ?_
      · obtain ⟨⟨ocls, odict, odata, oslots⟩, hol, hcl, nl, hdl⟩ := hl
        simp only at hcl hdl
        subst hcl; subst hdl
        have lt : l < s.heap.objs.size := Heap.lt_size hol
        have hol' : (s.heap.push (born w)).get? l = some { cls := .type "list", dict := odict, data := .seq its nl, slots := oslots } := Heap.get?_push_of_some _ hol
        have hsls := F.sub_list_set
        have hslf := F.sub_list_frozenset
        have hne : (Value.type "list" == Value.type "dict") = false := by decide
        have hl1 : (s.heap.push (born w)).IsList l its := ⟨_, hol', rfl, nl, rfl⟩
        unfold Builtin.«set.__init__» noKeywords Builtin.Frozenset.updateFrom
        generalize hPI : pyIter = PI
        wp_walk
        subst hPI
        refine wpAny_pyIter_list hl1 ?_
        refine wpAny_bind (wpAny_runValue ?_)
        have hh3 : A.in1.in1.in1.handled = none := by simp [hh]
        have hz : (s.heap.push (born w)).objs.size = s.heap.objs.size + 1 := Heap.size_push ..
        have hneI : l ≠ (s.heap.push (born w)).objs.size := by rw [hz]; exact Nat.ne_of_lt (Nat.lt_succ_of_lt lt)
        have out : s.heap.objs.size ∉ [(s.heap.push (born w)).objs.size, l] := by
          rw [hz]
          simp only [List.mem_cons, List.mem_singleton, List.not_mem_nil, or_false, not_or]
          exact ⟨Nat.ne_of_lt (Nat.lt_succ_self _), Nat.ne_of_gt lt⟩
        refine set_update_txts ((Walks.list hh3 _ l hneI its).toS) s.heap.objs.size out ns z few (val_of hi z) (its.size - 0) 0 _ (by omega) (Nat.zero_le _) ⟨⟨_, Heap.get?_push_size _ rfl, rfl, rfl⟩, (hl1.push _)⟩
          ⟨0, Nat.le_refl 0, ⟨fun _ => List.nodup_nil, fun _ => rfl⟩, setT_new (Heap.get?_push_of_some _ new)⟩ fun s' c' hm hc' hd2 hS' => ?_
        obtain ⟨h', g2, d', tk', os'⟩ := s'
        obtain rfl : g2 = s.gens := hm.gens
        obtain rfl : d' = s.drawn := hm.drawn
        obtain rfl : os' = s.os := hm.os
        show wpAny _ _ _ _ _ _
        refine wpAny_pure ?_
        show wpAny _ _ (ret Value.none) _ _ _
        refine wpAny_pure ⟨rfl, h', tk', c', rfl, hS', z ▸ hc', z ▸ hd2, fun b o e => ?_⟩
        have hb0 : b < s.heap.objs.size := Heap.lt_size e
        refine hm.heap b o ?_ (Heap.get?_push_of_some _ (Heap.get?_push_of_some _ e))
        rw [hz]
        simp only [List.mem_cons, List.mem_singleton, List.not_mem_nil, or_false, not_or]
        exact ⟨Nat.ne_of_lt hb0, Nat.ne_of_lt (Nat.lt_succ_of_lt hb0)⟩
      · cases r₂ with
        | error e => exact hr₂
        | ok fl₂ =>
          cases fl₂ with
          | ret r =>
            obtain ⟨rfl, hF⟩ := hr₂
            repeat (any_goals (first | assumption | wp_step))
            exact h _ hF
          | _ => exact hr₂.elim
    | _ => exact hr.elim
end
section
variable {X : Cx}
def TxO (P : Program) (w : World) (a : Addr) (xs : List Str) (c : Nat) : HO := .ext fun h => TxS P w h a xs c
def rSetT (K : PySem.W.Frag) (P : Program) (w : World) : List V → Hp → VK → Prop := fun vs H Q => ∃ (t : Addr) (ns : List Str), vs = [.ref t] ∧ SqL K H t (ns.map V.str) ∧ ns.length < 60 ∧
  ∀ a c, H a = none → c ≤ ns.length → (c = ns.length ↔ ns.Nodup) → Q (.ref a) (upd H a (TxO P w a ns c))
theorem txO_new {w : World} {P : Program} {H : Hp} {h : Heap} {a : Addr} {xs : List Str} {c : Nat} (R : TxS P w h a xs c) : ObjOk P w H h a (TxO P w a xs c) := by
  have ⟨o, _, _, _, ho, _⟩ := R
  exact ⟨R, ⟨o, ho⟩, fun h1 h2 p k => TxS.at p k⟩
theorem cr_setT (calm : X.calm = true) : CallR X (.type "set") (rSetT X.K X.prog X.w) := by
  intro pins s σ H vs us Q I r ⟨t, ns, e, ht, few, q⟩
  subst e
  rw [Vals.ref1 r]
  obtain ⟨its, rv, pl, hz⟩ := I.list ht
  refine call_set_listT ns (I.ok.hd calm) pl.isList (by simpa using strsAre_of rv) (by unfold scanBound; omega) fun s2 ⟨h1, tk, c, e, R, le, nd, old⟩ => ?_
  subst e
  exact ⟨.ref s.heap.objs.size, _, I.laid (t' := tk) old (Nat.le_refl _) (txO_new R), rfl, q _ c (I.hok.fresh (Nat.le_refl _)) le nd⟩
def rLenT (P : Program) (w : World) : List V → Hp → VK → Prop := fun vs H Q => ∃ (a : Addr) (ns : List Str) (c : Nat), vs = [.ref a] ∧ H a = some (TxO P w a ns c) ∧ c ≤ 1000 ∧ Q (.int c) H
theorem cr_lenT : CallR X (.builtin "len") (rLenT X.prog X.w) := by
  intro pins s σ H vs us Q I r ⟨a, ns, c, e, ha, few, q⟩
  subst e
  rw [Vals.ref1 r]
  obtain ⟨o, es, ep, t, ho, hex, hd, _, _, _, hf, hn⟩ := (I.hok a _ ha).1
  exact call_len_set ho hex hd hf (by rw [hn] <;> omega) ⟨.int c, H, I.tok _, ⟨_, by rw [hn]⟩, q⟩
end
end SX

set_option maxHeartbeats 4000000
namespace PP
open PySem PySem.Spec PyProof.Rows L2 G3 G4 M0 PA EE QA LC
section
variable {J : It} {G : Hp → Prop} {xs : List V} {g : TG} {te : TE} {vs : List Nat} {σ : L2.St} {H1 : Hp} {D : Addr} {Qd : Hp → Prop}
/-- each item turned, told by its place -/
theorem lc_at (w : Walk J xs.length G (YAt xs)) (hG : ∀ H, Same H1 H → G H) (len : xs.length ≤ 100000) (nD : H1 D = none) (ys : List V) (hl : ys.length = xs.length)
    (turn : ∀ (i : Nat) (x y : V) (H : Hp) (R : V → Hp → Prop), xs[i]? = some x → ys[i]? = some y → Same H1 H → (∀ H', Same H H' → R y H') → g x (wipe σ vs) H fun σ2 H2 => wipe σ2 vs = wipe σ vs ∧ te σ2 H2 R)
    (fin : ∀ H', Same H1 H' → H' D = some (.lst ys) → Qd H') :
    ∃ W : Nat → Nat → Hp → Prop, (∃ m, W 0 m (upd H1 D (.lst []))) ∧ ∀ i m H, W i m H →
      (J.stop i H ∧ Qd H) ∨ (J.go i H ∧ ∃ Nx : Hp → Prop, (∀ H', Nx H' → ∃ m', m' < m ∧ W (i + 1) m' H') ∧ ∀ x H', J.yld i H x H' → g x (wipe σ vs) H' fun σ2 H2 => wipe σ2 vs = wipe σ vs ∧ tYes σ2 H2 fun b H3 =>
        if b = true then te σ2 H3 fun y H4 => ∃ acc, H4 D = some (.lst acc) ∧ acc.length < sizeLine ∧ Nx (upd H4 D (.lst (acc ++ [y]))) else Nx H3) := by
  refine lc_it w (fun i H => Same H1 H ∧ H D = some (.lst (ys.take i))) ⟨same_new nD, upd_same⟩ (fun i H _ h => hG H h.1) (fun i x H H' hi h y => ?_) (fun H h => fin H h.1 ?_)
  · obtain ⟨rfl, ex⟩ := y
    obtain ⟨s1, hD⟩ := h
    have hy : ys[i]? = some ys[i] := List.getElem?_eq_getElem (by omega)
    have t := turn i x ys[i] H' (fun y H4 => ∃ acc, H4 D = some (.lst acc) ∧ acc.length < sizeLine ∧ (Same H1 (upd H4 D (.lst (acc ++ [y]))) ∧ (upd H4 D (.lst (acc ++ [y]))) D = some (.lst (ys.take (i + 1))))) ex hy s1 (fun H5 s => ?_)
    · dsimp only [tYes]
      simp only [if_true]
      exact t
    · refine ⟨_, s _ _ hD, ?_, same_put (s1.trans s) nD, ?_⟩
      · rw [List.length_take]
        exact LC.small_line (by omega)
      · rw [upd_same, List.take_add_one, hy]
        rfl
  · have e : ys.take xs.length = ys := List.take_of_length_le (by omega)
    rw [e] at h
    exact h.2
end
/-! ### boxes as the law sees them -/
def boxD0 (gr : Int) : Dt → Option Box
  | .tuple [.str z, .int n] => if nameB z && (decide (1 ≤ n) && decide (n ≤ gr)) then some (z, n) else none
  | _ => none
def allB (gr : Int) : List Dt → Option (List Box)
  | [] => some []
  | d :: r => match boxD0 gr d with
    | some b => (allB gr r).map (b :: ·)
    | none => none
theorem box_split (gr : Int) (seen : List Str) (d : Dt) : boxP gr seen d = (boxD0 gr d).bind fun b => if b.1 ∈ seen then none else some b := by
  unfold boxP
  split
  · rename_i z n
    show _ = (if _ then _ else _ : Option Box).bind _
    by_cases hc : (nameB z && (decide (1 ≤ n) && decide (n ≤ gr))) = true
    · rw [if_pos hc]
      simp only [Bool.and_eq_true] at hc
      obtain ⟨a, b, c⟩ := hc
      rw [a, b, c]
      show _ = if z ∈ seen then none else some (z, n)
      by_cases h : z ∈ seen
      · rw [if_pos h, decide_eq_true h]
        rfl
      · rw [if_neg h, decide_eq_false h]
        rfl
    · rw [if_neg hc]
      rw [if_neg (fun q => hc ?_)]
      · rfl
      · simp only [Bool.and_eq_true] at q ⊢
        exact ⟨q.1, q.2.2⟩
  · rename_i h
    unfold boxD0
    split
    · exact absurd rfl (h _ _)
    · rfl
theorem allB_yes {gr : Int} {d : Dt} {r : List Dt} {b : Box} (h : boxD0 gr d = some b) : allB gr (d :: r) = (allB gr r).map (b :: ·) := by
  show (match boxD0 gr d with | some b => _ | none => _) = _
  rw [h]
theorem allB_no {gr : Int} {d : Dt} {r : List Dt} (h : boxD0 gr d = none) : allB gr (d :: r) = none := by
  show (match boxD0 gr d with | some b => _ | none => _) = _
  rw [h]
theorem scan_iff {gr : Int} : ∀ (ds : List Dt) (seen : List Str) (bs : List Box), scanB gr seen ds = some bs ↔ (allB gr ds = some bs ∧ (bs.map (·.1)).Nodup ∧ ∀ b ∈ bs, ¬ b.1 ∈ seen)
  | [], seen, bs => by
    show some [] = some bs ↔ some [] = some bs ∧ _
    constructor
    · intro e
      cases e
      exact ⟨rfl, List.nodup_nil, fun b hb => by cases hb⟩
    · exact fun e => e.1
  | d :: r, seen, bs => by
    have sp := box_split gr seen d
    cases hd : boxD0 gr d with
    | none =>
      rw [hd] at sp
      rw [scan_none sp, allB_no hd]
      exact ⟨fun e => (by cases e), fun e => (by cases e.1)⟩
    | some b =>
      rw [hd] at sp
      rw [allB_yes hd]
      by_cases m : b.1 ∈ seen
      · have sp2 : boxP gr seen d = none := by rw [sp]; show (if b.1 ∈ seen then none else some b) = none; rw [if_pos m]
        rw [scan_none sp2]
        constructor
        · intro e; cases e
        · rintro ⟨e, _, n⟩
          obtain ⟨l, _, rfl⟩ := Option.map_eq_some_iff.mp e
          exact absurd m (n b List.mem_cons_self)
      · have sp2 : boxP gr seen d = some b := by rw [sp]; show (if b.1 ∈ seen then none else some b) = some b; rw [if_neg m]
        rw [scan_some sp2]
        constructor
        · intro e
          obtain ⟨l, hl, rfl⟩ := Option.map_eq_some_iff.mp e
          obtain ⟨a1, a2, a3⟩ := (scan_iff r _ l).mp hl
          rw [a1]
          refine ⟨rfl, List.nodup_cons.mpr ⟨fun z => ?_, a2⟩, fun x hx => ?_⟩
          · obtain ⟨y, hy, ey⟩ := List.mem_map.mp z
            exact a3 y hy (by rw [ey]; simp)
          · rcases List.mem_cons.mp hx with rfl | hx
            · exact m
            · exact fun z => a3 x hx (List.mem_append_left _ z)
        · rintro ⟨e, n1, n2⟩
          obtain ⟨l, hl, rfl⟩ := Option.map_eq_some_iff.mp e
          obtain ⟨p1, p2⟩ := List.nodup_cons.mp n1
          refine Option.map_eq_some_iff.mpr ⟨l, (scan_iff r _ l).mpr ⟨hl, p2, fun x hx => ?_⟩, rfl⟩
          intro z
          rcases List.mem_append.mp z with z | z
          · exact n2 x (List.mem_cons_of_mem _ hx) z
          · exact p1 (List.mem_map.mpr ⟨x, hx, List.mem_singleton.mp z⟩)
theorem allB_len {gr : Int} : ∀ (ds : List Dt) (bs : List Box), allB gr ds = some bs → bs.length = ds.length ∧ ∀ (i : Nat) (d : Dt), ds[i]? = some d → ∃ b, bs[i]? = some b ∧ d = .tuple [.str b.1, .int b.2] ∧ nameB b.1 = true
  | [], bs, e => by
    have : some [] = some bs := e
    cases this
    exact ⟨rfl, fun i d h => by simp at h⟩
  | d :: r, bs, e => by
    cases hd : boxD0 gr d with
    | none => rw [allB_no hd] at e; cases e
    | some b =>
      rw [allB_yes hd] at e
      obtain ⟨l, hl, rfl⟩ := Option.map_eq_some_iff.mp e
      obtain ⟨a1, a2⟩ := allB_len r l hl
      refine ⟨by rw [List.length_cons, List.length_cons, a1], fun i x h => ?_⟩
      cases i with
      | zero =>
        cases h
        refine ⟨b, rfl, ?_⟩
        unfold boxD0 at hd
        split at hd
        · split at hd
          · rename_i z n hc
            cases hd
            simp only [Bool.and_eq_true] at hc
            exact ⟨rfl, hc.1⟩
          · cases hd
        · cases hd
      | succ i => exact a2 i x h
theorem allB_bad {gr : Int} : ∀ (ds : List Dt) (d : Dt), d ∈ ds → boxD0 gr d = none → allB gr ds = none
  | [], d, h, _ => by cases h
  | x :: r, d, h, e => by
    rcases List.mem_cons.mp h with rfl | h
    · exact allB_no e
    · cases hx : boxD0 gr x with
      | none => exact allB_no hx
      | some b => rw [allB_yes hx, allB_bad r d h e]; rfl
theorem allB_good {gr : Int} : ∀ (ds : List Dt), (∀ d ∈ ds, (boxD0 gr d).isSome = true) → ∃ bs, allB gr ds = some bs
  | [], _ => ⟨[], rfl⟩
  | x :: r, h => by
    obtain ⟨l, hl⟩ := allB_good r fun d hd => h d (List.mem_cons_of_mem _ hd)
    obtain ⟨b, hb⟩ := Option.isSome_iff_exists.mp (h x List.mem_cons_self)
    exact ⟨b :: l, by rw [allB_yes hb, hl]; rfl⟩
end PP

set_option maxHeartbeats 4000000
namespace PP
open PySem PySem.Spec PyProof.Rows L2 G3 G4 M0 PA EE QA LC SX
abbrev nLBoxes : List Str := ["_law_item", "_law_most", "_law_size", "_law_one", "_law_name", "_law_many"]
theorem scLBoxes : FnScope nLBoxes ["_law_item", "_law_most", "_law_size"] (defScope s_law_are_boxes) := ⟨rfl, rfl, rfl, by decide +kernel, rfl, by decide +kernel, by decide +kernel⟩
section
variable {P : Program} {w : World} {K : PySem.W.Frag} {mg : Str → Option Value} {base : Heap}
def spLBoxes (K : PySem.W.Frag) : Sp := fun vs H Q _ => ∃ (v : V) (d : Dt) (most : Nat) (gr : Int), vs = [v, .int most, .int gr] ∧ Dp K H v d ∧ SL d ∧ TK d ∧ most ≤ 50 ∧ ∀ H', Same H H' → Q (.bl (boxesP most gr [] d).isSome) H'
set_option maxHeartbeats 16000000 in
theorem ok_lboxes {f : Addr} {fd : FuncData} {k : Nat} (F : Fun K "_law_are_boxes" "_law_are_boxes" s_law_are_boxes f fd) (DN : Def P w K mg base CX0 (k + 1) "_law_is_name" ["_law_item"] (spLName K)) (DU : Def P w K mg base CX0 (k + 1) "_law_is_number" ["_law_item", "_law_low", "_law_high"] (spLNum K))
    (mi : mg "isinstance" = none) (mt : mg "tuple" = none) (ml : mg "len" = none) (ms : mg "set" = none) : FnOk P w K mg base CX0 (k + 1 + 1) f fd ["_law_item", "_law_most", "_law_size"] (spLBoxes K) := by
  refine F.ok scLBoxes (fun vs H Q E h => ?_) (fun cdv A outer s H vs Q E hr h => ?_)
  · obtain ⟨v, d, most, gr, rfl, _⟩ := h
    rfl
  obtain ⟨v, d, most, gr, rfl, hv, sl, tk, m50, q⟩ := h
  have nd := scLBoxes.nd
  refine ⟨_, pss_cons (ps_if (PW.pt (pw_or (pt_not (pt_val (pe_callB call_isi (by rfl) mi PyProof.Rows.boot_isinstance (pa_cons (pv 0) (pa_cons (pe_bltn (by rfl) mt (u := .type "tuple") (by decide +kernel) (show RelV (.ty "tuple") (.type "tuple") from rfl)) pa_nil)))))
          (pw_or1 (pt_cmpR op_gt (pe_callB call_len_seq (by rfl) ml PySem.boot_len (pa_cons (pv 0) pa_nil)) (pv 1) (nomark _))))) (pss_one (ps_ret pe_bl)) pss_nil)
    (pss_cons (ps_for PassesOwn.never rfl (pi_tup (pv 0)) (pg_name (i := 3) nd rfl (.inl rfl))
      (pss_cons (ps_if (PW.pt (pw_or (pt_not (pt_val (pe_callB call_isi (by rfl) mi PyProof.Rows.boot_isinstance (pa_cons (pv 3) (pa_cons (pe_bltn (by rfl) mt (u := .type "tuple") (by decide +kernel) (show RelV (.ty "tuple") (.type "tuple") from rfl)) pa_nil)))))
          (pw_or (pt_cmpR op_ne (pe_callB call_len_seq (by rfl) ml PySem.boot_len (pa_cons (pv 3) pa_nil)) pe_int (nomark _))
          (pw_or1 (pt_not (pt_val (pe_call DN.ok hr (by rfl) DN.g DN.kp DN.b .nil pass0 (pa_cons (pe_ix ix_tup (pv 3) pe_int (fun _ _ => rfl)) pa_nil)))))))) (pss_one (ps_ret pe_bl)) pss_nil)
      (pss_one (ps_if (pt_not (pt_val (pe_call DU.ok hr (by rfl) DU.g DU.kp DU.b .nil pass0 (pa_cons (pe_ix ix_tup (pv 3) pe_int (fun _ _ => rfl)) (pa_cons pe_int (pa_cons (pv 2) pa_nil)))))) (pss_one (ps_ret pe_bl)) pss_nil))))
    (pss_one (ps_ret (pe_cmpR op_eq (pe_callB cr_lenT (by rfl) ml PySem.boot_len (pa_cons (pe_callTy (T := "set") (r := rSetT K P w) (cr_setT rfl) (by rfl) ms (by decide +kernel)
        (pa_cons (pe_lc (own := [("_law_name", 4), ("_law_many", 5)]) (g := gTup K 2 (gCons (gName 4) (gCons (gName 5) gNil))) (by rfl) nd (pi_tup (pv 0)) (blkOk_by (N := nLBoxes) (sc := defScope s_law_are_boxes) (by decide +kernel)) (fun _ _ _ _ _ => pg_tup rfl (pgs_cons (pg_name (i := 4) nd rfl (.inl rfl)) (pgs_cons (pg_name (i := 5) nd rfl (.inl rfl)) pgs_nil))) (fun _ _ _ _ _ => pts_nil) (fun _ _ _ _ _ => pv 4)) pa_nil)) pa_nil))
      (pe_callB call_len_seq (by rfl) ml PySem.boot_len (pa_cons (pv 0) pa_nil)) (nomark _))))), ?_⟩
  have q0 := q H (Same.refl _)
  refine ⟨_, rfl, _, _, _, _, _, rfl, .ty "tuple", dp_ty hv, kit_tup K hv, _, rfl, ?_⟩
  by_cases dt : isTup d = true
  rotate_left
  · rw [show isTup d = false by simpa using dt]
    rw [show boxesP most gr [] d = none by cases d with | tuple es => exact absurd rfl dt | _ => rfl] at q0
    exact iteT (iteT q0)
  obtain ⟨ds, rfl⟩ := isT_tup d dt
  obtain ⟨a, xs, rfl, ha, hall, hxl⟩ := small_of hv
  refine iteF ⟨_, rfl, a, _, rfl, .inr ha, _, rfl, _, _, rfl, rfl, _, rfl, ?_⟩
  by_cases lm : ds.length ≤ most
  rotate_left
  · rw [decide_eq_true (show (most : Int) < (xs.length : Int) by omega)]
    rw [show boxesP most gr [] (.tuple ds) = none by show (if _ then _ else _) = _; rw [if_neg lm]] at q0
    exact iteT q0
  rw [decide_eq_false (show ¬ (most : Int) < (xs.length : Int) by omega)]
  have eb : boxesP most gr [] (.tuple ds) = scanB gr [] ds := by show (if _ then _ else _) = _; rw [if_pos lm]
  rw [eb] at q q0
  have nb : allB gr ds = none → (scanB gr [] ds).isSome = false := fun z => by
    cases e : scanB gr [] ds with
    | none => rfl
    | some bs => rw [((scan_iff ds [] bs).mp e).1] at z; cases z
  refine iteF ⟨_, rfl, a, rfl, ⟨_, ha⟩, for_tup (xs := xs) (fun i σ H3 => ∃ y3 y4 y5, σ = [some (.ref a), some (.int most), some (.int gr), y3, y4, y5] ∧ Same H H3 ∧ ∀ d ∈ ds.take i, (boxD0 gr d).isSome = true)
    ⟨none, none, none, rfl, Same.refl _, fun d hd => by simp at hd⟩ (fun i σ H3 _ hP => ?_) (fun i x σ H3 hx hP => ?_) (fun σ H3 hP => ?_)⟩
  · obtain ⟨_, _, _, _, sm, _⟩ := hP
    exact same_tup sm ha
  · obtain ⟨y3, y4, y5, rfl, sm, hpre⟩ := hP
    obtain ⟨e1, he, hx0⟩ := dpAll_get hall hx
    have hxd := dp_same sm _ _ hx0
    have mem := List.mem_of_getElem? he
    have bad : boxD0 gr e1 = none → ∀ G, Same H3 G → Q (.bl false) G := fun z G sg => by
      have t := q G (sm.trans sg)
      rw [nb (allB_bad ds e1 mem z)] at t
      exact t
    refine ⟨_, rfl, _, _, _, _, _, rfl, .ty "tuple", dp_ty hxd, kit_tup K hxd, _, rfl, ?_⟩
    by_cases et : isTup e1 = true
    rotate_left
    · rw [show isTup e1 = false by simpa using et]
      exact iteT (iteT (bad (by cases e1 with | tuple es => exact absurd rfl et | _ => rfl) H3 (Same.refl _)))
    obtain ⟨es, rfl⟩ := isT_tup e1 et
    obtain ⟨c, ys, rfl, hc, hys, hyl⟩ := small_of hxd
    refine iteF ⟨_, rfl, c, _, rfl, .inr hc, rfl, _, rfl, ?_⟩
    by_cases l2 : es.length = 2
    rotate_left
    · rw [ne_int (show (ys.length : Int) ≠ 2 by omega)]
      refine iteT (iteT (bad ?_ H3 (Same.refl _)))
      unfold boxD0
      split
      · rename_i heq
        cases heq
        exact absurd rfl l2
      · rfl
    rw [eq_int (show (ys.length : Int) = 2 by omega)]
    obtain ⟨d1, d2, rfl⟩ := len2 l2
    cases hys with
    | @cons x1 _ _ _ h1 hys =>
    cases hys with
    | @cons x2 _ _ _ h2 hys =>
    cases hys
    have sle := (sl.of_tup _ mem).of_tup
    have tke := (tk.of_tup _ mem).of_tup
    refine iteF ⟨_, rfl, c, _, 0, _, rfl, rfl, hc, atI_nat (j := 0) rfl, x1, d1, rfl, h1, sle _ List.mem_cons_self, tke _ List.mem_cons_self, fun H4 s4 => ⟨_, rfl, ?_⟩⟩
    cases n1 : nameD d1 with
    | false =>
      refine iteT (bad ?_ H4 s4)
      cases d1 with
      | str z =>
        cases d2 with
        | int n =>
          show (if _ then _ else _) = _
          rw [show nameB z = false from n1]
          rfl
        | _ => rfl
      | _ => rfl
    | true =>
    obtain ⟨z, rfl⟩ : ∃ z, d1 = .str z := by
      cases d1 with
      | str z => exact ⟨z, rfl⟩
      | _ => cases n1
    refine iteF ⟨_, rfl, c, _, 1, _, rfl, rfl, same_tup s4 hc, atI_nat (j := 1) rfl, _, rfl, x2, d2, 1, gr, rfl, dp_same s4 _ _ h2, _, rfl, ?_⟩
    cases n2 : numD 1 gr d2 with
    | false =>
      refine iteT (bad ?_ H4 s4)
      cases d2 with
      | int n =>
        show (if _ then _ else _) = _
        rw [show (decide (1 ≤ n) && decide (n ≤ gr)) = false from n2, Bool.and_false]
        rfl
      | _ => rfl
    | true =>
    obtain ⟨n, rfl⟩ : ∃ n, d2 = .int n := by
      cases d2 with
      | int n => exact ⟨n, rfl⟩
      | _ => cases n2
    refine iteF ⟨_, _, _, rfl, sm.trans s4, fun d hd => ?_⟩
    rw [List.take_add_one, he] at hd
    rcases List.mem_append.mp hd with hd | hd
    · exact hpre d hd
    · rw [show d = .tuple [.str z, .int n] by simpa using hd]
      show (if _ then _ else _ : Option Box).isSome = true
      rw [show nameB z = true from n1, show (decide (1 ≤ n) && decide (n ≤ gr)) = true from n2]
      rfl
  · obtain ⟨y3, y4, y5, rfl, sm, hpre⟩ := hP
    rw [hxl, List.take_length] at hpre
    obtain ⟨bs, hbs⟩ := allB_good ds hpre
    obtain ⟨bl, bat⟩ := allB_len ds bs hbs
    have ha3 := same_tup sm ha
    refine ⟨_, rfl, a, rfl, ⟨_, ha3⟩, fun D nD => ?_⟩
    refine lc_at (walk_tup (a := a) (xs := xs) (K := K)) (fun H4 s4 => same_tup s4 ha3) (by omega) nD ((bs.map (·.1)).map V.str) (by rw [List.length_map, List.length_map]; omega) (fun i x y H4 R hx hy s4 fin => ?_) (fun H4 s4 hD => ?_)
    · obtain ⟨e1, he, hx0⟩ := dpAll_get hall hx
      obtain ⟨b, hb, rfl, _⟩ := bat i e1 he
      rw [List.map_map, List.getElem?_map, hb] at hy
      cases hy
      obtain ⟨c, x1, x2, rfl, hc, h1, h2⟩ := dp2 (dp_same (sm.trans s4) _ _ hx0)
      cases dp_str h1
      cases dp_int h2
      exact ⟨c, _, rfl, hc, rfl, _, _, rfl, _, _, rfl, rfl, rfl, _, rfl, fin _ (Same.refl _)⟩
    · refine ⟨D, bs.map (·.1), rfl, SqL.of hD, by rw [List.length_map]; omega, fun e c ne hc hcn => ?_⟩
      have s5 : Same H4 (upd H4 e (TxO P w e (bs.map (·.1)) c)) := same_new ne
      rw [List.length_map] at hc hcn
      refine ⟨e, _, c, rfl, upd_same, by omega, _, rfl, a, _, rfl, .inr (same_tup (s4.trans s5) ha3), rfl, ?_⟩
      have fin := q _ ((sm.trans s4).trans s5)
      have ee : (scanB gr [] ds).isSome = decide (V.int (c : Int) = V.int (xs.length : Int)) := by
        rw [Bool.eq_iff_iff, decide_eq_true_eq, Option.isSome_iff_exists]
        constructor
        · rintro ⟨bs2, e⟩
          obtain ⟨a1, a2, _⟩ := (scan_iff ds [] bs2).mp e
          rw [hbs] at a1
          cases a1
          have := hcn.mpr a2
          exact congrArg V.int (by omega)
        · intro e
          have := V.int.inj e
          exact ⟨bs, (scan_iff ds [] bs).mpr ⟨hbs, hcn.mp (by omega), fun b _ z => by cases z⟩⟩
      rw [ee] at fin
      exact fin
end
end PP

set_option maxHeartbeats 4000000
namespace PP
open PySem PySem.Spec PyProof.Rows L2 G3 G4 M0 PA EE QA LC SX
theorem TK.lay {d : Dt} (h : TK d) : d.canLay0 = true := by
  induction h with
  | non => simp only [PyData.canLay0]
  | bl b => simp only [PyData.canLay0]
  | int i => simp only [PyData.canLay0]
  | str h => simp only [PyData.canLay0]; exact h
  | lst _ ih => simp only [PyData.canLay0]; exact lay_all ih
  | tup _ ih => simp only [PyData.canLay0]; exact lay_all ih
theorem TK.shaped {d : Dt} (h : TK d) (z : d.depth ≤ 64) : SeqAt.shaped d = true := by
  unfold SeqAt.shaped
  rw [h.lay, decide_eq_true z]
  rfl
theorem depth_mem {ds : List Dt} {d : Dt} (h : d ∈ ds) : d.depth ≤ (PyData.tuple ds).depth := by
  have key : ∀ (l : List Dt), d ∈ l → d.depth ≤ PyData.depthAll l := by
    intro l
    induction l with
    | nil => intro h; cases h
    | cons x r ih =>
      intro h
      simp only [PyData.depthAll]
      rcases List.mem_cons.mp h with rfl | h
      · omega
      · have := ih h
        omega
  have := key ds h
  simp only [PyData.depth]
  omega
def anyP : List Dt → Bool
  | [.str w] => decide (w = "any")
  | _ => false
theorem anyP_len {ss : List Dt} (h : ss.length ≠ 1) : anyP ss = false := by
  unfold anyP
  split
  · exact absurd rfl h
  · rfl
theorem anyP_yes {ss : List Dt} (h : anyP ss = true) : ss = [.str "any"] := by
  unfold anyP at h
  split at h
  · rw [of_decide_eq_true h]
  · cases h
theorem eqv_any (ss : List Dt) : PyData.eqv (.tuple ss) (.tuple [.str "any"]) = anyP ss := by
  cases ss with
  | nil => rfl
  | cons x r =>
    cases r with
    | nil =>
      cases x with
      | str w =>
        simp only [PyData.eqv, PyData.eqvAll, Bool.and_true]
        show _ = decide (w = "any")
        rw [Bool.eq_iff_iff, beq_iff_eq, decide_eq_true_eq]
      | _ => simp [PyData.eqv, PyData.eqvAll, anyP]
    | cons y r2 =>
      have e : PyData.eqv (.tuple (x :: y :: r2)) (.tuple [.str "any"]) = false := by simp [PyData.eqv, PyData.eqvAll]
      rw [e]
      cases x <;> rfl
def ofP (bs : List Box) (b : Str) (n : Int) (o : Str) : Bool := !decide (o = b) && (match size? bs o with | some m => decide (m ≤ n) | none => false)
theorem src_str {bs : List Box} {b w o : Str} {n : Int} : srcP bs b n [.str w, .str o] = (decide (w = "of") && ofP bs b n o) := rfl
theorem src_int {bs : List Box} {b w : Str} {n m : Int} : srcP bs b n [.str w, .int m] = (if w = "to" then decide (0 ≤ m) && decide (m < n) else decide (w = "on") && (decide (1 ≤ m) && decide (m ≤ 3))) := rfl
theorem ne_tof : ¬ ("to" : Str) = "of" := by decide +kernel
theorem ne_oft : ¬ ("of" : Str) = "to" := by decide +kernel
theorem ne_ofn : ¬ ("of" : Str) = "on" := by decide +kernel
theorem ne_ont : ¬ ("on" : Str) = "to" := by decide +kernel
theorem ne_onf : ¬ ("on" : Str) = "of" := by decide +kernel
abbrev nLSet : List Str := ["_law_sizes", "_law_line", "_law_word", "_law_what"]
theorem scLSet : FnScope nLSet ["_law_sizes", "_law_line"] (defScope s_law_is_set) := ⟨rfl, rfl, rfl, by decide +kernel, rfl, by decide +kernel, by decide +kernel⟩
def setP (bs : List Box) : List Dt → Bool
  | [_, .str b, .tuple ss] => row3s bs b ss
  | _ => false
section
variable {P : Program} {w : World} {K : PySem.W.Frag} {mg : Str → Option Value} {base : Heap}
def spLSet (K : PySem.W.Frag) : Sp := fun vs H Q _ => ∃ (sz : Addr) (v : V) (ds : List Dt) (bs : List Box), vs = [.ref sz, v] ∧ SizesE H sz bs ∧ Dp K H v (.tuple ds) ∧ TK (.tuple ds) ∧ (PyData.tuple ds).depth ≤ 60 ∧ ∀ H', Same H H' → Q (.bl (setP bs ds)) H'
set_option maxHeartbeats 16000000 in
theorem ok_lset {f : Addr} {fd : FuncData} {k : Nat} (F : Fun K "_law_is_set" "_law_is_set" s_law_is_set f fd) (DU : Def P w K mg base CX0 (k + 1) "_law_is_number" ["_law_item", "_law_low", "_law_high"] (spLNum K))
    (mi : mg "isinstance" = none) (mt : mg "tuple" = none) (ml : mg "len" = none) (ms : mg "str" = none) : FnOk P w K mg base CX0 (k + 1 + 1) f fd ["_law_sizes", "_law_line"] (spLSet K) := by
  refine F.ok scLSet (fun vs H Q E h => ?_) (fun cdv A outer s H vs Q E hr h => ?_)
  · obtain ⟨sz, v, ds, bs, rfl, _⟩ := h
    rfl
  obtain ⟨sz, v, ds, bs, rfl, hz, hv, tk, dep, q⟩ := h
  have nd := scLSet.nd
  have hu := hu_of hr
  refine ⟨_, pss_cons (ps_if (PW.pt (pw_or (pt_cmpR op_ne (pe_callB call_len_seq (by rfl) ml PySem.boot_len (pa_cons (pv 1) pa_nil)) pe_int (nomark _))
        (pw_or (pt_not (pt_val (pe_callB call_isi (by rfl) mi PyProof.Rows.boot_isinstance (pa_cons (pe_ix ix_tup (pv 1) pe_int (fun _ _ => rfl)) (pa_cons (pe_bltn (by rfl) ms (u := .type "str") (by decide +kernel) (show RelV (.ty "str") (.type "str") from rfl)) pa_nil)))))
        (pw_or (pt_cmpR (op_dNotIn hu) (pe_ix ix_tup (pv 1) pe_int (fun _ _ => rfl)) (pv 0) (by rfl))
        (pw_or1 (pt_not (pt_val (pe_callB call_isi (by rfl) mi PyProof.Rows.boot_isinstance (pa_cons (pe_ix ix_tup (pv 1) pe_int (fun _ _ => rfl)) (pa_cons (pe_bltn (by rfl) mt (u := .type "tuple") (by decide +kernel) (show RelV (.ty "tuple") (.type "tuple") from rfl)) pa_nil)))))))))) (pss_one (ps_ret pe_bl)) pss_nil)
    (pss_cons (ps_if (pt_cmpR (op_eqD hr.units) (pe_ix ix_tup (pv 1) pe_int (fun _ _ => rfl)) (pe_tup (pa_cons pe_str pa_nil)) (nomark _)) (pss_one (ps_ret pe_bl)) pss_nil)
    (pss_cons (ps_if (PW.pt (pw_or (pt_cmpR op_ne (pe_callB call_len_seq (by rfl) ml PySem.boot_len (pa_cons (pe_ix ix_tup (pv 1) pe_int (fun _ _ => rfl)) pa_nil)) pe_int (nomark _))
        (pw_or1 (pt_not (pt_val (pe_callB call_isi (by rfl) mi PyProof.Rows.boot_isinstance (pa_cons (pe_ix ix_tup (pe_ix ix_tup (pv 1) pe_int (fun _ _ => rfl)) pe_int (fun _ _ => rfl)) (pa_cons (pe_bltn (by rfl) ms (u := .type "str") (by decide +kernel) (show RelV (.ty "str") (.type "str") from rfl)) pa_nil)))))))) (pss_one (ps_ret pe_bl)) pss_nil)
    (pss_cons (ps_asg (pe_ix ix_tup (pv 1) pe_int (fun _ _ => rfl)) (pg_tup rfl (pgs_cons (pg_name (i := 2) nd rfl (.inl rfl)) (pgs_cons (pg_name (i := 3) nd rfl (.inl rfl)) pgs_nil))))
    (pss_cons (ps_if (pt_cmpR op_eq (pv 2) pe_str (nomark _)) (pss_one (ps_ret (pe_call DU.ok hr (by rfl) DU.g DU.kp DU.b .nil pass0 (pa_cons (pv 3) (pa_cons pe_int (pa_cons (pe_op op_sub (pe_dget hu (pv 0) (pe_ix ix_tup (pv 1) pe_int (fun _ _ => rfl)) (fun _ _ => rfl)) pe_int) pa_nil)))))) pss_nil)
    (pss_cons (ps_if (pt_cmpR op_eq (pv 2) pe_str (nomark _)) (pss_one (ps_ret (pe_and (pe_callB call_isi (by rfl) mi PyProof.Rows.boot_isinstance (pa_cons (pv 3) (pa_cons (pe_bltn (by rfl) ms (u := .type "str") (by decide +kernel) (show RelV (.ty "str") (.type "str") from rfl)) pa_nil)))
        (pe_and (pe_cmp (pc_din hu (pv 3) (pv 0))) (pe_and (pe_cmpR op_ne (pv 3) (pe_ix ix_tup (pv 1) pe_int (fun _ _ => rfl)) (nomark _)) (pe_one (pe_cmpR op_le (pe_dget hu (pv 0) (pv 3) (fun _ _ => rfl)) (pe_dget hu (pv 0) (pe_ix ix_tup (pv 1) pe_int (fun _ _ => rfl)) (fun _ _ => rfl)) (nomark _)))))))) pss_nil)
    (pss_one (ps_ret (pe_and (pe_cmpR op_eq (pv 2) pe_str (nomark _)) (pe_one (pe_call DU.ok hr (by rfl) DU.g DU.kp DU.b .nil pass0 (pa_cons (pv 3) (pa_cons pe_int (pa_cons pe_int pa_nil))))))))))))), ?_⟩
  obtain ⟨a, xs, rfl, ha, hall, hxl⟩ := small_of hv
  have q0 := q H (Same.refl _)
  refine ⟨_, rfl, a, _, rfl, .inr ha, rfl, _, rfl, ?_⟩
  by_cases l3 : ds.length = 3
  rotate_left
  · rw [ne_int (show (xs.length : Int) ≠ 3 by omega)]
    rw [show setP bs ds = false by
      unfold setP
      split
      · exact absurd rfl l3
      · rfl] at q0
    exact iteT (iteT q0)
  rw [eq_int (show (xs.length : Int) = 3 by omega)]
  obtain ⟨d0, d1, d2, rfl⟩ := len3 l3
  cases hall with
  | @cons x0 _ _ _ h0 hall =>
  cases hall with
  | @cons x1 _ _ _ h1 hall =>
  cases hall with
  | @cons x2 _ _ _ h2 hall =>
  cases hall
  refine iteF ⟨_, rfl, a, _, 1, _, rfl, rfl, ha, atI_nat (j := 1) rfl, _, _, _, _, _, rfl, .ty "str", dp_ty h1, kit_str K h1, _, rfl, ?_⟩
  by_cases q1 : isStr d1 = true
  rotate_left
  · rw [show isStr d1 = false by simpa using q1]
    rw [show setP bs [d0, d1, d2] = false by cases d1 with | str z => exact absurd rfl q1 | _ => rfl] at q0
    exact iteT (iteT q0)
  obtain ⟨b, rfl⟩ := isS_str d1 q1
  cases dp_str h1
  obtain ⟨o, hg, hos⟩ : ∃ o, DGet H sz (.str b) o ∧ o = (size? bs b).map V.int := ⟨_, hz.get b, rfl⟩
  refine iteF ⟨_, rfl, a, _, 1, _, rfl, rfl, ha, atI_nat (j := 1) rfl, _, rfl, sz, o, rfl, hg, _, rfl, ?_⟩
  have noT : isTup d2 = false → setP bs [d0, .str b, d2] = false := fun z => by cases d2 with | tuple es => cases z | _ => rfl
  cases es : size? bs b with
  | none =>
    rw [es] at hos
    subst hos
    rw [show setP bs [d0, .str b, d2] = false by
      by_cases z : isTup d2 = true
      · obtain ⟨ss, rfl⟩ := isT_tup d2 z
        exact row3s_none es
      · exact noT (by simpa using z)] at q0
    exact iteT (iteT q0)
  | some n =>
  rw [es] at hos
  subst hos
  refine iteF ⟨_, rfl, a, _, 2, _, rfl, rfl, ha, atI_nat (j := 2) rfl, _, _, _, _, _, rfl, .ty "tuple", dp_ty h2, kit_tup K h2, _, rfl, ?_⟩
  by_cases q2 : isTup d2 = true
  rotate_left
  · rw [show isTup d2 = false by simpa using q2]
    rw [noT (by simpa using q2)] at q0
    exact iteT q0
  obtain ⟨ss, rfl⟩ := isT_tup d2 q2
  have eP : setP bs [d0, .str b, .tuple ss] = srcP bs b n ss := row3s_some es
  rw [eP] at q q0
  obtain ⟨c, ys, rfl, hc, hys, hyl⟩ := small_of h2
  have m2 : PyData.tuple ss ∈ [d0, .str b, .tuple ss] := by simp
  have tk2 := tk.of_tup _ m2
  have dp2' := Nat.le_trans (depth_mem m2) dep
  refine iteF ⟨_, rfl, a, _, 2, _, rfl, rfl, ha, atI_nat (j := 2) rfl, by show 1 ≤ sizeLine; decide, fun u nu => ?_⟩
  have s1 : Same H (upd H u (.tup [.str "any"])) := same_new nu
  have ut : Dp K (upd H u (.tup [.str "any"])) (.ref u) (.tuple [.str "any"]) := .tup (SqT.of upd_same) (.cons (.str _) .nil)
  have tkA : TK (.tuple [.str "any"]) := .tup fun d hd => by rw [List.mem_singleton.mp hd]; exact .str (by decide +kernel)
  generalize upd H u (.tup [.str "any"]) = G at s1 ut ⊢
  have qG := q G s1
  have haG := same_tup s1 ha
  have hcG := same_tup s1 hc
  have hzG := hz.same s1
  have hysG := dpAll_same s1 _ _ hys
  refine ⟨_, _, dp_same s1 _ _ h2, ut, tk2.shaped (by omega), tkA.shaped (by simp [PyData.depth, PyData.depthAll]), _, rfl, ?_⟩
  rw [eqv_any]
  by_cases l2 : ss.length = 2
  rotate_left
  · cases ea : anyP ss with
    | true =>
      rw [anyP_yes ea] at qG
      exact iteT qG
    | false =>
      rw [show srcP bs b n ss = false by
        unfold srcP
        split
        · exact ea
        · exact absurd rfl l2
        · exact absurd rfl l2
        · rfl] at qG
      refine iteF ⟨_, rfl, a, _, 2, _, rfl, rfl, haG, atI_nat (j := 2) rfl, c, _, rfl, .inr hcG, rfl, _, rfl, ?_⟩
      rw [ne_int (show (ys.length : Int) ≠ 2 by omega)]
      exact iteT (iteT qG)
  rw [anyP_len (by omega)]
  obtain ⟨e1, e2, rfl⟩ := len2 l2
  refine iteF ⟨_, rfl, a, _, 2, _, rfl, rfl, haG, atI_nat (j := 2) rfl, c, _, rfl, .inr hcG, rfl, _, rfl, ?_⟩
  rw [eq_int (show (ys.length : Int) = 2 by omega)]
  cases hysG with
  | @cons y1 _ _ _ g1 hysG =>
  cases hysG with
  | @cons y2 _ _ _ g2 hysG =>
  cases hysG
  refine iteF ⟨_, rfl, a, _, 2, _, rfl, rfl, haG, atI_nat (j := 2) rfl, c, _, 0, _, rfl, rfl, hcG, atI_nat (j := 0) rfl, _, _, _, _, _, rfl, .ty "str", dp_ty g1, kit_str K g1, _, rfl, ?_⟩
  by_cases p1 : isStr e1 = true
  rotate_left
  · rw [show isStr e1 = false by simpa using p1]
    rw [show srcP bs b n [e1, e2] = false by cases e1 with | str z => exact absurd rfl p1 | _ => rfl] at qG
    exact iteT qG
  obtain ⟨wd, rfl⟩ := isS_str e1 p1
  cases dp_str g1
  refine iteF ⟨_, rfl, a, _, 2, _, rfl, rfl, haG, atI_nat (j := 2) rfl, c, _, rfl, hcG, rfl, _, _, rfl, _, _, rfl, rfl, ?_⟩
  refine ⟨_, rfl, rfl, _, rfl, ?_⟩
  have hgG : DGet G sz (.str b) (some (.int n)) := by
    have z := hzG.get b
    rw [es] at z
    exact z
  by_cases w1 : wd = "to"
  · subst w1
    rw [decide_eq_true rfl]
    refine iteT ⟨_, rfl, _, rfl, _, rfl, a, _, 1, _, rfl, rfl, haG, atI_nat (j := 1) rfl, sz, _, rfl, hgG, _, _, rfl, rfl, y2, e2, 0, n - 1, rfl, g2, ?_⟩
    have e : numD 0 (n - 1) e2 = srcP bs b n [.str "to", e2] := by
      cases e2 with
      | int m =>
        rw [src_int, if_pos rfl]
        show (decide (0 ≤ m) && decide (m ≤ n - 1)) = _
        congr 1
        rw [decide_eq_decide]
        omega
      | str o =>
        rw [src_str, decide_eq_false ne_tof]
        rfl
      | _ => rfl
    rw [e]
    exact qG
  rw [ne_st w1]
  refine iteF ⟨_, rfl, rfl, _, rfl, ?_⟩
  by_cases w2 : wd = "of"
  · subst w2
    rw [decide_eq_true rfl]
    refine iteT ⟨_, rfl, _, _, _, _, _, rfl, .ty "str", dp_ty g2, kit_str K g2, _, rfl, ?_⟩
    by_cases p2 : isStr e2 = true
    rotate_left
    · rw [show isStr e2 = false by simpa using p2]
      rw [show srcP bs b n [.str "of", e2] = false by
        cases e2 with
        | str z => exact absurd rfl p2
        | int m =>
          rw [src_int, if_neg ne_oft, decide_eq_false ne_ofn]
          rfl
        | _ => rfl] at qG
      exact iteF qG
    obtain ⟨o, rfl⟩ := isS_str e2 p2
    cases dp_str g2
    have eo : srcP bs b n [.str "of", .str o] = ofP bs b n o := by
      rw [src_str, decide_eq_true rfl]
      exact Bool.true_and _
    rw [eo] at qG
    unfold ofP at qG
    have ho := hzG.get o
    refine iteT ⟨_, rfl, _, rfl, sz, _, rfl, ho, _, rfl, ?_⟩
    cases eso : size? bs o with
    | none =>
      rw [eso, Bool.and_false] at qG
      exact iteF qG
    | some m =>
    rw [eso] at qG ho
    refine iteT ⟨_, rfl, _, rfl, a, _, 1, _, rfl, rfl, haG, atI_nat (j := 1) rfl, rfl, _, rfl, ?_⟩
    by_cases ob : o = b
    · subst ob
      rw [decide_eq_true rfl] at qG
      rw [decide_eq_true rfl]
      exact iteF qG
    · rw [decide_eq_false ob] at qG
      rw [ne_st ob]
      exact iteT ⟨_, rfl, _, rfl, sz, _, rfl, ho, _, rfl, _, rfl, a, _, 1, _, rfl, rfl, haG, atI_nat (j := 1) rfl, sz, _, rfl, hgG, _, _, rfl, rfl, qG⟩
  rw [ne_st w2]
  refine iteF ⟨_, rfl, rfl, _, rfl, ?_⟩
  by_cases w3 : wd = "on"
  · subst w3
    rw [decide_eq_true rfl]
    refine iteT ⟨_, rfl, y2, e2, 1, 3, rfl, g2, ?_⟩
    have e : numD 1 3 e2 = srcP bs b n [.str "on", e2] := by
      cases e2 with
      | int m =>
        rw [src_int, if_neg ne_ont, decide_eq_true rfl]
        rfl
      | str o =>
        rw [src_str, decide_eq_false ne_onf]
        rfl
      | _ => rfl
    rw [e]
    exact qG
  · rw [ne_st w3]
    rw [show srcP bs b n [.str wd, e2] = false by
      cases e2 with
      | int m =>
        rw [src_int, if_neg w1, decide_eq_false w3]
        rfl
      | str o =>
        rw [src_str, decide_eq_false w2]
        rfl
      | _ => rfl] at qG
    exact iteF qG
end
end PP

set_option maxHeartbeats 4000000
namespace PP
open PySem PySem.Spec PyProof.Rows L2 G3 G4 M0 PA EE QA LC SX
abbrev nLTest : List Str := ["_law_sizes", "_law_line", "_law_many", "_law_size"]
theorem scLTest : FnScope nLTest ["_law_sizes", "_law_line", "_law_many", "_law_size"] (defScope s_law_is_test) := ⟨rfl, rfl, rfl, by decide +kernel, rfl, by decide +kernel, by decide +kernel⟩
def inD (bs : List Box) (b : Str) (d : Dt) : Bool := match size? bs b with
  | some n => numD 0 (n - 1) d
  | none => false
def test3 (bs : List Box) : List Dt → Bool
  | [_, .str b, d] => inD bs b d
  | _ => false
def test4 (bs : List Box) (e : Int) : List Dt → Bool
  | [_, .str b, d, f] => inD bs b d && numD 0 e f
  | _ => false
theorem inD_some {bs : List Box} {b : Str} {d : Dt} {n : Int} (h : size? bs b = some n) : inD bs b d = numD 0 (n - 1) d := by
  unfold inD
  rw [h]
theorem inD_none {bs : List Box} {b : Str} {d : Dt} (h : size? bs b = none) : inD bs b d = false := by
  unfold inD
  rw [h]
section
variable {P : Program} {w : World} {K : PySem.W.Frag} {mg : Str → Option Value} {base : Heap}
def spLTest (K : PySem.W.Frag) : Sp := fun vs H Q _ => ∃ (sz : Addr) (v : V) (ds : List Dt) (bs : List Box) (e s : Int), vs = [.ref sz, v, .int e, .int s] ∧ SizesE H sz bs ∧ Dp K H v (.tuple ds) ∧
  ((s = 3 ∧ Q (.bl (test3 bs ds)) H) ∨ (s = 4 ∧ Q (.bl (test4 bs e ds)) H))
set_option maxHeartbeats 16000000 in
theorem ok_ltest {f : Addr} {fd : FuncData} {k : Nat} (F : Fun K "_law_is_test" "_law_is_test" s_law_is_test f fd) (DU : Def P w K mg base CX0 (k + 1) "_law_is_number" ["_law_item", "_law_low", "_law_high"] (spLNum K))
    (mi : mg "isinstance" = none) (ml : mg "len" = none) (ms : mg "str" = none) : FnOk P w K mg base CX0 (k + 1 + 1) f fd ["_law_sizes", "_law_line", "_law_many", "_law_size"] (spLTest K) := by
  refine F.ok scLTest (fun vs H Q E h => ?_) (fun cdv A outer s H vs Q E hr h => ?_)
  · obtain ⟨sz, v, ds, bs, e, s, rfl, _⟩ := h
    rfl
  obtain ⟨sz, v, ds, bs, e, k3, rfl, hz, hv, q⟩ := h
  have nd := scLTest.nd
  have hu := hu_of hr
  refine ⟨_, pss_cons (ps_if (PW.pt (pw_or (pt_cmpR op_ne (pe_callB call_len_seq (by rfl) ml PySem.boot_len (pa_cons (pv 1) pa_nil)) (pv 3) (nomark _))
        (pw_or (pt_not (pt_val (pe_callB call_isi (by rfl) mi PyProof.Rows.boot_isinstance (pa_cons (pe_ix ix_tup (pv 1) pe_int (fun _ _ => rfl)) (pa_cons (pe_bltn (by rfl) ms (u := .type "str") (by decide +kernel) (show RelV (.ty "str") (.type "str") from rfl)) pa_nil)))))
        (pw_or1 (pt_cmpR (op_dNotIn hu) (pe_ix ix_tup (pv 1) pe_int (fun _ _ => rfl)) (pv 0) (by rfl)))))) (pss_one (ps_ret pe_bl)) pss_nil)
    (pss_one (ps_ret (pe_and (pe_call DU.ok hr (by rfl) DU.g DU.kp DU.b .nil pass0 (pa_cons (pe_ix ix_tup (pv 1) pe_int (fun _ _ => rfl)) (pa_cons pe_int (pa_cons (pe_op op_sub (pe_dget hu (pv 0) (pe_ix ix_tup (pv 1) pe_int (fun _ _ => rfl)) (fun _ _ => rfl)) pe_int) pa_nil))))
      (pe_one (pe_or (pe_cmpR op_eq (pv 3) pe_int (nomark _)) (pe_one (pe_call DU.ok hr (by rfl) DU.g DU.kp DU.b .nil pass0 (pa_cons (pe_ix ix_tup (pv 1) pe_int (fun _ _ => rfl)) (pa_cons pe_int (pa_cons (pv 2) pa_nil)))))))))), ?_⟩
  obtain ⟨a, xs, rfl, ha, hall, hxl⟩ := small_of hv
  refine ⟨_, rfl, a, _, rfl, .inr ha, _, rfl, rfl, _, rfl, ?_⟩
  rcases q with ⟨rfl, q⟩ | ⟨rfl, q⟩
  · by_cases l3 : ds.length = 3
    rotate_left
    · rw [ne_int (show (xs.length : Int) ≠ 3 by omega)]
      rw [show test3 bs ds = false by
        unfold test3
        split
        · exact absurd rfl l3
        · rfl] at q
      exact iteT (iteT q)
    rw [eq_int (show (xs.length : Int) = 3 by omega)]
    obtain ⟨d0, d1, d2, rfl⟩ := len3 l3
    cases hall with
    | @cons x0 _ _ _ h0 hall =>
    cases hall with
    | @cons x1 _ _ _ h1 hall =>
    cases hall with
    | @cons x2 _ _ _ h2 hall =>
    cases hall
    refine iteF ⟨_, rfl, a, _, 1, _, rfl, rfl, ha, atI_nat (j := 1) rfl, _, _, _, _, _, rfl, .ty "str", dp_ty h1, kit_str K h1, _, rfl, ?_⟩
    by_cases q1 : isStr d1 = true
    rotate_left
    · rw [show isStr d1 = false by simpa using q1]
      rw [show test3 bs [d0, d1, d2] = false by cases d1 with | str z => exact absurd rfl q1 | _ => rfl] at q
      exact iteT (iteT q)
    obtain ⟨b, rfl⟩ := isS_str d1 q1
    cases dp_str h1
    have hg := hz.get b
    rw [show test3 bs [d0, .str b, d2] = inD bs b d2 from rfl] at q
    refine iteF ⟨_, rfl, a, _, 1, _, rfl, rfl, ha, atI_nat (j := 1) rfl, _, rfl, sz, _, rfl, hg, _, rfl, ?_⟩
    cases es : size? bs b with
    | none =>
      rw [inD_none es] at q
      exact iteT q
    | some n =>
    rw [es] at hg
    rw [inD_some es] at q
    refine iteF ⟨_, rfl, a, _, 2, _, rfl, rfl, ha, atI_nat (j := 2) rfl, _, rfl, _, rfl, a, _, 1, _, rfl, rfl, ha, atI_nat (j := 1) rfl, sz, _, rfl, hg, _, _, rfl, rfl, x2, d2, 0, n - 1, rfl, h2, _, rfl, ?_⟩
    cases e1 : numD 0 (n - 1) d2 with
    | false =>
      rw [e1] at q
      exact iteF q
    | true =>
      rw [e1] at q
      refine iteT ⟨_, rfl, rfl, _, rfl, ?_⟩
      rw [eq_int rfl]
      exact iteT q
  · by_cases l4 : ds.length = 4
    rotate_left
    · rw [ne_int (show (xs.length : Int) ≠ 4 by omega)]
      rw [show test4 bs e ds = false by
        unfold test4
        split
        · exact absurd rfl l4
        · rfl] at q
      exact iteT (iteT q)
    rw [eq_int (show (xs.length : Int) = 4 by omega)]
    obtain ⟨d0, d1, d2, d3, rfl⟩ := len4 l4
    cases hall with
    | @cons x0 _ _ _ h0 hall =>
    cases hall with
    | @cons x1 _ _ _ h1 hall =>
    cases hall with
    | @cons x2 _ _ _ h2 hall =>
    cases hall with
    | @cons x3 _ _ _ h3 hall =>
    cases hall
    refine iteF ⟨_, rfl, a, _, 1, _, rfl, rfl, ha, atI_nat (j := 1) rfl, _, _, _, _, _, rfl, .ty "str", dp_ty h1, kit_str K h1, _, rfl, ?_⟩
    by_cases q1 : isStr d1 = true
    rotate_left
    · rw [show isStr d1 = false by simpa using q1]
      rw [show test4 bs e [d0, d1, d2, d3] = false by cases d1 with | str z => exact absurd rfl q1 | _ => rfl] at q
      exact iteT (iteT q)
    obtain ⟨b, rfl⟩ := isS_str d1 q1
    cases dp_str h1
    have hg := hz.get b
    rw [show test4 bs e [d0, .str b, d2, d3] = (inD bs b d2 && numD 0 e d3) from rfl] at q
    refine iteF ⟨_, rfl, a, _, 1, _, rfl, rfl, ha, atI_nat (j := 1) rfl, _, rfl, sz, _, rfl, hg, _, rfl, ?_⟩
    cases es : size? bs b with
    | none =>
      rw [inD_none es] at q
      exact iteT q
    | some n =>
    rw [es] at hg
    rw [inD_some es] at q
    refine iteF ⟨_, rfl, a, _, 2, _, rfl, rfl, ha, atI_nat (j := 2) rfl, _, rfl, _, rfl, a, _, 1, _, rfl, rfl, ha, atI_nat (j := 1) rfl, sz, _, rfl, hg, _, _, rfl, rfl, x2, d2, 0, n - 1, rfl, h2, _, rfl, ?_⟩
    cases e1 : numD 0 (n - 1) d2 with
    | false =>
      rw [e1] at q
      exact iteF q
    | true =>
      rw [e1] at q
      refine iteT ⟨_, rfl, rfl, _, rfl, ?_⟩
      rw [ne_int (show (4 : Int) ≠ 3 by decide)]
      exact iteF ⟨_, rfl, a, _, 3, _, rfl, rfl, ha, atI_nat (j := 3) rfl, _, rfl, x3, d3, 0, e, rfl, h3, q⟩
end
end PP

set_option maxHeartbeats 4000000
namespace PP
open PySem PySem.Spec PyProof.Rows L2 G3 G4 M0 PA EE QA LC SX
/-- [x for x in t if not m(x)] -/
theorem lc_siftD {K : PySem.W.Frag} {a : Addr} {xs : List V} {ds : List PyData} {m : PyData → Bool} {g : TG} {tt : TT} {te : TE} {vs : List Nat} {σ : L2.St} {H1 : Hp} {D : Addr} {Qd : Hp → Prop}
    (hx : SqT K H1 a xs) (hd : DpAll K H1 xs ds) (len : ds.length ≤ 100000) (nD : H1 D = none)
    (turn : ∀ x d H (R : L2.St → Bool → Hp → Prop), d ∈ ds → Dp K H x d → (∀ σ2 H', Same H H' → (∀ Q' : VK, Q' x H' → te σ2 H' Q') → R σ2 (!m d) H') → g x (wipe σ vs) H fun σ2 H2 => wipe σ2 vs = wipe σ vs ∧ tt σ2 H2 (R σ2))
    (fin : ∀ H' ys, Same H1 H' → H' D = some (.lst ys) → DpAll K H1 ys (ds.filter fun d => !m d) → Qd H') :
    ∃ W : Nat → Nat → Hp → Prop, (∃ m, W 0 m (upd H1 D (.lst []))) ∧ ∀ i m H, W i m H →
      ((Itt K a).stop i H ∧ Qd H) ∨ ((Itt K a).go i H ∧ ∃ Nx : Hp → Prop, (∀ H', Nx H' → ∃ m', m' < m ∧ W (i + 1) m' H') ∧ ∀ x H', (Itt K a).yld i H x H' → g x (wipe σ vs) H' fun σ2 H2 => wipe σ2 vs = wipe σ vs ∧ tt σ2 H2 fun b H3 =>
        if b = true then te σ2 H3 fun y H4 => ∃ acc, H4 D = some (.lst acc) ∧ acc.length < sizeLine ∧ Nx (upd H4 D (.lst (acc ++ [y]))) else Nx H3) := by
  have hl := dpAll_len hd
  refine lc_tup (xs := xs) (fun i H => Same H1 H ∧ ∃ ys, H D = some (.lst ys) ∧ DpAll K H1 ys ((ds.take i).filter fun d => !m d)) ⟨same_new nD, [], upd_same, .nil⟩ (fun i H _ h => same_tup h.1 hx) (fun i x H e h => ?_) (fun H h => ?_)
  · obtain ⟨d, ed, hxd⟩ := dpAll_get hd e
    obtain ⟨sm, ys, hD, hy⟩ := h
    have hlt : i < ds.length := (List.getElem?_eq_some_iff.mp ed).1
    have tk : ds.take (i + 1) = ds.take i ++ [d] := by rw [List.take_succ, ed]; rfl
    refine turn x d H (fun σ2 b H3 => if b = true then te σ2 H3 fun y H4 => ∃ acc, H4 D = some (.lst acc) ∧ acc.length < sizeLine ∧ (Same H1 (upd H4 D (.lst (acc ++ [y]))) ∧ ∃ ys, (upd H4 D (.lst (acc ++ [y]))) D = some (.lst ys) ∧ DpAll K H1 ys ((ds.take (i + 1)).filter fun d => !m d))
      else Same H1 H3 ∧ ∃ ys, H3 D = some (.lst ys) ∧ DpAll K H1 ys ((ds.take (i + 1)).filter fun d => !m d)) (List.mem_of_getElem? ed) (dp_same sm _ _ hxd) (fun σ2 H' s t => ?_)
    refine ite2 (fun e1 => ?_) (fun e1 => ?_)
    · refine t _ ⟨ys, s _ _ hD, ?_, same_put (sm.trans s) nD, ys ++ [x], upd_same, ?_⟩
      · have := dpAll_len hy
        have z := List.length_filter_le (fun d => !m d) (ds.take i)
        rw [List.length_take] at z
        exact LC.small_line (by omega)
      · rw [tk, List.filter_append]
        have ef : [d].filter (fun d => !m d) = [d] := by
          rw [List.filter_cons_of_pos (p := fun d => !m d) e1]
          rfl
        rw [ef]
        exact dpAll_app hy (.cons hxd .nil)
    · refine ⟨sm.trans s, ys, s _ _ hD, ?_⟩
      rw [tk, List.filter_append]
      have ef : [d].filter (fun d => !m d) = [] := by
        rw [List.filter_cons_of_neg (p := fun d => !m d) e1]
        rfl
      rw [ef, List.append_nil]
      exact hy
  · obtain ⟨sm, ys, hD, hy⟩ := h
    have e : ds.take xs.length = ds := List.take_of_length_le (by omega)
    rw [e] at hy
    exact fin H ys sm hD hy
theorem sift_all {ds : List PyData} {m : PyData → Bool} : PyData.eqv (.list (ds.filter fun d => !m d)) (.list []) = ds.all m := by
  rw [Bool.eq_iff_iff]
  constructor
  · intro h
    rw [List.all_eq_true]
    intro d hd
    cases e : m d with
    | true => rfl
    | false =>
      exfalso
      have mem : d ∈ ds.filter fun d => !m d := List.mem_filter.mpr ⟨hd, by rw [e]; rfl⟩
      cases z : ds.filter fun d => !m d with
      | nil => rw [z] at mem; cases mem
      | cons x r => rw [z] at h; simp [PyData.eqv, PyData.eqvAll] at h
  · intro h
    rw [List.all_eq_true] at h
    have e : ds.filter (fun d => !m d) = [] := by
      rw [List.filter_eq_nil_iff]
      intro d hd
      rw [h d hd]
      decide
    rw [e]
    simp [PyData.eqv, PyData.eqvAll]
section
variable {X : Cx}
/-- set(t), t a tuple of ints -/
def rSetI (K : PySem.W.Frag) (w : World) : List V → Hp → VK → Prop := fun vs H Q => ∃ (t : Addr) (ns : List Int), vs = [.ref t] ∧ SqT K H t (ns.map V.int) ∧ ns.length < 60 ∧
  ∀ a c, H a = none → c ≤ ns.length → Q (.ref a) (upd H a (SetO w a (fun j => decide (j ∈ ns)) c))
theorem cr_setI (calm : X.calm = true) : CallR X (.type "set") (rSetI X.K X.w) := by
  intro pins s σ H vs us Q I r ⟨t, ns, e, ht, few, q⟩
  subst e
  rw [Vals.ref1 r]
  obtain ⟨its, rv, ⟨o, at0, oc, n, od⟩, hz⟩ := I.tuple ht
  refine call_set_tupI ns (I.ok.hd calm) ⟨o, at0, oc, n, od⟩ (by simpa using ints_of_vals rv) (by unfold scanBound; omega) fun h1 tk c R le old => ?_
  exact ⟨.ref s.heap.objs.size, _, I.laid (t' := tk) old (Nat.le_refl _) (setO_new R), rfl, q _ c (I.hok.fresh (Nat.le_refl _)) le⟩
end
theorem lt_one : ∀ {ns ms : List Int}, ns.Pairwise (· < ·) → ms.Pairwise (· < ·) → (∀ k, k ∈ ns ↔ k ∈ ms) → ns = ms
  | [], [], _, _, _ => rfl
  | [], m :: ms, _, _, h => by
    have := (h m).mpr List.mem_cons_self
    cases this
  | n :: ns, [], _, _, h => by
    have := (h n).mp List.mem_cons_self
    cases this
  | n :: ns, m :: ms, a, b, h => by
    obtain ⟨a1, a2⟩ := List.pairwise_cons.mp a
    obtain ⟨b1, b2⟩ := List.pairwise_cons.mp b
    have e : n = m := by
      rcases List.mem_cons.mp ((h n).mp List.mem_cons_self) with e | e
      · exact e
      · rcases List.mem_cons.mp ((h m).mpr List.mem_cons_self) with e2 | e2
        · exact e2.symm
        · have := b1 n e
          have := a1 m e2
          omega
    subst e
    congr 1
    refine lt_one a2 b2 fun k => ?_
    have t := h k
    rw [List.mem_cons, List.mem_cons] at t
    constructor
    · intro q
      have ne : k ≠ n := fun z => by have := a1 k q; omega
      exact (t.mp (.inr q)).resolve_left ne
    · intro q
      have ne : k ≠ n := fun z => by have := b1 k q; omega
      exact (t.mpr (.inr q)).resolve_left ne
theorem ways_ints {e : Int} : ∀ (ns : List Int) (a : Int), (∀ n ∈ ns, n ≤ e) → waysR e a (ns.map PyData.int) = decide ((∀ n ∈ ns, a < n) ∧ ns.Pairwise (· < ·))
  | [], a, _ => by
    show true = _
    rw [decide_eq_true ⟨fun n h => (by cases h), List.Pairwise.nil⟩]
  | n :: ns, a, h => by
    show (decide (a < n) && (decide (n ≤ e) && waysR e n (ns.map PyData.int))) = _
    rw [ways_ints ns n fun m hm => h m (List.mem_cons_of_mem _ hm), decide_eq_true (h n List.mem_cons_self), Bool.true_and, Bool.eq_iff_iff]
    simp only [Bool.and_eq_true, decide_eq_true_eq, List.pairwise_cons, List.mem_cons, forall_eq_or_imp]
    constructor
    · rintro ⟨p, q, r⟩
      exact ⟨⟨p, fun m hm => by have := q m hm; omega⟩, q, r⟩
    · rintro ⟨⟨p, _⟩, q, r⟩
      exact ⟨p, q, r⟩
theorem ways_no {e : Int} : ∀ (ds : List Dt) (a : Int) (d : Dt), d ∈ ds → numD 0 e d = false → -1 ≤ a → waysR e a ds = false
  | [], _, _, h, _, _ => by cases h
  | x :: r, a, d, h, z, la => by
    cases x with
    | int n =>
      show (decide (a < n) && (decide (n ≤ e) && waysR e n r)) = false
      rcases List.mem_cons.mp h with rfl | h
      · have z2 : (decide (0 ≤ n) && decide (n ≤ e)) = false := z
        by_cases p : a < n
        · have p0 : 0 ≤ n := by omega
          rw [decide_eq_true p0, Bool.true_and] at z2
          rw [z2]
          simp
        · rw [decide_eq_false p]
          rfl
      · by_cases p : a < n
        · rw [ways_no r n d h z (by omega)]
          simp
        · rw [decide_eq_false p]
          rfl
    | _ => rfl
theorem all_ints {e : Int} : ∀ (ds : List Dt), ds.all (numD 0 e) = true → ∃ ns : List Int, ds = ns.map PyData.int ∧ ∀ n ∈ ns, 0 ≤ n ∧ n ≤ e
  | [], _ => ⟨[], rfl, fun n h => by cases h⟩
  | x :: r, h => by
    rw [List.all_cons, Bool.and_eq_true] at h
    obtain ⟨ns, rfl, q⟩ := all_ints r h.2
    cases x with
    | int n =>
      have z : (decide (0 ≤ n) && decide (n ≤ e)) = true := h.1
      simp only [Bool.and_eq_true, decide_eq_true_eq] at z
      exact ⟨n :: ns, rfl, fun m hm => by
        rcases List.mem_cons.mp hm with rfl | hm
        · exact z
        · exact q m hm⟩
    | _ => cases h.1
theorem intsL_eqv : ∀ (a b : List Int), PyData.eqvAll (a.map PyData.int) (b.map PyData.int) = decide (a = b)
  | [], [] => rfl
  | [], _ :: _ => by simp [PyData.eqvAll]
  | _ :: _, [] => by simp [PyData.eqvAll]
  | x :: a, y :: b => by
    simp only [List.map_cons, PyData.eqvAll, PyData.eqv]
    rw [intsL_eqv a b, Bool.eq_iff_iff]
    simp
theorem dpAll_ints {K : PySem.W.Frag} {H : Hp} : ∀ {ns : List Int} {vs : List V}, DpAll K H vs (ns.map PyData.int) → vs = ns.map V.int
  | [], _, h => by cases h; rfl
  | n :: ns, _, h => by
    cases h with
    | cons a b =>
      cases dp_int a
      rw [dpAll_ints b]
      rfl
def goP (e : Int) : List Dt → Bool
  | [_, d] => waysP e d
  | _ => false
end PP

set_option maxHeartbeats 4000000
namespace PP
open PySem PySem.Spec PyProof.Rows L2 G3 G4 M0 PA EE QA LC SX
abbrev nLGo : List Str := ["_law_line", "_law_many", "_law_one"]
theorem scLGo : FnScope nLGo ["_law_line", "_law_many"] (defScope s_law_is_go) := ⟨rfl, rfl, rfl, by decide +kernel, rfl, by decide +kernel, by decide +kernel⟩
section
variable {P : Program} {w : World} {K : PySem.W.Frag} {mg : Str → Option Value} {base : Heap}
def spLGo (K : PySem.W.Frag) : Sp := fun vs H Q _ => ∃ (v : V) (ds : List Dt) (e : Int), vs = [v, .int e] ∧ Dp K H v (.tuple ds) ∧ TK (.tuple ds) ∧ (PyData.tuple ds).depth ≤ 60 ∧ ∀ H', Same H H' → Q (.bl (goP e ds)) H'
set_option maxHeartbeats 16000000 in
theorem ok_lgo {f : Addr} {fd : FuncData} {k : Nat} (F : Fun K "_law_is_go" "_law_is_go" s_law_is_go f fd) (DU : Def P w K mg base CX0 (k + 1) "_law_is_number" ["_law_item", "_law_low", "_law_high"] (spLNum K))
    (mi : mg "isinstance" = none) (mt : mg "tuple" = none) (ml : mg "len" = none) (mli : mg "list" = none) (mso : mg "sorted" = none) (mse : mg "set" = none) : FnOk P w K mg base CX0 (k + 1 + 1) f fd ["_law_line", "_law_many"] (spLGo K) := by
  refine F.ok scLGo (fun vs H Q E h => ?_) (fun cdv A outer s H vs Q E hr h => ?_)
  · obtain ⟨v, ds, e, rfl, _⟩ := h
    rfl
  obtain ⟨v, ds, e, rfl, hv, tk, dep, q⟩ := h
  have nd := scLGo.nd
  refine ⟨_, pss_cons (ps_if (PW.pt (pw_or (pt_cmpR op_ne (pe_callB call_len_seq (by rfl) ml PySem.boot_len (pa_cons (pv 0) pa_nil)) pe_int (nomark _))
        (pw_or (pt_not (pt_val (pe_callB call_isi (by rfl) mi PyProof.Rows.boot_isinstance (pa_cons (pe_ix ix_tup (pv 0) pe_int (fun _ _ => rfl)) (pa_cons (pe_bltn (by rfl) mt (u := .type "tuple") (by decide +kernel) (show RelV (.ty "tuple") (.type "tuple") from rfl)) pa_nil)))))
        (pw_or1 (pt_not (pt_chain op_le op_le pe_int (pe_callB call_len_seq (by rfl) ml PySem.boot_len (pa_cons (pe_ix ix_tup (pv 0) pe_int (fun _ _ => rfl)) pa_nil)) pe_int)))))) (pss_one (ps_ret pe_bl)) pss_nil)
    (pss_cons (ps_if (pt_cmpR (op_neD hr.units) (pe_lc (own := [("_law_one", 2)]) (g := gName 2) (by rfl) nd (pi_tup (pe_ix ix_tup (pv 0) pe_int (fun _ _ => rfl)))
        (blkOk_by (N := nLGo) (sc := defScope s_law_is_go) (by decide +kernel)) (fun _ _ _ _ _ => pg_name (i := 2) nd rfl (.inl rfl)) (fun _ _ _ _ _ => pts_one (pt_not (pt_val (pe_call DU.ok hr (by rfl) DU.g DU.kp DU.b .nil pass0 (pa_cons (pv 2) (pa_cons pe_int (pa_cons (pv 1) pa_nil)))))))
        (fun _ _ _ _ _ => pv 2)) (pe_lst pa_nil) (nomark _)) (pss_one (ps_ret pe_bl)) pss_nil)
    (pss_one (ps_ret (pe_cmpR (op_eqD hr.units) (pe_callTy call_list_of (by rfl) mli (by decide +kernel) (pa_cons (pe_ix ix_tup (pv 0) pe_int (fun _ _ => rfl)) pa_nil))
      (pe_callB (cr_sortedSet rfl) (by rfl) mso PyProof.Rows.boot_sorted (pa_cons (pe_callTy (T := "set") (r := rSetI K w) (cr_setI rfl) (by rfl) mse (by decide +kernel) (pa_cons (pe_ix ix_tup (pv 0) pe_int (fun _ _ => rfl)) pa_nil)) pa_nil)) (nomark _))))), ?_⟩
  obtain ⟨a, xs, rfl, ha, hall, hxl⟩ := small_of hv
  have q0 := q H (Same.refl _)
  refine ⟨_, rfl, a, _, rfl, .inr ha, rfl, _, rfl, ?_⟩
  by_cases l2 : ds.length = 2
  rotate_left
  · rw [ne_int (show (xs.length : Int) ≠ 2 by omega)]
    rw [show goP e ds = false by
      unfold goP
      split
      · exact absurd rfl l2
      · rfl] at q0
    exact iteT (iteT q0)
  rw [eq_int (show (xs.length : Int) = 2 by omega)]
  obtain ⟨d0, d1, rfl⟩ := len2 l2
  cases hall with
  | @cons x0 _ _ _ h0 hall =>
  cases hall with
  | @cons x1 _ _ _ h1 hall =>
  cases hall
  rw [show goP e [d0, d1] = waysP e d1 from rfl] at q q0
  refine iteF ⟨_, rfl, a, _, 1, _, rfl, rfl, ha, atI_nat (j := 1) rfl, _, _, _, _, _, rfl, .ty "tuple", dp_ty h1, kit_tup K h1, _, rfl, ?_⟩
  by_cases q1 : isTup d1 = true
  rotate_left
  · rw [show isTup d1 = false by simpa using q1]
    rw [show waysP e d1 = false by cases d1 with | tuple es => exact absurd rfl q1 | _ => rfl] at q0
    exact iteT (iteT q0)
  obtain ⟨es, rfl⟩ := isT_tup d1 q1
  obtain ⟨c, ys, rfl, hc, hys, hyl⟩ := small_of h1
  have m1 : PyData.tuple es ∈ [d0, .tuple es] := by simp
  have tk1 := tk.of_tup _ m1
  have dp1 := Nat.le_trans (depth_mem m1) dep
  rw [show waysP e (.tuple es) = (decide (1 ≤ es.length) && (decide (es.length ≤ 4) && waysR e (-1) es)) from rfl] at q q0
  refine iteF ⟨_, rfl, a, _, 1, _, rfl, rfl, ha, atI_nat (j := 1) rfl, c, _, rfl, .inr hc, _, _, rfl, rfl, _, rfl, ?_⟩
  by_cases w1 : 1 ≤ es.length
  rotate_left
  · rw [decide_eq_false w1] at q0
    rw [decide_eq_false (show ¬ (1 : Int) ≤ (ys.length : Int) by omega)]
    exact iteF ⟨_, rfl, iteT q0⟩
  rw [decide_eq_true (show (1 : Int) ≤ (ys.length : Int) by omega)]
  refine iteT ⟨_, _, rfl, rfl, _, rfl, ?_⟩
  by_cases w4 : es.length ≤ 4
  rotate_left
  · rw [decide_eq_false w4, Bool.false_and, Bool.and_false] at q0
    rw [decide_eq_false (show ¬ (ys.length : Int) ≤ 4 by omega)]
    exact iteT q0
  rw [decide_eq_true (show (ys.length : Int) ≤ 4 by omega)]
  rw [decide_eq_true w1, decide_eq_true w4, Bool.true_and, Bool.true_and] at q
  refine iteF ⟨_, rfl, a, _, 1, _, rfl, rfl, ha, atI_nat (j := 1) rfl, c, rfl, ⟨_, hc⟩, fun D nD => ?_⟩
  refine lc_siftD (m := numD 0 e) (xs := ys) hc hys (by omega) nD (fun x d H2 R md hd2 fin => ⟨rfl, _, rfl, _, rfl, x, d, 0, e, rfl, hd2, _, rfl, fin _ H2 (Same.refl _) fun Q' h => ⟨_, rfl, h⟩⟩) (fun H2 ws s2 hD hy => ?_)
  refine ⟨Nat.zero_le _, fun e0 n0 => ?_⟩
  have s3 : Same H2 (upd H2 e0 (.lst [])) := same_new n0
  have s23 := s2.trans s3
  have tkF : TK (.list (es.filter fun d => !numD 0 e d)) := .lst fun d hd => tk1.of_tup d (List.mem_filter.mp hd).1
  have dpF : (PyData.list (es.filter fun d => !numD 0 e d)).depth ≤ 64 := Nat.le_trans (G4.depth_list (k := 60) fun x hx => Nat.le_trans (depth_mem (List.mem_filter.mp hx).1) dp1) (by decide)
  refine ⟨_, _, .lst (SqL.of (s3 _ _ hD)) (dpAll_same s23 _ _ hy), .lst (SqL.of upd_same) .nil, tkF.shaped dpF, nilL_shaped, _, rfl, ?_⟩
  rw [sift_all]
  generalize upd H2 e0 (.lst []) = G at s3 s23 ⊢
  have qG := q G s23
  cases ea : es.all (numD 0 e) with
  | false =>
    have : ∃ d ∈ es, numD 0 e d = false := Classical.byContradiction fun z => (Bool.eq_false_iff.mp ea) (List.all_eq_true.mpr fun d hd => by
      cases t : numD 0 e d with
      | true => rfl
      | false => exact absurd ⟨d, hd, t⟩ z)
    obtain ⟨d, hd, t⟩ := this
    rw [ways_no es (-1) d hd t (by omega)] at qG
    exact iteT qG
  | true =>
  obtain ⟨ns, rfl, nb⟩ := all_ints es ea
  have hcG := same_tup s23 hc
  have hysG := dpAll_ints hys
  subst hysG
  rw [List.length_map] at w4 w1 hyl
  rw [ways_ints ns (-1) fun n hn => (nb n hn).2] at qG
  refine iteF ⟨_, rfl, a, _, 1, _, rfl, rfl, same_tup s23 ha, atI_nat (j := 1) rfl, c, _, rfl, .inr hcG, fun l nl => ?_⟩
  have s4 : Same G (upd G l (.lst (ns.map V.int))) := same_new nl
  have hl4 : (upd G l (.lst (ns.map V.int))) l = some (.lst (ns.map V.int)) := upd_same
  have s24 := s23.trans s4
  generalize upd G l (.lst (ns.map V.int)) = G2 at s4 hl4 s24 ⊢
  refine ⟨_, rfl, a, _, 1, _, rfl, rfl, same_tup s24 ha, atI_nat (j := 1) rfl, c, ns, rfl, same_tup s24 hc, by omega, fun u cn nu hcn => ?_⟩
  have s5 : Same G2 (upd G2 u (SetO w u (fun j => decide (j ∈ ns)) cn)) := same_new nu
  have hu5 : (upd G2 u (SetO w u (fun j => decide (j ∈ ns)) cn)) u = some (SetO w u (fun j => decide (j ∈ ns)) cn) := upd_same
  generalize upd G2 u (SetO w u (fun j => decide (j ∈ ns)) cn) = G3' at s5 hu5 ⊢
  refine ⟨u, _, cn, rfl, hu5, by omega, fun ms p mp mm mlen np => ?_⟩
  have s6 : Same G3' (upd G3' p (.lst (ms.map V.int))) := same_new np
  have shI : ∀ zs : List Int, SeqAt.shaped (.list (zs.map PyData.int)) = true := fun zs => TK.shaped (.lst fun d hd => by obtain ⟨n, _, rfl⟩ := List.mem_map.mp hd; exact .int n) (Nat.le_trans (G4.depth_list (k := 0) fun x hx => by obtain ⟨n, _, rfl⟩ := List.mem_map.mp hx; simp [PyData.depth]) (by decide))
  refine ⟨_, _, .lst (SqL.of (s6 _ _ (s5 _ _ hl4))) (intL_dp ns), .lst (SqL.of upd_same) (intL_dp ms), shI ns, shI ms, ?_⟩
  have ee : PyData.eqv (.list (ns.map PyData.int)) (.list (ms.map PyData.int)) = decide ((∀ n ∈ ns, -1 < n) ∧ ns.Pairwise (· < ·)) := by
    simp only [PyData.eqv]
    rw [intsL_eqv, decide_eq_decide]
    have mm2 : ∀ k, k ∈ ns ↔ k ∈ ms := fun k => by rw [mm k, decide_eq_true_eq]
    constructor
    · rintro rfl
      exact ⟨fun n hn => by have := (nb n hn).1; omega, mp⟩
    · exact fun h => lt_one h.2 mp mm2
  rw [ee]
  have fin := q _ ((s24.trans s5).trans s6)
  rw [ways_ints ns (-1) fun n hn => (nb n hn).2] at fin
  exact fin
end
end PP

set_option maxHeartbeats 4000000
namespace PP
open PySem PySem.Spec PyProof.Rows L2 G3 G4 M0 PA EE QA LC SX
def lastP (titles hands : List Str) (me w : Str) : List Dt → Bool
  | [_, .str t] => row2t titles hands me w t
  | _ => false
def lawP (bs : List Box) (titles hands : List Str) (me : Str) (e : Int) (w : Str) (ds : List Dt) : Bool :=
  if w = "back" ∨ w = "fault" then decide (ds.length = 1) else if w = "set" then setP bs ds else if w = "if" then test4 bs e ds else if w = "wait" then test3 bs ds else if w = "go" then goP e ds else lastP titles hands me w ds
theorem n1 : ¬ ("set" : Str) = "back" := by decide +kernel
theorem num_in {bs : List Box} {b : Str} {v : Int} : inD bs b (.int v) = inSize bs b v := by
  cases h : size? bs b with
  | none => rw [inD_none h, inSize_none h]
  | some n =>
    rw [inD_some h, inSize_some h]
    show (decide (0 ≤ v) && decide (v ≤ n - 1)) = _
    congr 1
    rw [decide_eq_decide]
    omega
theorem inD_no {bs : List Box} {b : Str} {d : Dt} (h : ∀ v, d ≠ .int v) : inD bs b d = false := by
  cases hs : size? bs b with
  | none => exact inD_none hs
  | some n =>
    rw [inD_some hs]
    cases d with
    | int v => exact absurd rfl (h v)
    | _ => rfl
def strRow (bs : List Box) (w : Str) (d : Dt) : Dt → Bool
  | .str b => row3 bs w b d
  | _ => false
theorem setP_len {bs : List Box} {ds : List Dt} (h : ds.length ≠ 3) : setP bs ds = false := by
  unfold setP
  split
  · exact absurd rfl h
  · rfl
theorem test3_len {bs : List Box} {ds : List Dt} (h : ds.length ≠ 3) : test3 bs ds = false := by
  unfold test3
  split
  · exact absurd rfl h
  · rfl
theorem test4_len {bs : List Box} {e : Int} {ds : List Dt} (h : ds.length ≠ 4) : test4 bs e ds = false := by
  unfold test4
  split
  · exact absurd rfl h
  · rfl
theorem goP_len {e : Int} {ds : List Dt} (h : ds.length ≠ 2) : goP e ds = false := by
  unfold goP
  split
  · exact absurd rfl h
  · rfl
theorem lastP_len {titles hands : List Str} {me w : Str} {ds : List Dt} (h : ds.length ≠ 2) : lastP titles hands me w ds = false := by
  unfold lastP
  split
  · exact absurd rfl h
  · rfl
theorem row_law (bs : List Box) (titles hands : List Str) (me : Str) (e : Int) (w : Str) (r : List Dt) : rowP bs titles hands me e (.tuple (.str w :: r)) = lawP bs titles hands me e w (.str w :: r) := by
  unfold lawP
  have g1 : ∀ {x y : Str}, w = x → x ≠ y → ¬ w = y := fun a b c => b (a.symm.trans c)
  match r with
  | [] =>
    show (decide (w = "back") || decide (w = "fault")) = _
    by_cases a : w = "back" ∨ w = "fault"
    · rw [if_pos a]
      rcases a with a | a
      · rw [decide_eq_true a]; rfl
      · rw [decide_eq_true a, Bool.or_true]; rfl
    · rw [if_neg a, decide_eq_false fun z => a (.inl z), decide_eq_false fun z => a (.inr z)]
      split
      · rfl
      · split
        · rfl
        · split
          · rfl
          · split <;> rfl
  | [d] =>
    show row2 titles hands me e w d = _
    by_cases a : w = "back" ∨ w = "fault"
    · rw [if_pos a]
      have ng : ¬ w = "go" := by rcases a with a | a <;> exact g1 a (by decide +kernel)
      have nc : ¬ w = "call" := by rcases a with a | a <;> exact g1 a (by decide +kernel)
      have nb : ¬ w = "begin" := by rcases a with a | a <;> exact g1 a (by decide +kernel)
      rw [row2_no d ng]
      cases d with
      | str t =>
        show (if w = "call" then _ else decide (w = "begin") && _) = _
        rw [if_neg nc, decide_eq_false nb]
        rfl
      | _ => rfl
    · rw [if_neg a]
      by_cases b1 : w = "set"
      · rw [if_pos b1, row2_no d (g1 b1 (by decide +kernel))]
        cases d with
        | str t =>
          show (if w = "call" then _ else decide (w = "begin") && _) = _
          rw [if_neg (g1 b1 (by decide +kernel)), decide_eq_false (g1 b1 (by decide +kernel))]
          rfl
        | _ => rfl
      rw [if_neg b1]
      by_cases b2 : w = "if"
      · rw [if_pos b2, row2_no d (g1 b2 (by decide +kernel))]
        cases d with
        | str t =>
          show (if w = "call" then _ else decide (w = "begin") && _) = _
          rw [if_neg (g1 b2 (by decide +kernel)), decide_eq_false (g1 b2 (by decide +kernel))]
          rfl
        | _ => rfl
      rw [if_neg b2]
      by_cases b3 : w = "wait"
      · rw [if_pos b3, row2_no d (g1 b3 (by decide +kernel))]
        cases d with
        | str t =>
          show (if w = "call" then _ else decide (w = "begin") && _) = _
          rw [if_neg (g1 b3 (by decide +kernel)), decide_eq_false (g1 b3 (by decide +kernel))]
          rfl
        | _ => rfl
      rw [if_neg b3]
      by_cases b4 : w = "go"
      · rw [if_pos b4]
        unfold row2
        rw [if_pos b4]
        rfl
      · rw [if_neg b4, row2_no d b4]
        cases d <;> rfl
  | [x, d] =>
    have lz : ¬ (PyData.str w :: [x, d]).length = 1 := by simp
    have base : rowP bs titles hands me e (.tuple [.str w, x, d]) = strRow bs w d x := by cases x <;> rfl
    rw [base]
    by_cases b1 : w = "set"
    · have na : ¬ (w = "back" ∨ w = "fault") := fun z => by rcases z with z | z <;> exact g1 b1 (by decide +kernel) z
      rw [if_neg na, if_pos b1]
      cases x with
      | str b =>
        cases d with
        | tuple ss => exact row3_set ss b1
        | int v =>
          show (!decide (w = "set") && _) = _
          rw [decide_eq_true b1]
          rfl
        | _ => rfl
      | _ => rfl
    · have e3 : strRow bs w d x = (decide (w = "wait") && test3 bs [.str w, x, d]) := by
        cases x with
        | str b =>
          show row3 bs w b d = (decide (w = "wait") && inD bs b d)
          rw [row3_no d b1]
          by_cases isI : ∃ v, d = .int v
          · obtain ⟨v, rfl⟩ := isI
            show (decide (w = "wait") && inSize bs b v) = _
            rw [num_in]
          · rw [inD_no (fun v z => isI ⟨v, z⟩), Bool.and_false]
            cases d with
            | int v => exact absurd ⟨v, rfl⟩ isI
            | _ => rfl
        | _ =>
          rw [show test3 bs _ = false from rfl, Bool.and_false]
          rfl
      rw [e3]
      by_cases a : w = "back" ∨ w = "fault"
      · rw [if_pos a, decide_eq_false lz]
        have nw : ¬ w = "wait" := by rcases a with a | a <;> exact g1 a (by decide +kernel)
        rw [decide_eq_false nw]
        rfl
      · rw [if_neg a, if_neg b1]
        by_cases b2 : w = "if"
        · rw [if_pos b2, decide_eq_false (g1 b2 (by decide +kernel))]
          cases x <;> rfl
        · rw [if_neg b2]
          by_cases b3 : w = "wait"
          · rw [if_pos b3, decide_eq_true b3]
            exact Bool.true_and _
          · rw [if_neg b3, decide_eq_false b3]
            split
            · rfl
            · cases x <;> rfl
  | [x, d, f] =>
    have lz : ¬ (PyData.str w :: [x, d, f]).length = 1 := by simp
    have base : rowP bs titles hands me e (.tuple [.str w, x, d, f]) = (decide (w = "if") && test4 bs e [.str w, x, d, f]) := by
      cases x with
      | str b =>
        show row4 bs e w b d f = (decide (w = "if") && (inD bs b d && numD 0 e f))
        by_cases isI : ∃ v, d = .int v
        · obtain ⟨v, rfl⟩ := isI
          cases f with
          | int y =>
            show (decide (w = "if") && (inSize bs b v && (decide (0 ≤ y) && decide (y ≤ e)))) = _
            rw [num_in]
            rfl
          | _ =>
            show false = (decide (w = "if") && (inD bs b (.int v) && false))
            rw [Bool.and_false, Bool.and_false]
        · rw [inD_no (fun v z => isI ⟨v, z⟩), Bool.false_and, Bool.and_false]
          cases d with
          | int v => exact absurd ⟨v, rfl⟩ isI
          | _ => rfl
      | _ => rw [show test4 bs e _ = false from rfl, Bool.and_false]; rfl
    rw [base]
    have l4 : (PyData.str w :: [x, d, f]).length = 4 := rfl
    rw [setP_len (by omega), test3_len (by omega), goP_len (by omega), lastP_len (by omega)]
    by_cases a : w = "back" ∨ w = "fault"
    · rw [if_pos a, decide_eq_false lz]
      have nw : ¬ w = "if" := by rcases a with a | a <;> exact g1 a (by decide +kernel)
      rw [decide_eq_false nw]
      rfl
    · rw [if_neg a]
      by_cases b2 : w = "if"
      · rw [if_neg (g1 b2 (by decide +kernel)), if_pos b2, decide_eq_true b2]
        exact Bool.true_and _
      · rw [decide_eq_false b2, if_neg b2]
        split
        · rfl
        · split
          · rfl
          · split <;> rfl
  | x :: d :: f :: g :: r2 =>
    have l5 : 5 ≤ (PyData.str w :: x :: d :: f :: g :: r2).length := by simp
    rw [setP_len (by omega), test3_len (by omega), test4_len (by omega), goP_len (by omega), lastP_len (by omega), decide_eq_false (show ¬ (PyData.str w :: x :: d :: f :: g :: r2).length = 1 by omega)]
    have base : rowP bs titles hands me e (.tuple (.str w :: x :: d :: f :: g :: r2)) = false := by
      unfold rowP
      split
      · rename_i h; cases h
      · rename_i h; cases h
      · rename_i h; cases h
      · rename_i h; cases h
      · rfl
    rw [base]
    repeat (first | rfl | split)
end PP

set_option maxHeartbeats 4000000
namespace PP
open PySem PySem.Spec PyProof.Rows L2 G3 G4 M0 PA EE QA LC SX
abbrev nLRow : List Str := ["_law_sizes", "_law_titles", "_law_others", "_law_many", "_law_line"]
theorem scLRow : FnScope nLRow ["_law_sizes", "_law_titles", "_law_others", "_law_many", "_law_line"] (defScope s_law_is_row) := ⟨rfl, rfl, rfl, by decide +kernel, rfl, by decide +kernel, by decide +kernel⟩
theorem eqv_nilT (ds : List Dt) : PyData.eqv (.tuple ds) (.tuple []) = ds.isEmpty := by
  cases ds <;> simp [PyData.eqv, PyData.eqvAll]
theorem nilT_shaped : SeqAt.shaped (.tuple []) = true := by decide +kernel
theorem row_not {bs : List Box} {titles hands : List Str} {me : Str} {e : Int} {d : Dt} (h : isTup d = false) : rowP bs titles hands me e d = false := by
  cases d with
  | tuple es => cases h
  | _ => rfl
theorem row_nos {bs : List Box} {titles hands : List Str} {me : Str} {e : Int} {d : Dt} {r : List Dt} (h : isStr d = false) : rowP bs titles hands me e (.tuple (d :: r)) = false := by
  unfold rowP
  split
  · rename_i z; cases z; cases h
  · rename_i z; cases z; cases h
  · rename_i z; cases z; cases h
  · rename_i z; cases z; cases h
  · rfl
theorem in_strs (z : Str) (l : List Str) : inV (.str z) (l.map V.str) = decide (z ∈ l) := by
  rw [Bool.eq_iff_iff, decide_eq_true_eq]
  unfold inV
  rw [List.any_map, List.any_eq_true]
  constructor
  · rintro ⟨x, hx, e⟩
    have e2 : x = z := by simpa [eqV] using e
    exact e2 ▸ hx
  · exact fun h => ⟨z, h, by simp [eqV]⟩
theorem flat_strs (l : List Str) : (l.map V.str).all flatV = true := by
  rw [List.all_map, List.all_eq_true]
  exact fun _ _ => rfl
theorem eq_st {x y : Str} (h : x = y) : decide (V.str x = V.str y) = true := decide_eq_true (congrArg V.str h)
theorem in_two (w a b : Str) : inV (.str w) [.str a, .str b] = (decide (w = a) || decide (w = b)) := by
  have := in_strs w [a, b]
  rw [show [V.str a, V.str b] = [a, b].map V.str from rfl, this, Bool.eq_iff_iff]
  simp
theorem law_bf {bs : List Box} {titles hands : List Str} {me : Str} {e : Int} {w : Str} {ds : List Dt} (h : w = "back" ∨ w = "fault") : lawP bs titles hands me e w ds = decide (ds.length = 1) := by unfold lawP; rw [if_pos h]
section
variable {P : Program} {w : World} {K : PySem.W.Frag} {mg : Str → Option Value} {base : Heap}
def spLRow (K : PySem.W.Frag) : Sp := fun vs H Q _ => ∃ (sz tl ol : Addr) (e : Int) (v : V) (d : Dt) (bs : List Box) (titles others hands : List Str) (me : Str), vs = [.ref sz, .ref tl, .ref ol, .int e, v] ∧ SizesE H sz bs ∧ SqL K H tl (titles.map V.str) ∧ SqL K H ol (others.map V.str) ∧
  (∀ t, t ∈ others ↔ t ≠ me ∧ t ∈ hands) ∧ Dp K H v d ∧ TK d ∧ d.depth ≤ 60 ∧ ∀ H', Same H H' → Q (.bl (rowP bs titles hands me e d)) H'
set_option maxHeartbeats 16000000 in
theorem ok_lrow {f : Addr} {fd : FuncData} {k : Nat} (F : Fun K "_law_is_row" "_law_is_row" s_law_is_row f fd) (DS : Def P w K mg base CX0 (k + 2) "_law_is_set" ["_law_sizes", "_law_line"] (spLSet K)) (DT : Def P w K mg base CX0 (k + 2) "_law_is_test" ["_law_sizes", "_law_line", "_law_many", "_law_size"] (spLTest K)) (DG : Def P w K mg base CX0 (k + 2) "_law_is_go" ["_law_line", "_law_many"] (spLGo K))
    (m_isinstance : mg "isinstance" = none) (m_tuple : mg "tuple" = none) (m_str : mg "str" = none) (m_len : mg "len" = none) (m_int : mg "int" = none) : FnOk P w K mg base CX0 (k + 2 + 1) f fd ["_law_sizes", "_law_titles", "_law_others", "_law_many", "_law_line"] (spLRow K) := by
  refine F.ok scLRow (fun vs H Q E h => ?_) (fun cdv A outer s H vs Q E hr h => ?_)
  · obtain ⟨sz, tl, ol, e, v, d, bs, titles, others, hands, me, rfl, _⟩ := h
    rfl
  obtain ⟨sz, tl, ol, e, v, d, bs, titles, others, hands, me, rfl, hz, htl, hol, hoth, hv, tk, dep, q⟩ := h
  have nd := scLRow.nd
  refine ⟨_, (pss_cons (ps_if (PW.pt (pw_or (pt_not (pt_val (pe_callB call_isi (by rfl) m_isinstance PyProof.Rows.boot_isinstance (pa_cons (pv 4) (pa_cons (pe_bltn (by rfl) m_tuple (u := .type "tuple") (by decide +kernel) (show RelV (.ty "tuple") (.type "tuple") from rfl)) pa_nil))))) (pw_or (pt_cmpR (op_eqD hr.units) (pv 4) (pe_tup pa_nil) (nomark _)) (pw_or1 (pt_not (pt_val (pe_callB call_isi (by rfl) m_isinstance PyProof.Rows.boot_isinstance (pa_cons (pe_ix ix_tup (pv 4) pe_int (fun _ _ => rfl)) (pa_cons (pe_bltn (by rfl) m_str (u := .type "str") (by decide +kernel) (show RelV (.ty "str") (.type "str") from rfl)) pa_nil))))))))) (pss_one (ps_ret pe_bl)) pss_nil)
    (pss_cons (ps_if (pt_cmpR op_in_seq (pe_ix ix_tup (pv 4) pe_int (fun _ _ => rfl)) (pe_lst (pa_cons pe_str (pa_cons pe_str pa_nil))) (by rfl)) (pss_one (ps_ret (pe_cmpR op_eq (pe_callB call_len_seq (by rfl) m_len PySem.boot_len (pa_cons (pv 4) pa_nil)) pe_int (nomark _)))) pss_nil)
    (pss_cons (ps_if (pt_cmpR op_eq (pe_ix ix_tup (pv 4) pe_int (fun _ _ => rfl)) pe_str (nomark _)) (pss_one (ps_ret (pe_call DS.ok hr (by rfl) DS.g DS.kp DS.b .nil pass0 (pa_cons (pv 0) (pa_cons (pv 4) pa_nil))))) pss_nil)
    (pss_cons (ps_if (pt_cmpR op_in_seq (pe_ix ix_tup (pv 4) pe_int (fun _ _ => rfl)) (pe_lst (pa_cons pe_str (pa_cons pe_str pa_nil))) (by rfl)) (pss_one (ps_ret (pe_call DT.ok hr (by rfl) DT.g DT.kp DT.b .nil pass0 (pa_cons (pv 0) (pa_cons (pv 4) (pa_cons (pv 3) (pa_cons (pe_op op_add pe_int (pe_callTy call_int1 (by rfl) m_int (by decide +kernel) (pa_cons (pe_cmpR op_eq (pe_ix ix_tup (pv 4) pe_int (fun _ _ => rfl)) pe_str (nomark _)) pa_nil))) pa_nil))))))) pss_nil)
    (pss_cons (ps_if (pt_cmpR op_eq (pe_ix ix_tup (pv 4) pe_int (fun _ _ => rfl)) pe_str (nomark _)) (pss_one (ps_ret (pe_call DG.ok hr (by rfl) DG.g DG.kp DG.b .nil pass0 (pa_cons (pv 4) (pa_cons (pv 3) pa_nil))))) pss_nil)
    (pss_cons (ps_if (PW.pt (pw_or (pt_cmpR op_ne (pe_callB call_len_seq (by rfl) m_len PySem.boot_len (pa_cons (pv 4) pa_nil)) pe_int (nomark _)) (pw_or1 (pt_not (pt_val (pe_callB call_isi (by rfl) m_isinstance PyProof.Rows.boot_isinstance (pa_cons (pe_ix ix_tup (pv 4) pe_int (fun _ _ => rfl)) (pa_cons (pe_bltn (by rfl) m_str (u := .type "str") (by decide +kernel) (show RelV (.ty "str") (.type "str") from rfl)) pa_nil)))))))) (pss_one (ps_ret pe_bl)) pss_nil)
    (pss_one (ps_ret (pe_or (pe_and (pe_cmpR op_eq (pe_ix ix_tup (pv 4) pe_int (fun _ _ => rfl)) pe_str (nomark _)) (pe_one (pe_cmpR op_in_seq (pe_ix ix_tup (pv 4) pe_int (fun _ _ => rfl)) (pv 1) (by rfl)))) (pe_one (pe_and (pe_cmpR op_eq (pe_ix ix_tup (pv 4) pe_int (fun _ _ => rfl)) pe_str (nomark _)) (pe_one (pe_cmpR op_in_seq (pe_ix ix_tup (pv 4) pe_int (fun _ _ => rfl)) (pv 2) (by rfl)))))))))))))), ?_⟩
  refine ⟨_, rfl, _, _, _, _, _, rfl, .ty "tuple", dp_ty hv, kit_tup K hv, _, rfl, ?_⟩
  by_cases dt : isTup d = true
  rotate_left
  · have q0 := q H (Same.refl _)
    rw [row_not (by simpa using dt)] at q0
    rw [show isTup d = false by simpa using dt]
    exact iteT (iteT q0)
  obtain ⟨ds, rfl⟩ := isT_tup d dt
  refine iteF ⟨_, rfl, Nat.zero_le _, fun u nu => ?_⟩
  have s1 : Same H (upd H u (.tup [])) := same_new nu
  have hu1 : Dp K (upd H u (.tup [])) (.ref u) (.tuple []) := .tup (SqT.of upd_same) .nil
  generalize upd H u (.tup []) = G at s1 hu1 ⊢
  have hvG := dp_same s1 _ _ hv
  have q := fun H' (s : Same G H') => q H' (s1.trans s)
  have hz := hz.same s1
  have htl := s1.seq htl
  have hol := s1.seq hol
  clear s1 hv
  refine ⟨_, _, hvG, hu1, tk.shaped (by omega), nilT_shaped, _, rfl, ?_⟩
  rw [eqv_nilT]
  cases ds with
  | nil =>
    rw [show ([] : List Dt).isEmpty = true from rfl]
    exact iteT (iteT (q G (Same.refl _)))
  | cons d0 r =>
  rw [show (d0 :: r).isEmpty = false from rfl]
  obtain ⟨a, xs, rfl, ha, hall, hxl⟩ := small_of hvG
  cases hall with
  | @cons x0 xr _ _ h0 hall =>
  refine iteF ⟨_, rfl, a, _, 0, _, rfl, rfl, ha, atI_nat (j := 0) rfl, _, _, _, _, _, rfl, .ty "str", dp_ty h0, kit_str K h0, _, rfl, ?_⟩
  by_cases p0 : isStr d0 = true
  rotate_left
  · have q0 := q G (Same.refl _)
    rw [row_nos (by simpa using p0)] at q0
    rw [show isStr d0 = false by simpa using p0]
    exact iteT q0
  obtain ⟨wd, rfl⟩ := isS_str d0 p0
  cases dp_str h0
  rw [row_law] at q
  refine iteF ⟨_, rfl, a, _, 0, _, rfl, rfl, ha, atI_nat (j := 0) rfl, lz2, fun l nl => ?_⟩
  have s1 : Same G (upd G l (.lst [.str "back", .str "fault"])) := same_new nl
  have hl1 : (upd G l (.lst [.str "back", .str "fault"])) l = some (.lst [.str "back", .str "fault"]) := upd_same
  generalize upd G l (.lst [.str "back", .str "fault"]) = G2 at s1 hl1 ⊢
  have ha2 := same_tup s1 ha
  have q := fun H' (s : Same G2 H') => q H' (s1.trans s)
  have hvG := dp_same s1 _ _ hvG
  have hz := hz.same s1
  have htl := s1.seq htl
  have hol := s1.seq hol
  have hall := dpAll_same s1 _ _ hall
  clear s1 ha
  refine ⟨l, _, rfl, .inl (SqL.of hl1), rfl, rfl, _, rfl, ?_⟩
  rw [if_neg Bool.false_ne_true, in_two]
  have hxl : (V.str wd :: xr).length = (PyData.str wd :: r).length := hxl
  by_cases c1 : wd = "back" ∨ wd = "fault"
  · have e1 : (decide (wd = "back") || decide (wd = "fault")) = true := by simpa using c1
    rw [e1]
    refine iteT ⟨_, rfl, a, _, rfl, .inr ha2, rfl, ?_⟩
    have q0 := q G2 (Same.refl _)
    rw [law_bf c1, ← hxl] at q0
    have ee : decide ((V.str wd :: xr).length = 1) = decide (V.int ((V.str wd :: xr).length : Int) = V.int 1) := by
      rw [decide_eq_decide]
      exact ⟨fun z => by rw [z]; rfl, fun z => by have := V.int.inj z; omega⟩
    rw [ee] at q0
    exact q0
  have e1 : (decide (wd = "back") || decide (wd = "fault")) = false := by simpa using c1
  rw [e1]
  refine iteF ⟨_, rfl, a, _, 0, _, rfl, rfl, ha2, atI_nat (j := 0) rfl, rfl, _, rfl, ?_⟩
  unfold lawP at q
  rw [if_neg c1] at q
  by_cases c2 : wd = "set"
  · subst c2
    rw [decide_eq_true rfl]
    rw [if_pos rfl] at q
    exact iteT ⟨_, rfl, _, rfl, sz, _, _, bs, rfl, hz, hvG, tk, dep, q⟩
  rw [ne_st c2]
  rw [if_neg c2] at q
  refine iteF ⟨_, rfl, a, _, 0, _, rfl, rfl, ha2, atI_nat (j := 0) rfl, lz2, fun l2 nl2 => ?_⟩
  have s1 : Same G2 (upd G2 l2 (.lst [.str "if", .str "wait"])) := same_new nl2
  have hl1 : (upd G2 l2 (.lst [.str "if", .str "wait"])) l2 = some (.lst [.str "if", .str "wait"]) := upd_same
  generalize upd G2 l2 (.lst [.str "if", .str "wait"]) = G3' at s1 hl1 ⊢
  have ha3 := same_tup s1 ha2
  have q := fun H' (s : Same G3' H') => q H' (s1.trans s)
  have hvG := dp_same s1 _ _ hvG
  have hz := hz.same s1
  have htl := s1.seq htl
  have hol := s1.seq hol
  have hall := dpAll_same s1 _ _ hall
  clear s1 ha2
  refine ⟨l2, _, rfl, .inl (SqL.of hl1), rfl, rfl, _, rfl, ?_⟩
  rw [if_neg Bool.false_ne_true, in_two]
  have q0 := q G3' (Same.refl _)
  by_cases c3 : wd = "if"
  · subst c3
    rw [decide_eq_true rfl, Bool.true_or]
    rw [if_pos rfl] at q0
    refine iteT ⟨_, rfl, _, rfl, _, rfl, _, rfl, a, _, 0, _, rfl, rfl, ha3, atI_nat (j := 0) rfl, rfl, .inr ⟨_, rfl, ?_⟩⟩
    rw [eq_st rfl]
    exact ⟨_, _, rfl, rfl, sz, _, _, bs, e, _, rfl, hz, hvG, .inr ⟨rfl, q0⟩⟩
  rw [if_neg c3] at q q0
  by_cases c4 : wd = "wait"
  · subst c4
    rw [decide_eq_false c3, decide_eq_true rfl, Bool.false_or]
    rw [if_pos rfl] at q0
    refine iteT ⟨_, rfl, _, rfl, _, rfl, _, rfl, a, _, 0, _, rfl, rfl, ha3, atI_nat (j := 0) rfl, rfl, .inr ⟨_, rfl, ?_⟩⟩
    rw [ne_st c3]
    exact ⟨_, _, rfl, rfl, sz, _, _, bs, e, _, rfl, hz, hvG, .inl ⟨rfl, q0⟩⟩
  rw [decide_eq_false c3, decide_eq_false c4, Bool.false_or]
  rw [if_neg c4] at q q0
  refine iteF ⟨_, rfl, a, _, 0, _, rfl, rfl, ha3, atI_nat (j := 0) rfl, rfl, _, rfl, ?_⟩
  by_cases c5 : wd = "go"
  · subst c5
    rw [decide_eq_true rfl]
    rw [if_pos rfl] at q
    exact iteT ⟨_, rfl, _, rfl, _, _, e, rfl, hvG, tk, dep, q⟩
  rw [ne_st c5]
  rw [if_neg c5] at q q0
  refine iteF ⟨_, rfl, a, _, rfl, .inr ha3, rfl, _, rfl, ?_⟩
  cases r with
  | nil =>
    rw [ne_int (show ((V.str wd :: xr).length : Int) ≠ 2 by rw [hxl]; exact (by decide : ((1 : Nat) : Int) ≠ 2))]
    exact iteT (iteT q0)
  | cons d1 r2 =>
  cases r2 with
  | cons d2 r3 =>
    rw [ne_int (show ((V.str wd :: xr).length : Int) ≠ 2 by rw [hxl]; simp only [List.length_cons]; omega)]
    rw [lastP_len (by simp)] at q0
    exact iteT (iteT q0)
  | nil =>
  cases hall with
  | @cons x1 _ _ _ h1 hall =>
  cases hall
  rw [eq_int (show (([V.str wd, x1] : List V).length : Int) = 2 from rfl)]
  refine iteF ⟨_, rfl, a, _, 1, _, rfl, rfl, ha3, atI_nat (j := 1) rfl, _, _, _, _, _, rfl, .ty "str", dp_ty h1, kit_str K h1, _, rfl, ?_⟩
  by_cases p1 : isStr d1 = true
  rotate_left
  · rw [show isStr d1 = false by simpa using p1]
    rw [show lastP titles hands me wd [.str wd, d1] = false by cases d1 with | str z => exact absurd rfl p1 | _ => rfl] at q0
    exact iteT q0
  obtain ⟨t, rfl⟩ := isS_str d1 p1
  cases dp_str h1
  rw [show lastP titles hands me wd [.str wd, .str t] = row2t titles hands me wd t from rfl] at q0
  unfold row2t at q0
  refine iteF ⟨_, rfl, a, _, 0, _, rfl, rfl, ha3, atI_nat (j := 0) rfl, rfl, _, rfl, ?_⟩
  by_cases c6 : wd = "call"
  · subst c6
    rw [if_pos rfl] at q0
    rw [eq_st rfl]
    refine iteT ⟨_, rfl, a, _, 1, _, rfl, rfl, ha3, atI_nat (j := 1) rfl, _, rfl, tl, _, rfl, .inl htl, rfl, flat_strs _, ?_⟩
    rw [if_neg Bool.false_ne_true, in_strs]
    refine ⟨_, rfl, ?_⟩
    by_cases ct : t ∈ titles
    · rw [decide_eq_true ct] at q0 ⊢
      exact iteT q0
    · rw [decide_eq_false ct] at q0 ⊢
      refine iteF ⟨_, rfl, a, _, 0, _, rfl, rfl, ha3, atI_nat (j := 0) rfl, rfl, _, rfl, ?_⟩
      rw [ne_st (show ("call" : Str) ≠ "begin" by decide +kernel)]
      exact iteF q0
  · rw [if_neg c6] at q0
    rw [ne_st c6]
    refine iteF ⟨_, rfl, ?_⟩
    refine iteF ⟨_, rfl, a, _, 0, _, rfl, rfl, ha3, atI_nat (j := 0) rfl, rfl, _, rfl, ?_⟩
    by_cases c7 : wd = "begin"
    · subst c7
      rw [decide_eq_true rfl, Bool.true_and] at q0
      rw [eq_st rfl]
      refine iteT ⟨_, rfl, a, _, 1, _, rfl, rfl, ha3, atI_nat (j := 1) rfl, _, rfl, ol, _, rfl, .inl hol, rfl, flat_strs _, ?_⟩
      rw [if_neg Bool.false_ne_true, in_strs]
      have eo : decide (t ∈ others) = (!decide (t = me) && decide (t ∈ hands)) := by
        rw [Bool.eq_iff_iff]
        simp [hoth t]
      rw [eo]
      exact q0
    · rw [decide_eq_false c7, Bool.false_and] at q0
      rw [ne_st c7]
      exact iteF q0
end
end PP

set_option maxHeartbeats 4000000
/-! slices of tuples, whatever they are (as in k27's PS) -/
namespace SA
open PySem PySem.Spec PyProof.Rows L2 G3
theorem cut_whole {xs : List V} {lo hi : Option Int} (h : HT.sIx xs.length 0 lo = 0 ∧ HT.sIx xs.length xs.length hi = xs.length) : cutV xs lo hi = xs := by
  unfold cutV
  rw [h.1, h.2, List.drop_zero, Nat.sub_zero, List.take_length]
theorem cut_take {xs : List V} (j : Nat) : cutV xs none (some (j : Int)) = xs.take j := by
  unfold cutV
  rw [HT.sIx_none, HT.sIx_nat, List.drop_zero, Nat.sub_zero, List.take_eq_take_iff]
  omega
theorem cut_drop {xs : List V} (j : Nat) : cutV xs (some (j : Int)) none = xs.drop j := by
  unfold cutV
  rw [HT.sIx_none, HT.sIx_nat]
  by_cases h : j ≤ xs.length
  · rw [Nat.min_eq_left h, List.take_of_length_le (by rw [List.length_drop]; omega)]
  · have e : min j xs.length = xs.length := by omega
    rw [e, List.drop_length, List.take_nil, List.drop_eq_nil_of_le (by omega)]
theorem sl_any {K : PySem.W.Frag} {G : Hp} {a : Addr} {xs : List V} {lo hi : Option Int} {T : VK} (h : SqT K G a xs) (go : ∀ c G', SqT K G' c (cutV xs lo hi) → Same G G' → T (.ref c) G') : rSlA K (.ref a) lo hi G T := by
  refine ⟨a, xs, rfl, h, fun z => go a G (by rw [cut_whole z]; exact h) (Same.refl G), fun _ q nq => go q _ (SqT.of upd_same) (same_new nq)⟩
end SA

set_option maxHeartbeats 4000000
/-! tuples without a dict of their own: made so; dict(t) of such -/
namespace PT
open PySem PySem.Spec PyProof.Rows L2 G3 M0
def tupO (its : Array Value) : Obj := { cls := .type "tuple", data := .seq its }
/-- a new plain tuple -/
def NewP (H : Hp) (xs : List V) (Q : VK) : Prop := ∀ p o, H p = none → o.dict = none → Q (.ref p) (upd H p (.frz o (.tup xs)))
/-- a plain tuple -/
def PAt (H : Hp) (a : Addr) (xs : List V) : Prop := ∃ o, H a = some (.frz o (.tup xs)) ∧ o.dict = none
theorem PAt.sq {K : PySem.W.Frag} {H : Hp} {a : Addr} {xs : List V} (h : PAt H a xs) : SqT K H a xs := by
  obtain ⟨o, h, _⟩ := h
  exact .inl (.inr ⟨o, h⟩)
theorem PAt.same {H H' : Hp} {a : Addr} {xs : List V} (h : PAt H a xs) (s : Same H H') : PAt H' a xs := by
  obtain ⟨o, h, n⟩ := h
  exact ⟨o, s _ _ h, n⟩
section
variable {X : Cx}
theorem new_inv {pins : List (Addr × Obj)} {σ : L2.St} {H : Hp} {s : Shared} {xs : List V} {its : List Value} (I : Inv X pins σ H s) (z : xs.length ≤ sizeLine) (r : Vals xs its) :
    Inv X pins σ (upd H s.heap.objs.size (.frz (tupO its.toArray) (.tup xs))) { s with heap := s.heap.push (tupO its.toArray) } :=
  I.laid (t' := s.toks) (fun _ _ g => Heap.get?_push_of_some _ g) (Nat.le_refl _) ⟨Heap.get?_push_size _ rfl, z, its, r, IsTup.new _ _⟩
theorem new_end {pins : List (Addr × Obj)} {σ : L2.St} {H : Hp} {s : Shared} {xs : List V} {its : List Value} {Q : VK} (I : Inv X pins σ H s) (z : xs.length ≤ sizeLine) (r : Vals xs its) (q : NewP H xs Q) :
    EP X pins σ Q (.ref s.heap.objs.size) { s with heap := s.heap.push (tupO its.toArray) } := ⟨.ref s.heap.objs.size, _, new_inv I z r, rfl, q _ _ (I.hok.fresh (Nat.le_refl _)) rfl⟩
def tTupP (t : TA) : TE := fun σ H Q => t σ H fun xs G => xs.length ≤ sizeLine ∧ NewP G xs Q
theorem pe_tupP {es : List Expr} {t : TA} {x1 : Nat} {pos : Pos} (h : PA X es t) : PE X (.Tuple es x1 pos) (tTupP t) := by
  refine ⟨fun pins s σ H Q I hyp => wpAny_Tuple_spliced (thn (h.run pos pins s σ H _ I hyp) fun us s1 hh => ?_)⟩
  obtain ⟨xs, G, J, r, z, q⟩ := hh
  exact ⟨by rw [← r.length]; exact z, new_end J z r q⟩
def rSlP (K : PySem.W.Frag) : V → Option Int → Option Int → Hp → VK → Prop := fun x lo hi H Q => ∃ a xs, x = .ref a ∧ SqT K H a xs ∧
  (HT.sIx xs.length 0 lo = 0 ∧ HT.sIx xs.length xs.length hi = xs.length → Q (.ref a) H) ∧ (¬ (HT.sIx xs.length 0 lo = 0 ∧ HT.sIx xs.length xs.length hi = xs.length) → NewP H (cutV xs lo hi) Q)
theorem sl_tupP : SlR X (rSlP X.K) := by
  intro pins s σ H x v vl vu lo hi sl Q I rx hs pl pu hyp
  obtain ⟨a, xs, rfl, hx, q1, q2⟩ := hyp
  by_cases hw : HT.sIx xs.length 0 lo = 0 ∧ HT.sIx xs.length xs.length hi = xs.length
  · exact sl_tupA pins s σ H _ v vl vu lo hi sl Q I rx hs pl pu ⟨a, xs, rfl, hx, q1, fun z => absurd hw z⟩
  · cases rx
    obtain ⟨its, r, ht, hz⟩ := I.tuple hx
    have sz : its.toArray.size = xs.length := by rw [List.size_toArray, ← r.length]
    refine ⟨"tuple", _, PyProof.Rows.slot_tuple_getitem.lookup, ht.typeIs, HT.getItem_tuple_cut ht hs pl pu (by rw [sz]; exact hw) ?_ (by rw [sz]; exact hz)⟩
    rw [sz]
    exact new_end I (Nat.le_trans (cutV_length xs lo hi) hz) ((r.drop (HT.sIx xs.length 0 lo)).take (HT.sIx xs.length xs.length hi - HT.sIx xs.length 0 lo)) (q2 hw)
def rCatP (K : PySem.W.Frag) : R2 := fun x y H Q => ∃ a b xs ys, x = .ref a ∧ y = .ref b ∧ SqT K H a xs ∧ SqT K H b ys ∧ xs.length + ys.length ≤ sizeLine ∧
  (xs = [] → Q (.ref b) H) ∧ (xs ≠ [] → ys = [] → Q (.ref a) H) ∧ (xs ≠ [] → ys ≠ [] → NewP H (xs ++ ys) Q)
theorem op_catP : OpR X (binaryOp .Add) (rCatP X.K) := by
  intro pins s σ H x y v u Q I rx ry hyp
  obtain ⟨a, b, xs, ys, rfl, rfl, ha, hb, hz, q0, q1, q2⟩ := hyp
  by_cases hx : xs = []
  · exact op_catA pins s σ H _ _ v u Q I rx ry ⟨a, b, xs, ys, rfl, rfl, ha, hb, hz, q0, q1, fun z => absurd hx z⟩
  by_cases hy : ys = []
  · exact op_catA pins s σ H _ _ v u Q I rx ry ⟨a, b, xs, ys, rfl, rfl, ha, hb, hz, q0, q1, fun _ z => absurd hy z⟩
  cases rx
  cases ry
  obtain ⟨it1, r1, p1, _⟩ := I.tuple ha
  obtain ⟨it2, r2, p2, _⟩ := I.tuple hb
  exact HT.cat_tup p1 p2 (fun z => hx (r1.nil_iff.mp z)) (fun z => absurd (r2.nil_iff.mp z) hy) (fun _ => new_end I (by rw [List.length_append]; exact hz) (r1.append r2) (q2 hx hy)) (by rw [← r1.length, ← r2.length]; exact hz)
/-- tuple(xs) of a list; tuple(t) -/
theorem call_tupP : CallR X (.type "tuple") (fun xs H Q => ∃ p ys, xs = [.ref p] ∧ ((SqL X.K H p ys ∧ NewP H ys Q) ∨ (SqT X.K H p ys ∧ Q (.ref p) H))) := by
  intro pins s σ H xs us Q I r hyp
  obtain ⟨p, ys, rfl, ⟨hq, q⟩ | h2⟩ := hyp
  · obtain ⟨u, rfl, rx⟩ := vals1 r
    cases rx
    obtain ⟨its, r2, pl, hz⟩ := I.list hq
    have ln := r2.length
    refine call_tuple_list pl.isList (fun h' kp => ?_) (by simp only [List.size_toArray] <;> omega)
    exact new_end (s := { s with heap := h' }) (I.kept (t' := s.toks) kp) hz r2 q
  · exact call_tuple_of pins s σ H _ us Q I r ⟨p, ys, rfl, .inr h2⟩
/-- tuple * number -/
def rRepP (K : PySem.W.Frag) : R2 := fun x y H Q => ∃ l n xs, x = .ref l ∧ y = .int (n : Nat) ∧ SqT K H l xs ∧ xs ≠ [] ∧ n ≤ 1000000 ∧ xs.length * n ≤ 1000000 ∧ xs.length ≤ 1000 ∧
  (n = 1 → Q (.ref l) H) ∧ (n ≠ 1 → NewP H (List.replicate n xs).flatten Q)
theorem op_repP : OpR X (binaryOp .Mult) (rRepP X.K) := by
  intro pins s σ H x y v u Q I rx ry hyp
  obtain ⟨l, n, xs, rfl, rfl, hT, hne, hn, hz, hl, q1, q2⟩ := hyp
  by_cases e1 : n = 1
  · subst e1
    exact TM.op_rep01 pins s σ H _ _ v u Q I rx ry ⟨l, _, xs, rfl, rfl, hT, hne, .inl ⟨rfl, q1 rfl⟩⟩
  cases rx
  obtain ⟨t, rfl⟩ := ry
  obtain ⟨its, r, ⟨⟨cls, dd, data, sl⟩, ho, hc, k, hd⟩, hs⟩ := I.tuple hT
  simp only at hc hd
  subst hc hd
  have ln : its.length = xs.length := r.length.symm
  have emp : its.toArray.isEmpty = false := by
    cases its with
    | nil => exact absurd (List.eq_nil_of_length_eq_zero ln.symm) hne
    | cons _ _ => rfl
  refine wpAny_binaryOp_repeat_ref (T := "tuple") (U := "int") (by decide) ⟨_, ho, rfl⟩ (fun s' => typeIs_int s' _ t) noFill_tuple_mul F.fills_int_mul F.slot_int_rmul repeat_tuple F.slot_int_index.lookup
    (call_meets F.slot_int_rmul (typeIs_int s _ t) F.entry_int_rmul (F.args_int_rmul_2 _ _) (int_rmul_tuple _ t l its.toArray k dd sl) ⟨ho, rfl, ⟨_, ho, rfl⟩, ?_⟩)
  by_cases e0 : n = 0
  · subst e0
    refine call_meets F.slot_tuple_mul ⟨_, ho, rfl⟩ F.entry_tuple_mul (F.args_tuple_mul_2 _ _) (TM.mul_nought l its.toArray k dd sl t (by rw [emp]; rfl)) ⟨ho, ?_⟩
    exact new_end (its := []) I (Nat.zero_le _) .nil (q2 (by decide))
  · have fl : (List.replicate n its).flatten.length ≤ sizeLine := by
      rw [PyProof.Rows.lm_len_rep_flat, ln, sizeLine_eq]
      have c : xs.length * n = n * xs.length := Nat.mul_comm _ _
      omega
    have sz : its.toArray.size = xs.length := by rw [List.size_toArray, ln]
    have pm : ((its.toArray.size : Nat) : Int) * (n : Int) ≤ 1000000 := by
      rw [sz, ← Int.natCast_mul]
      exact Int.ofNat_le.mpr hz
    refine call_meets F.slot_tuple_mul ⟨_, ho, rfl⟩ F.entry_tuple_mul (F.args_tuple_mul_2 _ _) (tuple_mulW l its.toArray k dd sl (n : Int) t (by rw [decide_eq_false (by omega), decide_eq_false (by omega)] <;> rfl)
      (by rw [emp, Bool.false_or]; exact beq_eq_false_iff_ne.mpr (by omega)) (by rw [emp, Bool.or_false]; exact decide_eq_false (by omega)) (by omega) (by unfold Builtin.Tuple.tupleTooMany; rw [sizeLine_eq]; exact decide_eq_false (by omega))
      (by rw [size_rep, List.size_toArray, Int.toNat_natCast]; exact fl)) ⟨ho, ?_⟩
    rw [size_rep, Int.toNat_natCast]
    refine new_end I ?_ (r.rep n) (q2 e1)
    rw [PyProof.Rows.lm_len_rep_flat, sizeLine_eq]
    have c : xs.length * n = n * xs.length := Nat.mul_comm _ _
    omega
/-- dict(t), t a plain tuple of pairs -/
def rDictT (K : PySem.W.Frag) : List V → Hp → VK → Prop := fun xs H Q => ∃ (a : Addr) (ps : List Addr) (kvs : List (Key × V)), xs = [.ref a] ∧ PAt H a (ps.map V.ref) ∧ Paired (fun p kv => SqT K H p [kV kv.1, kv.2]) ps kvs ∧
    ∀ p, H p = none → Q (.ref p) (upd H p (.dK (mergeK [] kvs)))
theorem cr_dictT (hcalm : X.calm = true) : CallR X (.type "dict") (rDictT X.K) := by
  intro pins s σ H xs us Q I r hyp
  obtain ⟨a, ps, kvs, rfl, ⟨ob, hq, dn⟩, hp, q⟩ := hyp
  obtain ⟨u, rfl, rx⟩ := vals1 r
  cases rx
  obtain ⟨ho, hz, its, rv, hI⟩ := (show ObjOk X.prog X.w H s.heap a (.frz ob (.tup (ps.map V.ref))) from I.hok a _ hq)
  have ei := refs_at rv
  subst ei
  rw [List.length_map] at hz
  obtain ⟨prs, rel, hl, hpr⟩ := pairs_of I hp
  -- the pairs with their keys as values
  have keyv : ∀ (j : Nat) (b : Key × Value), prs[j]? = some b → ∃ (c : Addr) (w : Value), ps[j]? = some c ∧ IsTup s.heap c #[w, b.2] ∧ keyIs b.1 w = true := hpr
  obtain ⟨ws, wl, wat⟩ : ∃ ws : List (Value × Value), ws.length = prs.length ∧ ∀ (j : Nat) (k v : Value), ws[j]? = some (k, v) → ∃ (c : Addr) (b : Key × Value), ps[j]? = some c ∧ prs[j]? = some b ∧ b.2 = v ∧ IsTup s.heap c #[k, v] ∧ keyIs b.1 k = true := by
    have : ∀ (m : Nat), m ≤ prs.length → ∃ ws : List (Value × Value), ws.length = m ∧ ∀ (j : Nat) (k v : Value), ws[j]? = some (k, v) → ∃ (c : Addr) (b : Key × Value), ps[j]? = some c ∧ prs[j]? = some b ∧ b.2 = v ∧ IsTup s.heap c #[k, v] ∧ keyIs b.1 k = true := by
      intro m
      induction m with
      | zero => exact fun _ => ⟨[], rfl, fun j k v e => by simp at e⟩
      | succ m ih =>
        intro hm
        obtain ⟨ws, w1, w2⟩ := ih (by omega)
        have e1 : prs[m]? = some prs[m] := List.getElem?_eq_getElem (by omega)
        obtain ⟨c, w, c1, c2, c3⟩ := keyv m _ e1
        refine ⟨ws ++ [(w, prs[m].2)], by rw [List.length_append, w1]; rfl, fun j k v e => ?_⟩
        rcases Nat.lt_or_ge j ws.length with z | z
        · rw [List.getElem?_append_left z] at e
          exact w2 j k v e
        · rw [List.getElem?_append_right z] at e
          have z2 : j - ws.length = 0 := by
            rcases Nat.eq_zero_or_pos (j - ws.length) with q | q
            · exact q
            · rw [List.getElem?_eq_none (by simp; omega)] at e
              cases e
          rw [z2] at e
          cases e
          have : j = m := by omega
          subst this
          exact ⟨c, _, c1, e1, rfl, c2, c3⟩
    obtain ⟨ws, w1, w2⟩ := this prs.length (Nat.le_refl _)
    exact ⟨ws, w1, w2⟩
  obtain ⟨o1, ho1, hc1, n1, hd1⟩ := hI
  rw [ho] at ho1
  cases ho1
  have ok : PlainSeq "tuple" s.heap a (ps.map Value.ref).toArray ∧ PairItems s.heap (ps.map Value.ref).toArray (fun j => (ps[j]?).getD 0) ws := by
    refine ⟨⟨ob, n1, ho, hc1, dn, hd1⟩, ?_, fun j k v e => ?_⟩
    · rw [List.size_toArray, List.length_map]; omega
    · obtain ⟨c, b, g1, g2, g3, g4, g5⟩ := wat j k v e
      refine ⟨?_, .inl ?_⟩
      · rw [List.getElem?_toArray, List.getElem?_map]
        show Option.map Value.ref ps[j]? = some (Value.ref ((ps[j]?).getD 0))
        rw [g1]
        rfl
      · show s.heap.IsTuple ((ps[j]?).getD 0) #[k, v]
        rw [g1]
        exact g4
  have hv : PairsHave (mixKind X.prog X.w) ws.length (PairRel ws) prs := ⟨wl.symm, fun i k v e => by
    obtain ⟨c, b, g1, g2, g3, g4, g5⟩ := wat i k v e
    subst g3
    exact ⟨b.1, g2, g5⟩⟩
  refine PySem.call_dict_pairs (PairArg.tuple (prog := X.prog) (w := X.w) a (ps.map Value.ref).toArray (fun j => (ps[j]?).getD 0) ws) (I.ok.hd hcalm) ok hv (by omega) fun h' tk hd' k => ?_
  have hm : (s.heap.objs.size == sysModules) = false := beq_eq_false_iff_ne.mpr (Nat.ne_of_gt I.big)
  have hlen : (mergeK [] kvs).length ≤ sizeLine := by
    refine Nat.le_trans (length_mergeK kvs []) ?_
    rw [List.length_nil, Nat.zero_add, rel.length, hl]
    exact hz
  exact ⟨.ref s.heap.objs.size, _, I.laid (t' := tk) (o := .dK (mergeK [] kvs)) (fun b o e => k b o (by simp) e) (Nat.le_refl _) ⟨hlen, hm, merged [] prs, KV.merge rel .nil, hd'⟩, rfl, q _ (I.hok.fresh (Nat.le_refl _))⟩
end
/-! data whose tuples are plain so many levels down -/
mutual
inductive Dq (K : PySem.W.Frag) (H : Hp) : Nat → V → PyData → Prop where
  | any {v : V} {d : PyData} (h : Dp K H v d) : Dq K H 0 v d
  | non (n : Nat) : Dq K H n .non .none
  | bl (n : Nat) (b : Bool) : Dq K H n (.bl b) (.bool b)
  | int (n : Nat) (i : Int) : Dq K H n (.int i) (.int i)
  | str (n : Nat) (z : Str) : Dq K H n (.str z) (.str z)
  | lst {n : Nat} {a : Addr} {xs : List V} {ds : List PyData} (h : SqL K H a xs) (t : DqAll K H n xs ds) : Dq K H (n + 1) (.ref a) (.list ds)
  | tup {n : Nat} {a : Addr} {xs : List V} {ds : List PyData} (h : PAt H a xs) (t : DqAll K H n xs ds) : Dq K H (n + 1) (.ref a) (.tuple ds)
inductive DqAll (K : PySem.W.Frag) (H : Hp) : Nat → List V → List PyData → Prop where
  | nil (n : Nat) : DqAll K H n [] []
  | cons {n : Nat} {v : V} {d : PyData} {vs : List V} {ds : List PyData} (h : Dq K H n v d) (t : DqAll K H n vs ds) : DqAll K H n (v :: vs) (d :: ds)
end
mutual
theorem dq_dp {K : PySem.W.Frag} {H : Hp} : ∀ (d : PyData) {n : Nat} (v : V), Dq K H n v d → Dp K H v d
  | .none, _, _, h => by cases h with | any h => exact h | non => exact .non
  | .bool _, _, _, h => by cases h with | any h => exact h | bl => exact .bl _
  | .int _, _, _, h => by cases h with | any h => exact h | int => exact .int _
  | .str _, _, _, h => by cases h with | any h => exact h | str => exact .str _
  | .list ds, _, _, h => by
    cases h with
    | any h => exact h
    | lst hs ha => exact .lst hs (dqAll_dp ds _ ha)
  | .tuple ds, _, _, h => by
    cases h with
    | any h => exact h
    | tup hs ha => exact .tup hs.sq (dqAll_dp ds _ ha)
  | .dict _, _, _, h => by cases h with | any h => exact h
theorem dqAll_dp {K : PySem.W.Frag} {H : Hp} : ∀ (ds : List PyData) {n : Nat} (vs : List V), DqAll K H n vs ds → DpAll K H vs ds
  | [], _, _, h => by cases h; exact .nil
  | d :: ds, _, _, h => by
    cases h with
    | cons h1 h2 => exact .cons (dq_dp d _ h1) (dqAll_dp ds _ h2)
end
mutual
theorem dq_same {K : PySem.W.Frag} {H H' : Hp} (e : Same H H') : ∀ (d : PyData) {n : Nat} (v : V), Dq K H n v d → Dq K H' n v d
  | .none, _, _, h => by cases h with | any h => exact .any (dp_same e _ _ h) | non => exact .non _
  | .bool _, _, _, h => by cases h with | any h => exact .any (dp_same e _ _ h) | bl => exact .bl _ _
  | .int _, _, _, h => by cases h with | any h => exact .any (dp_same e _ _ h) | int => exact .int _ _
  | .str _, _, _, h => by cases h with | any h => exact .any (dp_same e _ _ h) | str => exact .str _ _
  | .list ds, _, _, h => by
    cases h with
    | any h => exact .any (dp_same e _ _ h)
    | lst hs ha => exact .lst (e.seq hs) (dqAll_same e ds _ ha)
  | .tuple ds, _, _, h => by
    cases h with
    | any h => exact .any (dp_same e _ _ h)
    | tup hs ha => exact .tup (hs.same e) (dqAll_same e ds _ ha)
  | .dict _, _, _, h => by cases h with | any h => exact .any (dp_same e _ _ h)
theorem dqAll_same {K : PySem.W.Frag} {H H' : Hp} (e : Same H H') : ∀ (ds : List PyData) {n : Nat} (vs : List V), DqAll K H n vs ds → DqAll K H' n vs ds
  | [], _, _, h => by cases h; exact .nil _
  | d :: ds, _, _, h => by
    cases h with
    | cons h1 h2 => exact .cons (dq_same e d _ h1) (dqAll_same e ds _ h2)
end
mutual
theorem dq_less {K : PySem.W.Frag} {H : Hp} : ∀ (d : PyData) {n : Nat} (v : V), Dq K H (n + 1) v d → Dq K H n v d
  | .none, _, _, h => by cases h; exact .non _
  | .bool _, _, _, h => by cases h; exact .bl _ _
  | .int _, _, _, h => by cases h; exact .int _ _
  | .str _, _, _, h => by cases h; exact .str _ _
  | .list ds, 0, _, h => .any (dq_dp _ _ h)
  | .list ds, n + 1, _, h => by
    cases h with
    | lst hs ha => exact .lst hs (dqAll_less ds _ ha)
  | .tuple ds, 0, _, h => .any (dq_dp _ _ h)
  | .tuple ds, n + 1, _, h => by
    cases h with
    | tup hs ha => exact .tup hs (dqAll_less ds _ ha)
  | .dict _, _, _, h => by cases h
theorem dqAll_less {K : PySem.W.Frag} {H : Hp} : ∀ (ds : List PyData) {n : Nat} (vs : List V), DqAll K H (n + 1) vs ds → DqAll K H n vs ds
  | [], _, _, h => by cases h; exact .nil _
  | d :: ds, _, _, h => by
    cases h with
    | cons h1 h2 => exact .cons (dq_less d _ h1) (dqAll_less ds _ h2)
end
theorem dqAll_any {K : PySem.W.Frag} {H : Hp} : ∀ {vs : List V} {ds : List PyData}, DpAll K H vs ds → DqAll K H 0 vs ds
  | _, _, .nil => .nil _
  | _, _, .cons h t => .cons (.any h) (dqAll_any t)
theorem dqAll_len {K : PySem.W.Frag} {H : Hp} {n : Nat} {vs : List V} {ds : List PyData} (h : DqAll K H n vs ds) : vs.length = ds.length := dpAll_len (dqAll_dp _ _ h)
theorem dqAll_get {K : PySem.W.Frag} {H : Hp} {n : Nat} : ∀ {vs : List V} {ds : List PyData} {i : Nat} {v : V}, DqAll K H n vs ds → vs[i]? = some v → ∃ d, ds[i]? = some d ∧ Dq K H n v d
  | _, _, _, _, .nil _, e => by simp at e
  | _, _, 0, _, .cons h _, e => by
    simp only [List.getElem?_cons_zero, Option.some.injEq] at e
    subst e
    exact ⟨_, rfl, h⟩
  | _, _, i + 1, _, .cons _ t, e => by
    simp only [List.getElem?_cons_succ] at e
    obtain ⟨d, h1, h2⟩ := dqAll_get t e
    exact ⟨d, h1, h2⟩
theorem dqAll_getD {K : PySem.W.Frag} {H : Hp} {n : Nat} : ∀ {vs : List V} {ds : List PyData} {i : Nat} {d : PyData}, DqAll K H n vs ds → ds[i]? = some d → ∃ v, vs[i]? = some v ∧ Dq K H n v d
  | _, _, _, _, .nil _, e => by simp at e
  | _, _, 0, _, .cons h _, e => by
    simp only [List.getElem?_cons_zero, Option.some.injEq] at e
    subst e
    exact ⟨_, rfl, h⟩
  | _, _, i + 1, _, .cons _ t, e => by
    simp only [List.getElem?_cons_succ] at e
    obtain ⟨d, h1, h2⟩ := dqAll_getD t e
    exact ⟨d, h1, h2⟩
theorem dqAll_app {K : PySem.W.Frag} {H : Hp} {n : Nat} : ∀ {vs ws : List V} {ds es : List PyData}, DqAll K H n vs ds → DqAll K H n ws es → DqAll K H n (vs ++ ws) (ds ++ es)
  | _, _, _, _, .nil _, h => h
  | _, _, _, _, .cons h t, g => .cons h (dqAll_app t g)
theorem dqAll_take {K : PySem.W.Frag} {H : Hp} {m : Nat} : ∀ {vs : List V} {ds : List PyData} (n : Nat), DqAll K H m vs ds → DqAll K H m (vs.take n) (ds.take n)
  | _, _, 0, _ => by simp only [List.take_zero]; exact .nil _
  | _, _, _ + 1, .nil _ => by simp only [List.take_nil]; exact .nil _
  | _, _, n + 1, .cons h t => by simp only [List.take_succ_cons]; exact .cons h (dqAll_take n t)
theorem dqAll_drop {K : PySem.W.Frag} {H : Hp} {m : Nat} : ∀ {vs : List V} {ds : List PyData} (n : Nat), DqAll K H m vs ds → DqAll K H m (vs.drop n) (ds.drop n)
  | _, _, 0, h => h
  | _, _, _ + 1, .nil _ => by simp only [List.drop_nil]; exact .nil _
  | _, _, n + 1, .cons _ t => by simp only [List.drop_succ_cons]; exact dqAll_drop n t
theorem dq_tup {K : PySem.W.Frag} {H : Hp} {n : Nat} {v : V} {ds : List PyData} (h : Dq K H (n + 1) v (.tuple ds)) : ∃ a xs, v = .ref a ∧ PAt H a xs ∧ DqAll K H n xs ds ∧ xs.length = ds.length := by
  cases h with
  | @tup _ a xs _ hs ha => exact ⟨a, xs, rfl, hs, ha, dqAll_len ha⟩
theorem dq_str {K : PySem.W.Frag} {H : Hp} {n : Nat} {v : V} {z : Str} (h : Dq K H n v (.str z)) : v = .str z := by
  have := dq_dp _ _ h
  cases this
  rfl
theorem dq_int {K : PySem.W.Frag} {H : Hp} {n : Nat} {v : V} {i : Int} (h : Dq K H n v (.int i)) : v = .int i := by
  have := dq_dp _ _ h
  cases this
  rfl
end PT

set_option maxHeartbeats 4000000
namespace PP
open PySem PySem.Spec PyProof.Rows L2 G3 G4 M0 PA EE QA LC SX PT
/-! a comprehension that picks, told by place -/
def picked (l : List (Bool × V)) : List V := (l.filter (·.1)).map (·.2)
theorem picked_snoc (l : List (Bool × V)) (b : Bool) (y : V) : picked (l ++ [(b, y)]) = picked l ++ (if b = true then [y] else []) := by
  unfold picked
  rw [List.filter_append, List.map_append]
  cases b <;> rfl
theorem picked_len (l : List (Bool × V)) : (picked l).length ≤ l.length := by
  unfold picked
  rw [List.length_map]
  exact List.length_filter_le _ _
section
variable {J : It} {G : Hp → Prop} {xs : List V} {g : TG} {tt : TT} {te : TE} {vs : List Nat} {σ : L2.St} {H1 : Hp} {D : Addr} {Qd : Hp → Prop}
theorem lc_pick (w : Walk J xs.length G (YAt xs)) (hG : ∀ H, Same H1 H → G H) (len : xs.length ≤ 100000) (nD : H1 D = none) (ps : List (Bool × V)) (hl : ps.length = xs.length)
    (turn : ∀ (i : Nat) (x : V) (b : Bool) (y : V) (H : Hp) (R : L2.St → Bool → Hp → Prop), xs[i]? = some x → ps[i]? = some (b, y) → Same H1 H → (∀ σ2 H', Same H H' → (b = true → ∀ Q' : VK, (∀ H'', Same H' H'' → Q' y H'') → te σ2 H' Q') → R σ2 b H') →
      g x (wipe σ vs) H fun σ2 H2 => wipe σ2 vs = wipe σ vs ∧ tt σ2 H2 (R σ2))
    (fin : ∀ H', Same H1 H' → H' D = some (.lst (picked ps)) → Qd H') :
    ∃ W : Nat → Nat → Hp → Prop, (∃ m, W 0 m (upd H1 D (.lst []))) ∧ ∀ i m H, W i m H →
      (J.stop i H ∧ Qd H) ∨ (J.go i H ∧ ∃ Nx : Hp → Prop, (∀ H', Nx H' → ∃ m', m' < m ∧ W (i + 1) m' H') ∧ ∀ x H', J.yld i H x H' → g x (wipe σ vs) H' fun σ2 H2 => wipe σ2 vs = wipe σ vs ∧ tt σ2 H2 fun b H3 =>
        if b = true then te σ2 H3 fun y H4 => ∃ acc, H4 D = some (.lst acc) ∧ acc.length < sizeLine ∧ Nx (upd H4 D (.lst (acc ++ [y]))) else Nx H3) := by
  refine lc_it w (fun i H => Same H1 H ∧ H D = some (.lst (picked (ps.take i)))) ⟨same_new nD, upd_same⟩ (fun i H _ h => hG H h.1) (fun i x H H' hi h yy => ?_) (fun H h => fin H h.1 ?_)
  · obtain ⟨rfl, ex⟩ := yy
    obtain ⟨s1, hD⟩ := h
    have hp : ps[i]? = some ps[i] := List.getElem?_eq_getElem (by omega)
    have tk : ps.take (i + 1) = ps.take i ++ [(ps[i].1, ps[i].2)] := by rw [List.take_add_one, hp]; rfl
    refine turn i x ps[i].1 ps[i].2 H' (fun σ2 b H3 => if b = true then te σ2 H3 fun y H4 => ∃ acc, H4 D = some (.lst acc) ∧ acc.length < sizeLine ∧ (Same H1 (upd H4 D (.lst (acc ++ [y]))) ∧ (upd H4 D (.lst (acc ++ [y]))) D = some (.lst (picked (ps.take (i + 1)))))
      else Same H1 H3 ∧ H3 D = some (.lst (picked (ps.take (i + 1))))) ex hp s1 (fun σ2 H5 s t => ?_)
    refine ite2 (fun e1 => ?_) (fun e1 => ?_)
    · refine t e1 _ fun H6 s6 => ⟨_, s6 _ _ (s _ _ hD), ?_, same_put ((s1.trans s).trans s6) nD, ?_⟩
      · have z := picked_len (ps.take i)
        rw [List.length_take] at z
        exact LC.small_line (by omega)
      · rw [upd_same, tk, picked_snoc, if_pos e1]
    · refine ⟨s1.trans s, ?_⟩
      rw [tk, picked_snoc, if_neg e1, List.append_nil]
      exact s _ _ hD
  · have e : ps.take xs.length = ps := List.take_of_length_le (by omega)
    rw [e] at h
    exact h.2
end
/-! dict(boxes) -/
theorem merge_new : ∀ (more kvs : List (Key × V)), (more.map (·.1)).Nodup → (∀ p ∈ more, valV kvs p.1 = none) → mergeK kvs more = kvs ++ more
  | [], kvs, _, _ => (List.append_nil _).symm
  | p :: r, kvs, nd, h => by
    obtain ⟨n1, n2⟩ := List.nodup_cons.mp nd
    show mergeK (putK kvs p.1 p.2) r = _
    rw [putK_new p.2 (h p List.mem_cons_self), merge_new r _ n2 fun q hq => ?_, List.append_assoc]
    · rfl
    · have a : valV kvs q.1 = none := h q (List.mem_cons_of_mem _ hq)
      have ne : ¬ p.1 = q.1 := fun z => n1 (List.mem_map.mpr ⟨q, hq, z.symm⟩)
      have b := valV_any (kvs := kvs ++ [p]) (k := q.1)
      rw [List.any_append, valV_any, a] at b
      have c : [p].any (fun kv => decide (kv.1 = q.1)) = false := by
        rw [List.any_cons, List.any_nil, decide_eq_false ne]
        rfl
      rw [c] at b
      exact Option.isNone_iff_eq_none.mp (by rw [← Option.not_isSome, ← b]; rfl)
theorem merge_boxes {bs : List Box} (nd : (bs.map (·.1)).Nodup) : mergeK [] (bs.map boxK) = bs.map boxK := by
  rw [merge_new (bs.map boxK) [] ?_ fun p hp => rfl]
  · rfl
  · rw [List.map_map]
    have e : ((·.1) ∘ boxK) = fun b : Box => (Sum.inr b.1 : Key) := rfl
    rw [e]
    have e2 : bs.map (fun b : Box => (Sum.inr b.1 : Key)) = (bs.map (·.1)).map Sum.inr := by rw [List.map_map]; rfl
    rw [e2]
    exact List.Pairwise.map _ (fun a b h z => h (Sum.inr.inj z)) nd
/-- boxes that dict() takes -/
structure Pairs (K : PySem.W.Frag) (H : Hp) (v : V) (bs : List Box) : Prop where
  ex : ∃ va ps, v = .ref va ∧ PAt H va (ps.map V.ref) ∧ Paired (fun p kv => SqT K H p [kV kv.1, kv.2]) ps (bs.map boxK)
theorem paired_same {K : PySem.W.Frag} {H H' : Hp} (s : Same H H') : ∀ {ps : List Addr} {kvs : List (Key × V)}, Paired (fun p kv => SqT K H p [kV kv.1, kv.2]) ps kvs → Paired (fun p kv => SqT K H' p [kV kv.1, kv.2]) ps kvs
  | _, _, .nil => .nil
  | _, _, .cons h t => .cons (same_tup s h) (paired_same s t)
theorem Pairs.same {K : PySem.W.Frag} {H H' : Hp} {v : V} {bs : List Box} (h : Pairs K H v bs) (s : Same H H') : Pairs K H' v bs := by
  obtain ⟨va, ps, rfl, h1, h2⟩ := h
  exact ⟨va, ps, rfl, h1.same s, paired_same s h2⟩
theorem pairs_all {K : PySem.W.Frag} {H : Hp} : ∀ (bs : List Box) (xs : List V), DpAll K H xs (bs.map boxD) → ∃ ps, xs = ps.map V.ref ∧ Paired (fun p kv => SqT K H p [kV kv.1, kv.2]) ps (bs.map boxK)
  | [], _, h => by
    cases h
    exact ⟨[], rfl, .nil⟩
  | b :: r, _, h => by
    cases h with
    | cons h1 h2 =>
      obtain ⟨ps, rfl, pr⟩ := pairs_all r _ h2
      obtain ⟨a, x, y, rfl, ha, g1, g2⟩ := dp2 (d := .str b.1) (e := .int b.2) h1
      cases dp_str g1
      cases dp_int g2
      exact ⟨a :: ps, rfl, .cons ha pr⟩
theorem pairs_of_boxes {K : PySem.W.Frag} {H : Hp} {n : Nat} {v : V} {bs : List Box} (h : Dq K H (n + 1) v (.tuple (bs.map boxD))) : Pairs K H v bs := by
  obtain ⟨a, xs, rfl, ha, hall, _⟩ := dq_tup h
  obtain ⟨ps, rfl, pr⟩ := pairs_all bs xs (dqAll_dp _ _ hall)
  exact ⟨a, ps, rfl, ha, pr⟩
theorem boxes_data {most : Nat} {gr : Int} {seen : List Str} {d : Dt} {bs : List Box} (e : boxesP most gr seen d = some bs) : d = .tuple (bs.map boxD) ∧ (bs.map (·.1)).Nodup ∧ (∀ b ∈ bs, ¬ b.1 ∈ seen) ∧ bs.length ≤ most := by
  have hl := boxes_len e
  unfold boxesP at e
  split at e
  · split at e
    · rename_i ds _
      obtain ⟨a1, a2, a3⟩ := (scan_iff ds seen bs).mp e
      obtain ⟨l, at0⟩ := allB_len ds bs a1
      refine ⟨?_, a2, a3, hl⟩
      congr 1
      refine List.ext_getElem? fun i => ?_
      rw [List.getElem?_map]
      rcases Nat.lt_or_ge i ds.length with z | z
      · obtain ⟨b, hb, hd, _⟩ := at0 i ds[i] (List.getElem?_eq_getElem z)
        rw [hb, List.getElem?_eq_getElem z, hd]
        rfl
      · rw [List.getElem?_eq_none z, List.getElem?_eq_none (by omega)]
        rfl
    · cases e
  · cases e
theorem boxes_seen {most : Nat} {gr : Int} {seen : List Str} {d : Dt} {l : List Box} (e : boxesP most gr seen d = some l) : boxesP most gr [] d = some l := by
  cases d with
  | tuple ds =>
    have e2 : (if ds.length ≤ most then scanB gr seen ds else none) = some l := e
    show (if ds.length ≤ most then scanB gr [] ds else none) = some l
    split at e2
    · rename_i hl
      rw [if_pos hl]
      obtain ⟨a1, a2, _⟩ := (scan_iff ds _ l).mp e2
      exact (scan_iff ds [] l).mpr ⟨a1, a2, fun b _ z => by cases z⟩
    · cases e2
  | _ => cases e
abbrev nLHand : List Str := ["_law_boxes", "_law_ahead", "_law_who", "_law_name", "_law_size"]
theorem scLHand : FnScope nLHand ["_law_boxes", "_law_ahead", "_law_who"] (defScope s_law_is_hand) := ⟨rfl, rfl, rfl, by decide +kernel, rfl, by decide +kernel, by decide +kernel⟩
abbrev nLText : List Str := ["_law_ahead", "_law_piece"]
theorem scLText : FnScope nLText ["_law_ahead", "_law_piece"] (defScope s_law_is_text) := ⟨rfl, rfl, rfl, by decide +kernel, rfl, by decide +kernel, by decide +kernel⟩
def handB (bs : List Box) (seen : List Str) : Dt → Bool
  | .tuple [.str z, o, .tuple ts] => headB seen z ts && (boxesP 24 8 (bs.map (·.1)) o).isSome
  | _ => false
def textB (seen : List Str) (d : Dt) : Bool := (textP seen d).isSome
theorem hand_len {bs : List Box} {seen : List Str} {ds : List Dt} (h : ds.length ≠ 3) : handB bs seen (.tuple ds) = false := by
  unfold handB
  split
  · rename_i z; cases z; exact absurd rfl h
  · rfl
theorem hand_name {bs : List Box} {seen : List Str} {d0 d1 d2 : Dt} (h : nameD d0 = false) : handB bs seen (.tuple [d0, d1, d2]) = false := by
  cases d0 with
  | str z =>
    cases d2 with
    | tuple ts =>
      show (headB seen z ts && _) = false
      unfold headB
      rw [show nameB z = false from h]
      rfl
    | _ => rfl
  | _ => rfl
theorem text_len {seen : List Str} {ds : List Dt} (h : ds.length ≠ 2) : textB seen (.tuple ds) = false := by
  unfold textB textP
  split
  · rename_i z; cases z; exact absurd rfl h
  · rfl
theorem text_name {seen : List Str} {d0 d1 : Dt} (h : nameD d0 = false) : textB seen (.tuple [d0, d1]) = false := by
  cases d0 with
  | str z =>
    cases d1 with
    | tuple ts =>
      show (if (nameB z && _) then _ else _ : Option TxD).isSome = false
      rw [show nameB z = false from h]
      rfl
    | _ => rfl
  | _ => rfl
section
variable {P : Program} {w : World} {K : PySem.W.Frag} {mg : Str → Option Value} {base : Heap}
def spLHand (K : PySem.W.Frag) : Sp := fun vs H Q _ => ∃ (v x : V) (al : Addr) (bs : List Box) (seen : List Str) (d : Dt), vs = [v, .ref al, x] ∧ Pairs K H v bs ∧ (bs.map (·.1)).Nodup ∧ SqL K H al (seen.map V.str) ∧ Dp K H x d ∧ SL d ∧ TK d ∧ ∀ H', Same H H' → Q (.bl (handB bs seen d)) H'
set_option maxHeartbeats 16000000 in
theorem ok_lhand {f : Addr} {fd : FuncData} {k : Nat} (F : Fun K "_law_is_hand" "_law_is_hand" s_law_is_hand f fd) (DN : Def P w K mg base CX0 (k + 2) "_law_is_name" ["_law_item"] (spLName K)) (DB : Def P w K mg base CX0 (k + 2) "_law_are_boxes" ["_law_item", "_law_most", "_law_size"] (spLBoxes K))
    (m_isinstance : mg "isinstance" = none) (m_tuple : mg "tuple" = none) (m_len : mg "len" = none) (m_dict : mg "dict" = none) : FnOk P w K mg base CX0 (k + 2 + 1) f fd ["_law_boxes", "_law_ahead", "_law_who"] (spLHand K) := by
  refine F.ok scLHand (fun vs H Q E h => ?_) (fun cdv A outer s H vs Q E hr h => ?_)
  · obtain ⟨v, x, al, bs, seen, d, rfl, _⟩ := h
    rfl
  obtain ⟨v, x, al, bs, seen, d, rfl, hp, hnd, hal, hx, sl, tk, q⟩ := h
  have nd := scLHand.nd
  have hu := hu_of hr
  refine ⟨_, (pss_cons (ps_if (PW.pt (pw_or (pt_not (pt_val (pe_callB call_isi (by rfl) m_isinstance PyProof.Rows.boot_isinstance (pa_cons (pv 2) (pa_cons (pe_bltn (by rfl) m_tuple (u := .type "tuple") (by decide +kernel) (show RelV (.ty "tuple") (.type "tuple") from rfl)) pa_nil))))) (pw_or (pt_cmpR op_ne (pe_callB call_len_seq (by rfl) m_len PySem.boot_len (pa_cons (pv 2) pa_nil)) pe_int (nomark _)) (pw_or (pt_not (pt_val (pe_call DN.ok hr (by rfl) DN.g DN.kp DN.b .nil pass0 (pa_cons (pe_ix ix_tup (pv 2) pe_int (fun _ _ => rfl)) pa_nil)))) (pw_or1 (pt_cmpR op_in_seq (pe_ix ix_tup (pv 2) pe_int (fun _ _ => rfl)) (pv 1) (by rfl))))))) (pss_one (ps_ret pe_bl)) pss_nil)
    (pss_cons (ps_if (PW.pt (pw_or (pt_not (pt_val (pe_call DB.ok hr (by rfl) DB.g DB.kp DB.b .nil pass0 (pa_cons (pe_ix ix_tup (pv 2) pe_int (fun _ _ => rfl)) (pa_cons pe_int (pa_cons pe_int pa_nil)))))) (pw_or (pt_not (pt_val (pe_callB call_isi (by rfl) m_isinstance PyProof.Rows.boot_isinstance (pa_cons (pe_ix ix_tup (pv 2) pe_int (fun _ _ => rfl)) (pa_cons (pe_bltn (by rfl) m_tuple (u := .type "tuple") (by decide +kernel) (show RelV (.ty "tuple") (.type "tuple") from rfl)) pa_nil))))) (pw_or1 (pt_not (pt_chain op_le op_le pe_int (pe_callB call_len_seq (by rfl) m_len PySem.boot_len (pa_cons (pe_ix ix_tup (pv 2) pe_int (fun _ _ => rfl)) pa_nil)) pe_int)))))) (pss_one (ps_ret pe_bl)) pss_nil)
    (pss_one (ps_ret (pe_cmpR (op_eqD hr.units) (pe_lc (own := [("_law_name", 3), ("_law_size", 4)]) (g := (gTup K 2 (gCons (gName 3) (gCons (gName 4) gNil)))) (by rfl) nd (pi_tup (pe_ix ix_tup (pv 2) pe_int (fun _ _ => rfl))) (blkOk_by (N := nLHand) (sc := defScope s_law_is_hand) (by decide +kernel)) (fun _ _ _ _ _ => (pg_tup rfl (pgs_cons (pg_name (i := 3) nd rfl (.inl rfl)) (pgs_cons (pg_name (i := 4) nd rfl (.inl rfl)) pgs_nil)))) (fun _ _ _ _ _ => (pts_one  (pt_cmp (pc_din hu (pv 3) (pe_callTy (T := "dict") (r := rDictT K) (cr_dictT rfl) (by rfl) m_dict (by decide +kernel) (pa_cons (pv 0) pa_nil)))))) (fun _ _ _ _ _ => (pv 3))) (pe_lst pa_nil) (nomark _)))))), ?_⟩
  have q0 := q H (Same.refl _)
  refine ⟨_, rfl, _, _, _, _, _, rfl, .ty "tuple", dp_ty hx, kit_tup K hx, _, rfl, ?_⟩
  by_cases dt : isTup d = true
  rotate_left
  · rw [show handB bs seen d = false by cases d with | tuple es => exact absurd rfl dt | _ => rfl] at q0
    rw [show isTup d = false by simpa using dt]
    exact iteT (iteT q0)
  obtain ⟨ds, rfl⟩ := isT_tup d dt
  obtain ⟨a, xs, rfl, ha, hall, hxl⟩ := small_of hx
  refine iteF ⟨_, rfl, a, _, rfl, .inr ha, rfl, _, rfl, ?_⟩
  by_cases l3 : ds.length = 3
  rotate_left
  · rw [hand_len l3] at q0
    rw [ne_int (show (xs.length : Int) ≠ 3 by omega)]
    exact iteT (iteT q0)
  rw [eq_int (show (xs.length : Int) = 3 by omega)]
  obtain ⟨d0, d1, d2, rfl⟩ := len3 l3
  cases hall with
  | @cons x0 _ _ _ h0 hall =>
  cases hall with
  | @cons x1 _ _ _ h1 hall =>
  cases hall with
  | @cons x2 _ _ _ h2 hall =>
  cases hall
  have sls := sl.of_tup
  have tks := tk.of_tup
  refine iteF ⟨_, rfl, a, _, 0, _, rfl, rfl, ha, atI_nat (j := 0) rfl, x0, d0, rfl, h0, sls _ (by simp), tks _ (by simp), fun G s1 => ⟨_, rfl, ?_⟩⟩
  have qG := q G s1
  cases n0 : nameD d0 with
  | false =>
    rw [hand_name n0] at qG
    exact iteT (iteT qG)
  | true =>
  obtain ⟨z, rfl⟩ : ∃ z, d0 = .str z := by
    cases d0 with
    | str z => exact ⟨z, rfl⟩
    | _ => cases n0
  cases dp_str h0
  have nz : nameB z = true := n0
  have haG := same_tup s1 ha
  have hpG := hp.same s1
  have halG := s1.seq hal
  have h1G := dp_same s1 _ _ h1
  have h2G := dp_same s1 _ _ h2
  have q := fun H' (s : Same G H') => q H' (s1.trans s)
  clear q0 ha hp hal h1 h2 hx s1
  refine iteF ⟨_, rfl, a, _, 0, _, rfl, rfl, haG, atI_nat (j := 0) rfl, _, rfl, al, _, rfl, .inl halG, rfl, flat_strs _, _, rfl, ?_⟩
  rw [if_neg Bool.false_ne_true, in_strs]
  have noH : ∀ ts, d2 = .tuple ts → headB seen z ts = false → handB bs seen (.tuple [.str z, d1, d2]) = false := fun ts e hb => by
    rw [e]
    show (headB seen z ts && _) = false
    rw [hb]
    rfl
  by_cases zs : z ∈ seen
  · rw [decide_eq_true zs]
    have e : handB bs seen (.tuple [.str z, d1, d2]) = false := by
      cases d2 with
      | tuple ts => exact noH ts rfl (by unfold headB; rw [decide_eq_true zs]; simp)
      | _ => rfl
    rw [e] at qG
    exact iteT qG
  rw [decide_eq_false zs]
  refine iteF ⟨_, rfl, a, _, 1, _, rfl, rfl, haG, atI_nat (j := 1) rfl, x1, d1, 24, 8, rfl, h1G, sls _ (by simp), tks _ (by simp), by decide, fun G2 s2 => ⟨_, rfl, ?_⟩⟩
  have qG2 := q G2 s2
  have none_of : boxesP 24 8 [] d1 = none → boxesP 24 8 (bs.map (·.1)) d1 = none := fun e => by
    cases e2 : boxesP 24 8 (bs.map (·.1)) d1 with
    | none => rfl
    | some l => rw [boxes_seen e2] at e; cases e
  cases eb : boxesP 24 8 [] d1 with
  | none =>
    have e : handB bs seen (.tuple [.str z, d1, d2]) = false := by
      cases d2 with
      | tuple ts =>
        show (headB seen z ts && (boxesP 24 8 (bs.map (·.1)) d1).isSome) = false
        rw [none_of eb]
        exact Bool.and_false _
      | _ => rfl
    rw [e] at qG2
    exact iteT (iteT qG2)
  | some ob =>
  have ha2 := same_tup s2 haG
  have hp2 := hpG.same s2
  have h12 := dp_same s2 _ _ h1G
  have h22 := dp_same s2 _ _ h2G
  have q := fun H' (s : Same G2 H') => q H' (s2.trans s)
  clear qG haG hpG halG h1G h2G s2
  refine iteF ⟨_, rfl, a, _, 2, _, rfl, rfl, ha2, atI_nat (j := 2) rfl, _, _, _, _, _, rfl, .ty "tuple", dp_ty h22, kit_tup K h22, _, rfl, ?_⟩
  by_cases q2 : isTup d2 = true
  rotate_left
  · rw [show isTup d2 = false by simpa using q2]
    rw [show handB bs seen (.tuple [.str z, d1, d2]) = false by cases d2 with | tuple es => exact absurd rfl q2 | _ => rfl] at qG2
    exact iteT (iteT qG2)
  obtain ⟨ts, rfl⟩ := isT_tup d2 q2
  obtain ⟨c, ys, rfl, hc, hys, hyl⟩ := small_of h22
  refine iteF ⟨_, rfl, a, _, 2, _, rfl, rfl, ha2, atI_nat (j := 2) rfl, c, _, rfl, .inr hc, _, _, rfl, rfl, _, rfl, ?_⟩
  by_cases w1 : 1 ≤ ts.length
  rotate_left
  · rw [decide_eq_false (show ¬ (1 : Int) ≤ (ys.length : Int) by omega)]
    rw [noH ts rfl (by unfold headB; rw [decide_eq_false w1]; simp)] at qG2
    exact iteF ⟨_, rfl, iteT qG2⟩
  rw [decide_eq_true (show (1 : Int) ≤ (ys.length : Int) by omega)]
  refine iteT ⟨_, _, rfl, rfl, _, rfl, ?_⟩
  by_cases w4 : ts.length ≤ 32
  rotate_left
  · rw [decide_eq_false (show ¬ (ys.length : Int) ≤ 32 by omega)]
    rw [noH ts rfl (by unfold headB; rw [decide_eq_false w4]; simp)] at qG2
    exact iteT qG2
  rw [decide_eq_true (show (ys.length : Int) ≤ 32 by omega)]
  have hd : headB seen z ts = true := by
    unfold headB
    rw [nz, decide_eq_false zs, decide_eq_true w1, decide_eq_true w4]
    rfl
  obtain ⟨ed1, ond, _, oln⟩ := boxes_data eb
  subst ed1
  obtain ⟨c1, os, rfl, hc1, hos, hol⟩ := small_of h12
  rw [List.length_map] at hol
  refine iteF ⟨_, rfl, a, _, 1, _, rfl, rfl, ha2, atI_nat (j := 1) rfl, c1, rfl, ⟨_, hc1⟩, fun D nD => ?_⟩
  refine lc_pick (walk_tup (a := c1) (xs := os) (K := K)) (fun H4 s4 => same_tup s4 hc1) (by omega) nD (ob.map fun b => (decide (b.1 ∈ bs.map (·.1)), V.str b.1)) (by rw [List.length_map]; omega) (fun i x b y H4 R hx hy s4 fin => ?_) (fun H4 s4 hD => ?_)
  · obtain ⟨e1, he, hx0⟩ := dpAll_get hos hx
    rw [List.getElem?_map] at he hy
    obtain ⟨b0, hb0, rfl⟩ := Option.map_eq_some_iff.mp he
    rw [hb0] at hy
    cases hy
    obtain ⟨c2, x1', x2', rfl, hc2, g1, g2⟩ := dp2 (dp_same s4 _ _ hx0)
    cases dp_str g1
    cases dp_int g2
    obtain ⟨va, ps, rfl, p1, p2⟩ := hp2.same s4
    refine ⟨c2, _, rfl, hc2, rfl, _, _, rfl, _, _, rfl, rfl, rfl, _, rfl, _, rfl, va, ps, _, rfl, p1, p2, fun p np => ?_⟩
    rw [merge_boxes hnd]
    refine ⟨p, _, rfl, DGet.k (k := Sum.inr b0.1) upd_same, ?_⟩
    have eo : (valV (bs.map boxK) (Sum.inr b0.1)).isSome = decide (b0.1 ∈ bs.map (·.1)) := by
      have := val_seen (kvs := []) (seen := []) (fun z => rfl) bs b0.1
      rw [List.nil_append, List.nil_append] at this
      exact this
    have f2 := fin [some (.ref va), some (.ref al), some (.ref a), some (.str b0.1), some (.int b0.2)] (upd H4 p (.dK (bs.map boxK))) (same_new np) fun _ Q' h => ⟨_, rfl, h _ (Same.refl _)⟩
    rw [← eo] at f2
    exact ⟨_, rfl, f2⟩
  · refine ⟨Nat.zero_le _, fun e0 n0 => ?_⟩
    have s3 : Same H4 (upd H4 e0 (.lst [])) := same_new n0
    have ep : picked (ob.map fun b => (decide (b.1 ∈ bs.map (·.1)), V.str b.1)) = ((ob.filter fun b => decide (b.1 ∈ bs.map (·.1))).map (·.1)).map V.str := by
      unfold picked
      rw [List.filter_map, List.map_map, List.map_map]
      rfl
    rw [ep] at hD
    have sh : SeqAt.shaped (.list (((ob.filter fun b => decide (b.1 ∈ bs.map (·.1))).map (·.1)).map PyData.str)) = true := strL_shaped fun y hy => by
      obtain ⟨b, hb, rfl⟩ := List.mem_map.mp hy
      have t := (tks (.tuple (ob.map boxD)) (by simp)).of_tup (boxD b) (List.mem_map_of_mem (List.mem_filter.mp hb).1)
      exact (t.of_tup (.str b.1) (by simp)).of_str
    refine ⟨_, _, .lst (SqL.of (s3 _ _ hD)) (strL_dp _), .lst (SqL.of upd_same) .nil, sh, nilL_shaped, ?_⟩
    rw [strL_eqv]
    have fin := q _ (s4.trans s3)
    have ee : handB bs seen (.tuple [.str z, .tuple (ob.map boxD), .tuple ts]) = ((ob.filter fun b => decide (b.1 ∈ bs.map (·.1))).map (·.1)).isEmpty := by
      show (headB seen z ts && (boxesP 24 8 (bs.map (·.1)) (.tuple (ob.map boxD))).isSome) = _
      rw [hd, Bool.true_and, Bool.eq_iff_iff, List.isEmpty_iff, List.map_eq_nil_iff, List.filter_eq_nil_iff, Option.isSome_iff_exists]
      have us : ∀ sn : List Str, boxesP 24 8 sn (.tuple (ob.map boxD)) = scanB 8 sn (ob.map boxD) := fun sn => by
        show (if (ob.map boxD).length ≤ 24 then _ else _) = _
        rw [if_pos (by rw [List.length_map]; exact oln)]
      rw [us]
      rw [us] at eb
      obtain ⟨a1, a2, _⟩ := (scan_iff _ [] ob).mp eb
      constructor
      · rintro ⟨l, hl⟩ b hb
        obtain ⟨c1, _, c3⟩ := (scan_iff _ _ l).mp hl
        rw [a1] at c1
        cases c1
        simpa using c3 b hb
      · intro h
        exact ⟨ob, (scan_iff _ _ ob).mpr ⟨a1, a2, fun b hb => by simpa using h b hb⟩⟩
    rw [ee] at fin
    exact fin
def spLText (K : PySem.W.Frag) : Sp := fun vs H Q _ => ∃ (x : V) (al : Addr) (seen : List Str) (d : Dt), vs = [.ref al, x] ∧ SqL K H al (seen.map V.str) ∧ Dp K H x d ∧ SL d ∧ TK d ∧ ∀ H', Same H H' → Q (.bl (textB seen d)) H'
set_option maxHeartbeats 16000000 in
theorem ok_ltext {f : Addr} {fd : FuncData} {k : Nat} (F : Fun K "_law_is_text" "_law_is_text" s_law_is_text f fd) (DN : Def P w K mg base CX0 (k + 1) "_law_is_name" ["_law_item"] (spLName K))
    (m_isinstance : mg "isinstance" = none) (m_tuple : mg "tuple" = none) (m_len : mg "len" = none) : FnOk P w K mg base CX0 (k + 1 + 1) f fd ["_law_ahead", "_law_piece"] (spLText K) := by
  refine F.ok scLText (fun vs H Q E h => ?_) (fun cdv A outer s H vs Q E hr h => ?_)
  · obtain ⟨x, al, seen, d, rfl, _⟩ := h
    rfl
  obtain ⟨x, al, seen, d, rfl, hal, hx, sl, tk, q⟩ := h
  have nd := scLText.nd
  refine ⟨_, (pss_cons (ps_if (PW.pt (pw_or (pt_not (pt_val (pe_callB call_isi (by rfl) m_isinstance PyProof.Rows.boot_isinstance (pa_cons (pv 1) (pa_cons (pe_bltn (by rfl) m_tuple (u := .type "tuple") (by decide +kernel) (show RelV (.ty "tuple") (.type "tuple") from rfl)) pa_nil))))) (pw_or (pt_cmpR op_ne (pe_callB call_len_seq (by rfl) m_len PySem.boot_len (pa_cons (pv 1) pa_nil)) pe_int (nomark _)) (pw_or (pt_not (pt_val (pe_call DN.ok hr (by rfl) DN.g DN.kp DN.b .nil pass0 (pa_cons (pe_ix ix_tup (pv 1) pe_int (fun _ _ => rfl)) pa_nil)))) (pw_or1 (pt_cmpR op_in_seq (pe_ix ix_tup (pv 1) pe_int (fun _ _ => rfl)) (pv 0) (by rfl))))))) (pss_one (ps_ret pe_bl)) pss_nil)
    (pss_one (ps_ret (pe_and (pe_callB call_isi (by rfl) m_isinstance PyProof.Rows.boot_isinstance (pa_cons (pe_ix ix_tup (pv 1) pe_int (fun _ _ => rfl)) (pa_cons (pe_bltn (by rfl) m_tuple (u := .type "tuple") (by decide +kernel) (show RelV (.ty "tuple") (.type "tuple") from rfl)) pa_nil))) (pe_one (pe_chain op_le op_le pe_int (pe_callB call_len_seq (by rfl) m_len PySem.boot_len (pa_cons (pe_ix ix_tup (pv 1) pe_int (fun _ _ => rfl)) pa_nil)) pe_int)))))), ?_⟩
  have q0 := q H (Same.refl _)
  refine ⟨_, rfl, _, _, _, _, _, rfl, .ty "tuple", dp_ty hx, kit_tup K hx, _, rfl, ?_⟩
  by_cases dt : isTup d = true
  rotate_left
  · rw [show textB seen d = false by cases d with | tuple es => exact absurd rfl dt | _ => rfl] at q0
    rw [show isTup d = false by simpa using dt]
    exact iteT (iteT q0)
  obtain ⟨ds, rfl⟩ := isT_tup d dt
  obtain ⟨a, xs, rfl, ha, hall, hxl⟩ := small_of hx
  refine iteF ⟨_, rfl, a, _, rfl, .inr ha, rfl, _, rfl, ?_⟩
  by_cases l2 : ds.length = 2
  rotate_left
  · rw [text_len l2] at q0
    rw [ne_int (show (xs.length : Int) ≠ 2 by omega)]
    exact iteT (iteT q0)
  rw [eq_int (show (xs.length : Int) = 2 by omega)]
  obtain ⟨d0, d1, rfl⟩ := len2 l2
  cases hall with
  | @cons x0 _ _ _ h0 hall =>
  cases hall with
  | @cons x1 _ _ _ h1 hall =>
  cases hall
  have sls := sl.of_tup
  have tks := tk.of_tup
  refine iteF ⟨_, rfl, a, _, 0, _, rfl, rfl, ha, atI_nat (j := 0) rfl, x0, d0, rfl, h0, sls _ (by simp), tks _ (by simp), fun G s1 => ⟨_, rfl, ?_⟩⟩
  have qG := q G s1
  cases n0 : nameD d0 with
  | false =>
    rw [text_name n0] at qG
    exact iteT (iteT qG)
  | true =>
  obtain ⟨z, rfl⟩ : ∃ z, d0 = .str z := by
    cases d0 with
    | str z => exact ⟨z, rfl⟩
    | _ => cases n0
  cases dp_str h0
  have nz : nameB z = true := n0
  have haG := same_tup s1 ha
  have halG := s1.seq hal
  have h1G := dp_same s1 _ _ h1
  refine iteF ⟨_, rfl, a, _, 0, _, rfl, rfl, haG, atI_nat (j := 0) rfl, _, rfl, al, _, rfl, .inl halG, rfl, flat_strs _, _, rfl, ?_⟩
  rw [if_neg Bool.false_ne_true, in_strs]
  have noT : ∀ rs, (nameB z && (!decide (z ∈ seen) && (decide (1 ≤ rs.length) && decide (rs.length ≤ 2000)))) = false → textB seen (.tuple [.str z, .tuple rs]) = false := fun rs hb => by
    show (if _ then _ else _ : Option TxD).isSome = false
    rw [hb]
    rfl
  by_cases zs : z ∈ seen
  · rw [decide_eq_true zs]
    have e : textB seen (.tuple [.str z, d1]) = false := by
      cases d1 with
      | tuple ts => exact noT ts (by rw [decide_eq_true zs]; simp)
      | _ => rfl
    rw [e] at qG
    exact iteT qG
  rw [decide_eq_false zs]
  refine iteF ⟨_, rfl, a, _, 1, _, rfl, rfl, haG, atI_nat (j := 1) rfl, _, _, _, _, _, rfl, .ty "tuple", dp_ty h1G, kit_tup K h1G, _, rfl, ?_⟩
  by_cases q1 : isTup d1 = true
  rotate_left
  · rw [show isTup d1 = false by simpa using q1]
    rw [show textB seen (.tuple [.str z, d1]) = false by cases d1 with | tuple es => exact absurd rfl q1 | _ => rfl] at qG
    exact iteF qG
  obtain ⟨ts, rfl⟩ := isT_tup d1 q1
  obtain ⟨c, ys, rfl, hc, hys, hyl⟩ := small_of h1G
  refine iteT ⟨_, rfl, a, _, 1, _, rfl, rfl, haG, atI_nat (j := 1) rfl, c, _, rfl, .inr hc, _, _, rfl, rfl, _, rfl, ?_⟩
  have ev : textB seen (.tuple [.str z, .tuple ts]) = (decide (1 ≤ ts.length) && decide (ts.length ≤ 2000)) := by
    show (if (nameB z && (!decide (z ∈ seen) && (decide (1 ≤ ts.length) && decide (ts.length ≤ 2000)))) then some _ else none : Option TxD).isSome = _
    rw [nz, decide_eq_false zs, Bool.true_and, Bool.not_false, Bool.true_and]
    cases (decide (1 ≤ ts.length) && decide (ts.length ≤ 2000)) <;> rfl
  rw [ev] at qG
  by_cases w1 : 1 ≤ ts.length
  rotate_left
  · rw [decide_eq_false (show ¬ (1 : Int) ≤ (ys.length : Int) by omega)]
    rw [decide_eq_false w1] at qG
    exact iteF qG
  rw [decide_eq_true (show (1 : Int) ≤ (ys.length : Int) by omega)]
  rw [decide_eq_true w1, Bool.true_and] at qG
  have e2 : decide (ts.length ≤ 2000) = decide ((ys.length : Int) ≤ 2000) := by
    rw [decide_eq_decide]
    omega
  rw [e2] at qG
  exact iteT ⟨_, _, rfl, rfl, qG⟩
end
end PP

set_option maxHeartbeats 4000000
namespace PP
open PySem PySem.Spec PyProof.Rows L2 G3 G4 M0 PA EE QA LC SX PT EN
abbrev nWHand : List Str := ["_law_boxes", "_law_hands", "_law_names", "_law_number", "_law_who", "_law_titles", "_law_place", "_law_piece"]
theorem scWHand : FnScope nWHand ["_law_boxes", "_law_hands"] (defScope s_law_wrong_hand) := ⟨rfl, rfl, rfl, by decide +kernel, rfl, by decide +kernel, by decide +kernel⟩
def oD : Option Nat → Dt
  | none => .none
  | some j => .int j
theorem hand_fails {bs : List Box} {seen : List Str} {d : Dt} (h : handB bs seen d = false) : handP bs seen d = .inr none := by
  unfold handP
  split
  · rename_i z o ts
    have h2 : (headB seen z ts && (boxesP 24 8 (bs.map (·.1)) o).isSome) = false := h
    show (if headB seen z ts then _ else _) = _
    cases e : headB seen z ts with
    | false => rfl
    | true =>
      rw [e, Bool.true_and] at h2
      cases eb : boxesP 24 8 (bs.map (·.1)) o with
      | none => rfl
      | some l => rw [eb] at h2; cases h2
  · rfl
theorem hand_good {bs : List Box} {seen : List Str} {d : Dt} (h : handB bs seen d = true) : ∃ z o ts own, d = .tuple [.str z, o, .tuple ts] ∧ headB seen z ts = true ∧ boxesP 24 8 (bs.map (·.1)) o = some own := by
  unfold handB at h
  split at h
  · rename_i z o ts
    rw [Bool.and_eq_true] at h
    obtain ⟨own, ho⟩ := Option.isSome_iff_exists.mp h.2
    exact ⟨z, o, ts, own, rfl, h.1, ho⟩
  · cases h
theorem text_good {seen : List Str} {d : Dt} (h : textB seen d = true) : ∃ z rs, d = .tuple [.str z, .tuple rs] ∧ textP seen d = some (z, rs) := by
  unfold textB textP at h
  split at h
  · rename_i z rs
    split at h
    · rename_i hc
      exact ⟨z, rs, rfl, by show (if _ then _ else _) = _; rw [if_pos hc]⟩
    · cases h
  · cases h
theorem text_fails {seen : List Str} {d : Dt} (h : textB seen d = false) : textP seen d = none := by
  unfold textB at h
  exact Option.isNone_iff_eq_none.mp (by rw [← Option.not_isSome, h]; rfl)
theorem drop_next {α : Type} {l : List α} {i : Nat} {x : α} (h : l[i]? = some x) : l.drop i = x :: l.drop (i + 1) := by
  obtain ⟨hi, rfl⟩ := List.getElem?_eq_some_iff.mp h
  exact List.drop_eq_getElem_cons hi
section
variable {P : Program} {w : World} {K : PySem.W.Frag} {mg : Str → Option Value} {base : Heap}
def spWHand (K : PySem.W.Frag) : Sp := fun vs H Q _ => ∃ (v x : V) (bs : List Box) (ds : List Dt), vs = [v, x] ∧ Pairs K H v bs ∧ (bs.map (·.1)).Nodup ∧ Dp K H x (.tuple ds) ∧ SL (.tuple ds) ∧ TK (.tuple ds) ∧ ds.length ≤ 1000 ∧
  (∀ hs, scanH bs [] 0 ds = .inl hs → ∀ H', Same H H' → Q .non H') ∧ (∀ i j, scanH bs [] 0 ds = .inr (i, j) → ∀ H' u, Same H H' → Dp K H' u (.tuple [.int (i : Nat), oD j, .none]) → Q u H')
set_option maxHeartbeats 16000000 in
theorem ok_whand {f : Addr} {fd : FuncData} {k : Nat} (F : Fun K "_law_wrong_hand" "_law_wrong_hand" s_law_wrong_hand f fd) (DH : Def P w K mg base CX0 (k + 2) "_law_is_hand" ["_law_boxes", "_law_ahead", "_law_who"] (spLHand K)) (DT : Def P w K mg base CX0 (k + 2) "_law_is_text" ["_law_ahead", "_law_piece"] (spLText K))
    (m_enumerate : mg "enumerate" = none) : FnOk P w K mg base CX0 (k + 2 + 1) f fd ["_law_boxes", "_law_hands"] (spWHand K) := by
  refine F.ok scWHand (fun vs H Q E h => ?_) (fun cdv A outer s H vs Q E hr h => ?_)
  · obtain ⟨v, x, bs, ds, rfl, _⟩ := h
    rfl
  obtain ⟨v, x, bs, ds, rfl, hp, hnd, hx, sl, tk, l4, qy, qn⟩ := h
  have nd := scWHand.nd
  refine ⟨_, (pss_cons (ps_set (i := 2) nd rfl (.inl rfl) (pe_lst pa_nil))
    (pss_cons (ps_for PassesOwn.never rfl (EN.pi_enumT (by rfl) m_enumerate (pa_cons (pv 1) pa_nil)) (pg_tup rfl (pgs_cons (pg_name (i := 3) nd rfl (.inl rfl)) (pgs_cons (pg_name (i := 4) nd rfl (.inl rfl)) pgs_nil)))
      (pss_cons (ps_if (pt_not (pt_val (pe_call DH.ok hr (by rfl) DH.g DH.kp DH.b .nil pass0 (pa_cons (pv 0) (pa_cons (pv 2) (pa_cons (pv 4) pa_nil)))))) (pss_one (ps_ret (pe_tup (pa_cons (pv 3) (pa_cons pe_non (pa_cons pe_non pa_nil)))))) pss_nil)
    (pss_cons (ps_expr (pe_bm PySem.F.plainAttrs_list PySem.F.slot_list_append PySem.F.type_list_append mt_append (pv 2) (pa_cons (pe_ix ix_tup (pv 4) pe_int (fun _ _ => rfl)) pa_nil)))
    (pss_cons (ps_set (i := 5) nd rfl (.inl rfl) (pe_lst pa_nil))
    (pss_one (ps_for PassesOwn.never rfl (EN.pi_enumT (by rfl) m_enumerate (pa_cons (pe_ix ix_tup (pv 4) pe_int (fun _ _ => rfl)) pa_nil)) (pg_tup rfl (pgs_cons (pg_name (i := 6) nd rfl (.inl rfl)) (pgs_cons (pg_name (i := 7) nd rfl (.inl rfl)) pgs_nil)))
      (pss_cons (ps_if (pt_not (pt_val (pe_call DT.ok hr (by rfl) DT.g DT.kp DT.b .nil pass0 (pa_cons (pv 5) (pa_cons (pv 7) pa_nil))))) (pss_one (ps_ret (pe_tup (pa_cons (pv 3) (pa_cons (pv 6) (pa_cons pe_non pa_nil)))))) pss_nil)
    (pss_one (ps_expr (pe_bm PySem.F.plainAttrs_list PySem.F.slot_list_append PySem.F.type_list_append mt_append (pv 5) (pa_cons (pe_ix ix_tup (pv 7) pe_int (fun _ _ => rfl)) pa_nil)))))))))))
    (pss_one (ps_ret pe_non)))), ?_⟩
  obtain ⟨a, xs, rfl, ha, hall, hxl⟩ := small_of hx
  have sls := sl.of_tup
  have tks := tk.of_tup
  refine ⟨Nat.zero_le _, fun nl nnl => ?_⟩
  have s0 : Same H (upd H nl (.lst [])) := same_new nnl
  refine ⟨_, rfl, a, xs, rfl, same_tup s0 ha, for_enumT (xs := xs) (fun i σ H3 => ∃ y3 y4 y5 y6 y7, ∃ hl : List HnD, σ = [some v, some (.ref a), some (.ref nl), y3, y4, y5, y6, y7] ∧ Same H H3 ∧ H3 nl = some (.lst ((hl.map (·.nm)).map V.str)) ∧ hl.length = i ∧
    scanH bs [] 0 ds = preH hl (scanH bs (hl.map (·.nm)) i (ds.drop i))) ⟨none, none, none, none, none, [], rfl, s0, upd_same, rfl, (preH_nil _).symm⟩ (fun i σ H3 hP => ?_) (fun i e T σ H3 he hP nT => ?_) (fun σ H3 hP => ?_)⟩
  · obtain ⟨_, _, _, _, _, _, _, sm, _⟩ := hP
    exact same_tup sm ha
  · obtain ⟨y3, y4, y5, y6, y7, hl, rfl, sm, hN, hll, hsc⟩ := hP
    obtain ⟨d, hd, hd0⟩ := dpAll_get hall he
    rw [drop_next hd] at hsc
    have mem := List.mem_of_getElem? hd
    have sT : Same H3 (upd H3 T (.tup [.int (i : Nat), e])) := same_new nT
    have hT : (upd H3 T (.tup [.int (i : Nat), e])) T = some (.tup [.int (i : Nat), e]) := upd_same
    have nNl : T ≠ nl := fun z => by rw [z, hN] at nT; cases nT
    have hN1 := sT _ _ hN
    have s1 := sm.trans sT
    generalize upd H3 T (.tup [.int (i : Nat), e]) = G at hT hN1 s1 ⊢
    clear sT sm hN
    refine ⟨T, _, rfl, SqT.of hT, rfl, _, _, rfl, _, _, rfl, rfl, ?_⟩
    refine ⟨_, rfl, _, rfl, _, rfl, v, e, nl, bs, hl.map (·.nm), d, rfl, hp.same s1, hnd, SqL.of hN1, dp_same s1 _ _ hd0, sls _ mem, tks _ mem, fun G2 s2 => ⟨_, rfl, ?_⟩⟩
    have hN2 := s2 _ _ hN1
    have s12 := s1.trans s2
    cases eh : handB bs (hl.map (·.nm)) d with
    | false =>
      refine iteT ⟨_, rfl, lz3, fun t nt => ?_⟩
      rw [scanH_no (hand_fails eh)] at hsc
      exact qn i none hsc _ _ (s12.trans (same_new nt)) (.tup (SqT.of upd_same) (.cons (.int _) (.cons .non (.cons .non .nil))))
    | true =>
    obtain ⟨z, o, tsd, own, rfl, hhd, hown⟩ := hand_good eh
    obtain ⟨c, zs, rfl, hc, hzs, _⟩ := small_of (dp_same s12 _ _ hd0)
    cases hzs with
    | @cons z0 _ _ _ g0 hzs =>
    cases hzs with
    | @cons z1 _ _ _ g1 hzs =>
    cases hzs with
    | @cons z2 _ _ _ g2 hzs =>
    cases hzs
    cases dp_str g0
    refine iteF ⟨_, rfl, .inl ⟨rfl, _, SqL.of hN2⟩, _, rfl, c, _, 0, _, rfl, rfl, hc, atI_nat (j := 0) rfl, nl, _, _, rfl, rfl, hN2, by rw [List.length_map, List.length_map]; exact LC.small_line (by have := (List.getElem?_eq_some_iff.mp hd).1; omega), ?_⟩
    have nnH : H nl = none := nnl
    have s13 : Same H (upd G2 nl (.lst ((hl.map (·.nm)).map V.str ++ [.str z]))) := same_put s12 nnH
    have hN3 : (upd G2 nl (.lst ((hl.map (·.nm)).map V.str ++ [.str z]))) nl = some (.lst (((hl.map (·.nm)) ++ [z]).map V.str)) := by
      rw [upd_same, List.map_append]
      rfl
    obtain ⟨ta, ws, rfl, hta0, hws0, hwl⟩ := small_of (show Dp K G2 z2 (.tuple tsd) from g2)
    obtain ⟨c', zs', ec, hc0, hzs0, _⟩ := small_of hd0
    cases ec
    have hc3 := same_tup s13 hc0
    obtain ⟨z0', z1', z2', ezs⟩ : ∃ p q r, zs' = [p, q, r] := by
      cases hzs0 with
      | cons _ h =>
      cases h with
      | cons _ h =>
      cases h with
      | cons _ h =>
      cases h
      exact ⟨_, _, _, rfl⟩
    subst ezs
    generalize upd G2 nl (.lst ((hl.map (·.nm)).map V.str ++ [.str z])) = G3' at s13 hN3 hc3 ⊢
    cases hzs0 with
    | cons h00 hzs0 =>
    cases hzs0 with
    | cons h01 hzs0 =>
    cases hzs0 with
    | cons h02 hzs0 =>
    cases hzs0
    obtain ⟨tb, wb, rfl, htb, hwb, hwbl⟩ := small_of h02
    refine ⟨Nat.zero_le _, fun tp ntp => ?_⟩
    have s4 : Same G3' (upd G3' tp (.lst [])) := same_new ntp
    have tn : tp ≠ nl := fun z => by rw [z, hN3] at ntp; cases ntp
    have htp4 : (upd G3' tp (.lst [])) tp = some (.lst []) := upd_same
    have hN4 := s4 _ _ hN3
    have s14 := s13.trans s4
    have hc4 := same_tup s4 hc3
    have ntpH := same_none s13 ntp
    generalize upd G3' tp (.lst []) = G4' at htp4 hN4 s14 hc4 ⊢
    have slt := (sls _ mem).of_tup (.tuple tsd) (by simp)
    have tkt := (tks _ mem).of_tup (.tuple tsd) (by simp)
    have tl32 : tsd.length ≤ 32 := by
      have := hhd
      unfold headB at this
      simp only [Bool.and_eq_true, decide_eq_true_eq] at this
      exact this.2.2.2
    refine ⟨_, rfl, c, _, 2, _, rfl, rfl, hc4, atI_nat (j := 2) rfl, tb, wb, rfl, same_tup s14 htb, for_enumT (xs := wb) (fun j σ H5 => ∃ y6 y7, ∃ tl : List TxD, σ = [some v, some (.ref a), some (.ref nl), some (.int (i : Nat)), some (.ref c), some (.ref tp), y6, y7] ∧ Same H H5 ∧ H5 nl = some (.lst (((hl.map (·.nm)) ++ [z]).map V.str)) ∧
      H5 tp = some (.lst ((tl.map (·.1)).map V.str)) ∧ tl.length = j ∧ scanT [] 0 tsd = preT tl (scanT (tl.map (·.1)) j (tsd.drop j))) ⟨_, _, [], rfl, s14, hN4, htp4, rfl, (preT_nil _).symm⟩ (fun j σ H5 hP => ?_) (fun j e2 T2 σ H5 he2 hP nT2 => ?_) (fun σ H5 hP => ?_)⟩
    · obtain ⟨_, _, _, _, sm, _⟩ := hP
      exact same_tup sm htb
    · obtain ⟨y6, y7, tl, rfl, sm, hN5, htp5, tll, hst⟩ := hP
      obtain ⟨d2, hd2, hd20⟩ := dpAll_get hwb he2
      rw [drop_next hd2] at hst
      have mem2 := List.mem_of_getElem? hd2
      have jl := (List.getElem?_eq_some_iff.mp hd2).1
      have sT : Same H5 (upd H5 T2 (.tup [.int (j : Nat), e2])) := same_new nT2
      have hT2 : (upd H5 T2 (.tup [.int (j : Nat), e2])) T2 = some (.tup [.int (j : Nat), e2]) := upd_same
      have hN6 := sT _ _ hN5
      have htp6 := sT _ _ htp5
      have s6 := sm.trans sT
      generalize upd H5 T2 (.tup [.int (j : Nat), e2]) = G6 at hT2 hN6 htp6 s6 ⊢
      refine ⟨T2, _, rfl, SqT.of hT2, rfl, _, _, rfl, _, _, rfl, rfl, ?_⟩
      refine ⟨_, rfl, _, rfl, e2, tp, tl.map (·.1), d2, rfl, SqL.of htp6, dp_same s6 _ _ hd20, slt.of_tup _ mem2, tkt.of_tup _ mem2, fun G7 s7 => ⟨_, rfl, ?_⟩⟩
      have s67 := s6.trans s7
      have hN7 := s7 _ _ hN6
      have htp7 := s7 _ _ htp6
      cases et : textB (tl.map (·.1)) d2 with
      | false =>
        refine iteT ⟨_, rfl, _, rfl, lz3, fun t nt => ?_⟩
        rw [scanT_no (text_fails et)] at hst
        rw [scanH_no (hand_txt hhd hown hst)] at hsc
        exact qn i (some j) hsc _ _ (s67.trans (same_new nt)) (.tup (SqT.of upd_same) (.cons (.int _) (.cons (.int _) (.cons .non .nil))))
      | true =>
      obtain ⟨tz, rs, rfl, etp⟩ := text_good et
      obtain ⟨c2, us, rfl, hc2, hus, _⟩ := small_of (dp_same s67 _ _ hd20)
      cases hus with
      | @cons u0 _ _ _ f0 hus =>
      cases hus with
      | @cons u1 _ _ _ f1 hus =>
      cases hus
      cases dp_str f0
      rw [scanT_yes etp, preT_app] at hst
      refine iteF ⟨_, rfl, .inl ⟨rfl, _, SqL.of htp7⟩, _, rfl, c2, _, 0, _, rfl, rfl, hc2, atI_nat (j := 0) rfl, tp, _, _, rfl, rfl, htp7, by rw [List.length_map, List.length_map]; exact LC.small_line (by omega), ?_⟩
      refine ⟨_, _, tl ++ [(tz, rs)], rfl, same_put s67 ntpH, by rw [upd_ne tn.symm]; exact hN7, by rw [upd_same, List.map_append, List.map_append]; rfl, by rw [List.length_append, tll]; rfl, ?_⟩
      rw [List.map_append]
      exact hst
    · obtain ⟨y6, y7, tl, rfl, sm, hN5, htp5, tll, hst⟩ := hP
      have e0 : tsd.drop wb.length = [] := List.drop_eq_nil_of_le (by omega)
      rw [e0] at hst
      have est : scanT [] 0 tsd = .inl tl := by
        rw [hst]
        show Sum.inl (tl ++ []) = _
        rw [List.append_nil]
      rw [scanH_yes (hand_yes hhd hown est), preH_app] at hsc
      refine ⟨_, _, _, _, _, hl ++ [⟨z, own, tl⟩], rfl, sm, by rw [hN5, List.map_append (l₁ := hl)]; rfl, by rw [List.length_append, hll]; rfl, ?_⟩
      rw [List.map_append]
      exact hsc
  · obtain ⟨y3, y4, y5, y6, y7, hl, rfl, sm, hN, hll, hsc⟩ := hP
    have e0 : ds.drop xs.length = [] := List.drop_eq_nil_of_le (by omega)
    rw [e0] at hsc
    have : scanH bs [] 0 ds = .inl hl := by
      rw [hsc]
      show Sum.inl (hl ++ []) = _
      rw [List.append_nil]
    exact qy hl this _ sm
end
end PP

set_option maxHeartbeats 4000000
namespace PP
open PySem PySem.Spec PyProof.Rows L2 G3 G4 M0 PA EE QA LC SX PT EN
abbrev nWRow : List Str := ["_law_boxes", "_law_hands", "_law_number", "_law_who", "_law_sizes", "_law_titles", "_law_title", "_law_rows", "_law_others", "_law_other", "_law_place", "_law_piece", "_law_at", "_law_line"]
theorem scWRow : FnScope nWRow ["_law_boxes", "_law_hands"] (defScope s_law_wrong_row) := ⟨rfl, rfl, rfl, by decide +kernel, rfl, by decide +kernel, by decide +kernel⟩
def textDD (t : TxD) : Dt := .tuple [.str t.1, .tuple t.2]
def hndD (h : HnD) : Dt := .tuple [.str h.nm, .tuple (h.own.map boxD), .tuple (h.ts.map textDD)]
theorem scanT_data : ∀ (ds : List Dt) (seen : List Str) (i : Nat) (tl : List TxD), scanT seen i ds = .inl tl → ds = tl.map textDD
  | [], seen, i, tl, e => by
    have : Sum.inl [] = (Sum.inl tl : List TxD ⊕ Nat) := e
    cases this
    rfl
  | d :: r, seen, i, tl, e => by
    cases ht : textP seen d with
    | none => rw [scanT_no ht] at e; cases e
    | some t =>
      rw [scanT_yes ht] at e
      cases hr : scanT (seen ++ [t.1]) (i + 1) r with
      | inr j => rw [hr] at e; cases e
      | inl l =>
        rw [hr] at e
        cases e
        rw [scanT_data r _ _ l hr]
        have ed : d = textDD t := by
          unfold textP at ht
          split at ht
          · split at ht
            · cases ht; rfl
            · cases ht
          · cases ht
        rw [ed]
        rfl
theorem scanH_data {bs : List Box} : ∀ (ds : List Dt) (seen : List Str) (i : Nat) (hl : List HnD), scanH bs seen i ds = .inl hl → ds = hl.map hndD ∧ ∀ h ∈ hl, (h.own.map (·.1)).Nodup ∧ (∀ b ∈ h.own, ¬ b.1 ∈ bs.map (·.1)) ∧ h.own.length ≤ 24 ∧ h.ts.length ≤ 32
  | [], seen, i, hl, e => by
    have : Sum.inl [] = (Sum.inl hl : List HnD ⊕ (Nat × Option Nat)) := e
    cases this
    exact ⟨rfl, fun h hh => by cases hh⟩
  | d :: r, seen, i, hl, e => by
    cases hp : handP bs seen d with
    | inr j => rw [scanH_no hp] at e; cases e
    | inl h =>
      rw [scanH_yes hp] at e
      cases hr : scanH bs (seen ++ [h.nm]) (i + 1) r with
      | inr j => rw [hr] at e; cases e
      | inl l =>
        rw [hr] at e
        cases e
        obtain ⟨a1, a2⟩ := scanH_data r _ _ l hr
        have hB : handB bs seen d = true := by
          cases e : handB bs seen d with
          | true => rfl
          | false => rw [hand_fails e] at hp; cases hp
        obtain ⟨z, o, ts, own, rfl, hh, ho⟩ := hand_good hB
        obtain ⟨b1, b2, b3, b4⟩ := boxes_data ho
        cases hs : scanT [] 0 ts with
        | inr j => rw [hand_txt hh ho hs] at hp; cases hp
        | inl tl =>
        rw [hand_yes hh ho hs] at hp
        cases hp
        have et := scanT_data ts _ _ tl hs
        refine ⟨?_, fun x hx => ?_⟩
        · rw [a1, b1, et]
          rfl
        · rcases List.mem_cons.mp hx with rfl | hx
          · refine ⟨b2, b3, b4, ?_⟩
            unfold headB at hh
            simp only [Bool.and_eq_true, decide_eq_true_eq] at hh
            have := hh.2.2.2
            rw [et, List.length_map] at this
            exact this
          · exact a2 x hx
theorem cat_pairs {K : PySem.W.Frag} {H : Hp} {v u : V} {bs os : List Box} {T : VK} (h1 : Pairs K H v bs) (h2 : Pairs K H u os) (l : bs.length + os.length ≤ 1000) (go : ∀ r G, Same H G → Pairs K G r (bs ++ os) → T r G) : rCatP K v u H T := by
  obtain ⟨a, ps, rfl, p1, p2⟩ := h1
  obtain ⟨b, qs, rfl, q1, q2⟩ := h2
  have lp : ps.length = bs.length := by have := p2.length; rw [List.length_map] at this; exact this
  have lq : qs.length = os.length := by have := q2.length; rw [List.length_map] at this; exact this
  refine ⟨a, b, _, _, rfl, rfl, p1.sq, q1.sq, by rw [List.length_map, List.length_map]; exact Nat.le_of_lt (LC.small_line (by omega)), fun e => ?_, fun _ e => ?_, fun _ _ p o np no => ?_⟩
  · have e1 : ps = [] := List.map_eq_nil_iff.mp e
    subst e1
    have e2 : bs = [] := List.eq_nil_of_length_eq_zero lp.symm
    subst e2
    exact go _ _ (Same.refl _) ⟨b, qs, rfl, q1, q2⟩
  · have e1 : qs = [] := List.map_eq_nil_iff.mp e
    subst e1
    have e2 : os = [] := List.eq_nil_of_length_eq_zero lq.symm
    subst e2
    rw [List.append_nil] at go
    exact go _ _ (Same.refl _) ⟨a, ps, rfl, p1, p2⟩
  · have sn : Same H (upd H p (.frz o (.tup (ps.map V.ref ++ qs.map V.ref)))) := same_new np
    refine go _ _ sn ⟨p, ps ++ qs, rfl, ⟨o, ?_, no⟩, ?_⟩
    · rw [upd_same, List.map_append]
    · rw [List.map_append]
      have ap : ∀ {as cs : List Addr} {k1 k2 : List (Key × V)} {R : Addr → Key × V → Prop}, Paired R as k1 → Paired R cs k2 → Paired R (as ++ cs) (k1 ++ k2) := by
        intro as cs k1 k2 R h1 h2
        induction h1 with
        | nil => exact h2
        | cons h _ ih => exact .cons h ih
      exact ap (paired_same sn p2) (paired_same sn q2)
section
variable {P : Program} {w : World} {K : PySem.W.Frag} {mg : Str → Option Value} {base : Heap}
def spWRow (K : PySem.W.Frag) : Sp := fun vs H Q _ => ∃ (v x : V) (bs : List Box) (hs : List HnD), vs = [v, x] ∧ Pairs K H v bs ∧ (bs.map (·.1)).Nodup ∧ bs.length ≤ 8 ∧ Dq K H 3 x (.tuple (hs.map hndD)) ∧ scanH bs [] 0 (hs.map hndD) = .inl hs ∧ TK (.tuple (hs.map hndD)) ∧ (PyData.tuple (hs.map hndD)).depth ≤ 60 ∧ hs.length ≤ 1000 ∧
  (hs.all (handG bs (hs.map (·.nm))) = true → ∀ H', Same H H' → Q .non H') ∧
  (hs.all (handG bs (hs.map (·.nm))) = false → ∀ i j a, Wrong bs hs i j a → ∀ H' u, Same H H' → Dp K H' u (.tuple [.int (i : Nat), .int (j : Nat), .int (a : Nat)]) → Q u H')
set_option maxHeartbeats 32000000 in
theorem ok_wrow {f : Addr} {fd : FuncData} {k : Nat} (F : Fun K "_law_wrong_row" "_law_wrong_row" s_law_wrong_row f fd) (DR : Def P w K mg base CX0 (k + 3) "_law_is_row" ["_law_sizes", "_law_titles", "_law_others", "_law_many", "_law_line"] (spLRow K))
    (m_enumerate : mg "enumerate" = none) (m_dict : mg "dict" = none) (m_len : mg "len" = none) : FnOk P w K mg base CX0 (k + 3 + 1) f fd ["_law_boxes", "_law_hands"] (spWRow K) := by
  refine F.ok scWRow (fun vs H Q E h => ?_) (fun cdv A outer s H vs Q E hr h => ?_)
  · obtain ⟨v, x, bs, hs, rfl, _⟩ := h
    rfl
  obtain ⟨v, x, bs, hs, rfl, hp, hnd, l8, hx, hscan, tk, dep, lh, qy, qn⟩ := h
  have nd := scWRow.nd
  have hu := hu_of hr
  refine ⟨_, (pss_cons (ps_for PassesOwn.never rfl (EN.pi_enumT (by rfl) m_enumerate (pa_cons (pv 1) pa_nil)) (pg_tup rfl (pgs_cons (pg_name (i := 2) nd rfl (.inl rfl)) (pgs_cons (pg_name (i := 3) nd rfl (.inr rfl)) pgs_nil)))
      (pss_cons (ps_set (i := 4) nd rfl (.inl rfl) (pe_callTy (T := "dict") (cr_dictT rfl) (by rfl) m_dict (by decide +kernel) (pa_cons (pe_op op_catP (pv 0) (pe_ix ix_tup (pv 3) pe_int (fun _ _ => rfl))) pa_nil)))
    (pss_cons (ps_setLc (i := 5) (own := [("_law_title", 6), ("_law_rows", 7)]) (g := (gTup K 2 (gCons (gName 6) (gCons (gName 7) gNil)))) (tt := tYes) (by rfl) nd rfl rfl (sw_true rfl rfl rfl (by decide +kernel)) (pi_tup (pe_ix ix_tup (pv 3) pe_int (fun _ _ => rfl))) (blkOk_by (N := nWRow) (sc := defScope s_law_wrong_row) (by decide +kernel)) (fun _ _ _ _ _ => (pg_tup rfl (pgs_cons (pg_name (i := 6) nd rfl (.inl rfl)) (pgs_cons (pg_name (i := 7) nd rfl (.inl rfl)) pgs_nil)))) (fun _ _ _ _ _ => pts_nil) (fun _ _ _ _ _ => (pv 6)))
    (pss_cons (ps_setLc (i := 8) (own := [("_law_other", 9)]) (g := (gName 9)) (by rfl) nd rfl rfl (sw_true rfl rfl rfl (by decide +kernel)) (pi_tup (pv 1)) (blkOk_by (N := nWRow) (sc := defScope s_law_wrong_row) (by decide +kernel)) (fun _ _ _ _ _ => (pg_name (i := 9) nd rfl (.inl rfl))) (fun _ _ _ _ _ => (pts_one  (pt_cmpR op_ne (pe_ix (r := rIxT K) ix_tup (pv 9) pe_int (fun _ _ => rfl)) (pe_ix (r := rIxT K) ix_tup (pv 3) pe_int (fun _ _ => rfl)) (nomark _)))) (fun _ _ _ _ _ => (pe_ix (r := rIxT K) ix_tup (pv 9) pe_int (fun _ _ => rfl))))
    (pss_one (ps_for PassesOwn.never rfl (EN.pi_enumT (by rfl) m_enumerate (pa_cons (pe_ix ix_tup (pv 3) pe_int (fun _ _ => rfl)) pa_nil)) (pg_tup rfl (pgs_cons (pg_name (i := 10) nd rfl (.inl rfl)) (pgs_cons (pg_name (i := 11) nd rfl (.inl rfl)) pgs_nil)))
      (pss_one (ps_for PassesOwn.never rfl (EN.pi_enumT (by rfl) m_enumerate (pa_cons (pe_ix ix_tup (pv 11) pe_int (fun _ _ => rfl)) pa_nil)) (pg_tup rfl (pgs_cons (pg_name (i := 12) nd rfl (.inl rfl)) (pgs_cons (pg_name (i := 13) nd rfl (.inl rfl)) pgs_nil)))
      (pss_one (ps_if (pt_not (pt_val (pe_call DR.ok hr (by rfl) DR.g DR.kp DR.b .nil pass0 (pa_cons (pv 4) (pa_cons (pv 5) (pa_cons (pv 8) (pa_cons (pe_callB call_len_seq (by rfl) m_len PySem.boot_len (pa_cons (pe_ix ix_tup (pv 11) pe_int (fun _ _ => rfl)) pa_nil)) (pa_cons (pv 13) pa_nil)))))))) (pss_one (ps_ret (pe_tup (pa_cons (pv 2) (pa_cons (pv 10) (pa_cons (pv 12) pa_nil)))))) pss_nil))))))))))
    (pss_one (ps_ret pe_non))), ?_⟩
  obtain ⟨a, xs, rfl, ha, hall, hxl⟩ := dq_tup hx
  rw [List.length_map] at hxl
  have own := (scanH_data _ _ _ hs hscan).2
  refine ⟨_, rfl, a, xs, rfl, ha.sq, for_enumT (xs := xs) (fun i σ H3 => ∃ y2 y3 y4 y5 y6 y7 y8 y9 y10 y11 y12 y13, σ = [some v, some (.ref a), y2, y3, y4, y5, y6, y7, y8, y9, y10, y11, y12, y13] ∧ Same H H3 ∧ (hs.take i).all (handG bs (hs.map (·.nm))) = true) ⟨_, _, _, _, _, _, _, _, _, _, _, _, rfl, Same.refl _, rfl⟩ (fun i σ H3 hP => ?_) (fun i e T σ H3 he hP nT => ?_) (fun σ H3 hP => ?_)⟩
  · obtain ⟨_, _, _, _, _, _, _, _, _, _, _, _, _, sm, _⟩ := hP
    exact (ha.same sm).sq
  · obtain ⟨y2, y3, y4, y5, y6, y7, y8, y9, y10, y11, y12, y13, rfl, sm, hpre⟩ := hP
    obtain ⟨d, hd, hd0⟩ := dqAll_get hall he
    rw [List.getElem?_map] at hd
    obtain ⟨h, hh, rfl⟩ := Option.map_eq_some_iff.mp hd
    have mem := List.mem_of_getElem? hh
    obtain ⟨o1, o2, o3, o4⟩ := own h mem
    have memD : hndD h ∈ hs.map hndD := List.mem_map_of_mem mem
    have tkH := (tk.of_tup _ memD)
    have dpH : (hndD h).depth ≤ 60 := Nat.le_trans (depth_mem memD) dep
    obtain ⟨c, cs, rfl, hc0, hcs, _⟩ := dq_tup (show Dq K H 2 e (.tuple [.str h.nm, .tuple (h.own.map boxD), .tuple (h.ts.map textDD)]) from hd0)
    cases hcs with
    | cons g0 hcs =>
    cases hcs with
    | cons g1 hcs =>
    cases hcs with
    | cons g2 hcs =>
    cases hcs
    cases dq_str g0
    obtain ⟨ta, ws, rfl, hta0, hws, hwl⟩ := dq_tup g2
    rw [List.length_map] at hwl
    have sT : Same H3 (upd H3 T (.tup [.int (i : Nat), .ref c])) := same_new nT
    have hT : (upd H3 T (.tup [.int (i : Nat), .ref c])) T = some (.tup [.int (i : Nat), .ref c]) := upd_same
    have s1 := sm.trans sT
    generalize upd H3 T (.tup [.int (i : Nat), .ref c]) = G at hT s1 ⊢
    clear sT sm nT
    refine ⟨T, _, rfl, SqT.of hT, rfl, _, _, rfl, _, _, rfl, rfl, ?_⟩
    have hcG := (hc0.same s1).sq (K := K)
    refine ⟨_, rfl, _, rfl, c, _, 1, _, rfl, rfl, hcG, atI_nat (j := 1) rfl, ?_⟩
    refine cat_pairs (hp.same s1) ((pairs_of_boxes g1).same s1) (by omega) fun r G2 s2 pr => ?_
    obtain ⟨va, ps, rfl, p1, p2⟩ := pr
    have nd2 : ((bs ++ h.own).map (·.1)).Nodup := by
      rw [List.map_append]
      refine List.nodup_append.mpr ⟨hnd, o1, fun a ha b hb e => ?_⟩
      obtain ⟨bb, hbb, rfl⟩ := List.mem_map.mp hb
      exact o2 bb hbb (e ▸ ha)
    refine ⟨va, ps, _, rfl, p1, p2, fun p np => ?_⟩
    rw [merge_boxes nd2]
    have s3 : Same G2 (upd G2 p (.dK ((bs ++ h.own).map boxK))) := same_new np
    have hp3 : SizesE (upd G2 p (.dK ((bs ++ h.own).map boxK))) p (bs ++ h.own) := ⟨_, .inl upd_same, size_valA⟩
    have s13 := (s1.trans s2).trans s3
    generalize upd G2 p (.dK ((bs ++ h.own).map boxK)) = G3' at hp3 s13 ⊢
    clear s1 s2 s3 hcG p1 p2 np hT
    -- titles
    have hc3 := (hc0.same s13).sq (K := K)
    have hta3 := (hta0.same s13).sq (K := K)
    refine ⟨_, rfl, c, _, 2, _, rfl, rfl, hc3, atI_nat (j := 2) rfl, ta, rfl, ⟨_, hta3⟩, fun D nD => ?_⟩
    refine lc_at (walk_tup (a := ta) (xs := ws) (K := K)) (fun H4 s4 => same_tup s4 hta3) (by omega) nD ((h.ts.map (·.1)).map V.str) (by rw [List.length_map, List.length_map]; omega) (fun j x y H4 R hx hy s4 fin => ?_) (fun H4 s4 hD => ?_)
    · obtain ⟨e1, he1, hx0⟩ := dqAll_get hws hx
      rw [List.getElem?_map] at he1
      obtain ⟨t0, ht0, rfl⟩ := Option.map_eq_some_iff.mp he1
      rw [List.map_map, List.getElem?_map, ht0] at hy
      cases hy
      obtain ⟨c2, x1, x2, rfl, hc2, f1, f2⟩ := dp2 (dp_same (s13.trans s4) _ _ (dq_dp _ _ (show Dq K H 0 x (.tuple [.str t0.1, .tuple t0.2]) from hx0)))
      cases dp_str f1
      exact ⟨c2, _, rfl, hc2, rfl, _, _, rfl, _, _, rfl, rfl, rfl, _, rfl, fin _ (Same.refl _)⟩
    have s14 := s13.trans s4
    have hp4 := hp3.same s4
    generalize H4 = G4' at hD s14 hp4 ⊢
    clear s4 s13 hp3 hc3 hta3 nD
    -- the others
    have ha4 := (ha.same s14).sq (K := K)
    refine ⟨_, rfl, a, rfl, ⟨_, ha4⟩, fun D2 nD2 => ?_⟩
    refine lc_pick (walk_tup (a := a) (xs := xs) (K := K)) (fun H5 s5 => same_tup s5 ha4) (by omega) nD2 (hs.map fun h' => (decide (h'.nm ≠ h.nm), V.str h'.nm)) (by rw [List.length_map]; omega) (fun j x b y H5 R hx hy s5 fin => ?_) (fun H5 s5 hD2 => ?_)
    · obtain ⟨e1, he1, hx0⟩ := dqAll_get hall hx
      rw [List.getElem?_map] at he1 hy
      obtain ⟨h0, hh0, rfl⟩ := Option.map_eq_some_iff.mp he1
      rw [hh0] at hy
      cases hy
      obtain ⟨c2, x0, x1, x2, rfl, hc2, f0, _, _⟩ := dp3 (dp_same (s14.trans s5) _ _ (dq_dp _ _ (show Dq K H 2 x (.tuple [.str h0.nm, .tuple (h0.own.map boxD), .tuple (h0.ts.map textDD)]) from hx0)))
      cases dp_str f0
      refine ⟨rfl, _, rfl, c2, _, 0, _, rfl, rfl, hc2, atI_nat (j := 0) rfl, _, rfl, c, _, 0, _, rfl, rfl, (hc0.same (s14.trans s5)).sq, atI_nat (j := 0) rfl, rfl, _, rfl, ?_⟩
      have ee : (!decide (V.str h0.nm = V.str h.nm)) = decide (h0.nm ≠ h.nm) := by
        rw [Bool.eq_iff_iff]
        simp
      rw [ee]
      exact fin _ H5 (Same.refl _) fun _ Q' q => ⟨_, rfl, c2, _, 0, _, rfl, rfl, hc2, atI_nat (j := 0) rfl, q _ (Same.refl _)⟩
    have ep : picked (hs.map fun h' => (decide (h'.nm ≠ h.nm), V.str h'.nm)) = ((hs.filter fun h' => decide (h'.nm ≠ h.nm)).map (·.nm)).map V.str := by
      unfold picked
      rw [List.filter_map, List.map_map, List.map_map]
      rfl
    rw [ep] at hD2
    have s15 := s14.trans s5
    have hp5 := hp4.same s5
    have hD5 := s5 _ _ hD
    generalize H5 = G5 at hD2 s15 hp5 hD5 ⊢
    clear s5 s14 hp4 hD ha4 nD2 ep
    have hoth : ∀ t, t ∈ (hs.filter fun h' => decide (h'.nm ≠ h.nm)).map (·.nm) ↔ t ≠ h.nm ∧ t ∈ hs.map (·.nm) := fun t => by
      constructor
      · intro m
        obtain ⟨b, hb, rfl⟩ := List.mem_map.mp m
        obtain ⟨b1, b2⟩ := List.mem_filter.mp hb
        exact ⟨of_decide_eq_true b2, List.mem_map_of_mem b1⟩
      · rintro ⟨m1, m2⟩
        obtain ⟨b, hb, rfl⟩ := List.mem_map.mp m2
        exact List.mem_map_of_mem (List.mem_filter.mpr ⟨hb, decide_eq_true m1⟩)
    -- the texts
    refine ⟨_, rfl, c, _, 2, _, rfl, rfl, (hc0.same s15).sq, atI_nat (j := 2) rfl, ta, ws, rfl, (hta0.same s15).sq, for_enumT (xs := ws) (fun j σ H6 => ∃ y6 y7 y9 y10 y11 y12 y13, σ = [some v, some (.ref a), some (.int (i : Nat)), some (.ref c), some (.ref p), some (.ref D), y6, y7, some (.ref D2), y9, y10, y11, y12, y13] ∧ Same G5 H6 ∧ (h.ts.take j).all (rowsG bs (hs.map (·.nm)) h) = true)
      ⟨_, _, _, _, _, _, _, rfl, Same.refl _, rfl⟩ (fun j σ H6 hP => ?_) (fun j e2 T2 σ H6 he2 hP nT2 => ?_) (fun σ H6 hP => ?_)⟩
    · obtain ⟨_, _, _, _, _, _, _, _, sm, _⟩ := hP
      exact (hta0.same (s15.trans sm)).sq
    · obtain ⟨y6, y7, y9, y10, y11, y12, y13, rfl, s6, hpre2⟩ := hP
      obtain ⟨d2, hd2, hd20⟩ := dqAll_get hws he2
      rw [List.getElem?_map] at hd2
      obtain ⟨te, hte, rfl⟩ := Option.map_eq_some_iff.mp hd2
      have memT : te ∈ h.ts := List.mem_of_getElem? hte
      have tkT : TK (textDD te) := (tkH.of_tup (.tuple (h.ts.map textDD)) (by simp)).of_tup _ (List.mem_map_of_mem memT)
      have dpT : (textDD te).depth ≤ 60 := Nat.le_trans (depth_mem (List.mem_map_of_mem memT)) (Nat.le_trans (depth_mem (ds := [.str h.nm, .tuple (h.own.map boxD), .tuple (h.ts.map textDD)]) (by simp)) dpH)
      obtain ⟨cp, cps, rfl, hcp0, hcps, _⟩ := small_of (dq_dp _ _ (show Dq K H 0 e2 (.tuple [.str te.1, .tuple te.2]) from hd20))
      cases hcps with
      | cons f0 hcps =>
      cases hcps with
      | cons f1 hcps =>
      cases hcps
      cases dp_str f0
      obtain ⟨ra, rws, rfl, hra0, hrr, hrl⟩ := small_of f1
      have sT : Same H6 (upd H6 T2 (.tup [.int (j : Nat), .ref cp])) := same_new nT2
      have hT2 : (upd H6 T2 (.tup [.int (j : Nat), .ref cp])) T2 = some (.tup [.int (j : Nat), .ref cp]) := upd_same
      have s7 := s6.trans sT
      generalize upd H6 T2 (.tup [.int (j : Nat), .ref cp]) = G7 at hT2 s7 ⊢
      refine ⟨T2, _, rfl, SqT.of hT2, rfl, _, _, rfl, _, _, rfl, rfl, ?_⟩
      have s17 := s15.trans s7
      refine ⟨_, rfl, cp, _, 1, _, rfl, rfl, (same_tup s17 hcp0), atI_nat (j := 1) rfl, ra, rws, rfl, (same_tup s17 hra0), for_enumT (xs := rws) (fun a1 σ H8 => ∃ y6 y7 y9 y12 y13, σ = [some v, some (.ref a), some (.int (i : Nat)), some (.ref c), some (.ref p), some (.ref D), y6, y7, some (.ref D2), y9, some (.int (j : Nat)), some (.ref cp), y12, y13] ∧ Same G7 H8 ∧ (te.2.take a1).all (rowP (bs ++ h.own) (h.ts.map (·.1)) (hs.map (·.nm)) h.nm te.2.length) = true)
        ⟨_, _, _, _, _, rfl, Same.refl _, rfl⟩ (fun a1 σ H8 hP => ?_) (fun a1 r T3 σ H8 hr3 hP nT3 => ?_) (fun σ H8 hP => ?_)⟩
      · obtain ⟨_, _, _, _, _, _, sm, _⟩ := hP
        exact (same_tup (s17.trans sm) hra0)
      · obtain ⟨y6, y7, y9, y12, y13, rfl, s8, hpre3⟩ := hP
        obtain ⟨dr, hdr, hr0⟩ := dpAll_get hrr hr3
        have memR := List.mem_of_getElem? hdr
        have tkR : TK dr := (tkT.of_tup (.tuple te.2) (by simp)).of_tup _ memR
        have dpR : dr.depth ≤ 60 := Nat.le_trans (depth_mem memR) (Nat.le_trans (depth_mem (ds := [.str te.1, .tuple te.2]) (by simp)) dpT)
        have sT : Same H8 (upd H8 T3 (.tup [.int (a1 : Nat), r])) := same_new nT3
        have hT3 : (upd H8 T3 (.tup [.int (a1 : Nat), r])) T3 = some (.tup [.int (a1 : Nat), r]) := upd_same
        have s9 := s8.trans sT
        generalize upd H8 T3 (.tup [.int (a1 : Nat), r]) = G9 at hT3 s9 ⊢
        refine ⟨T3, _, rfl, SqT.of hT3, rfl, _, _, rfl, _, _, rfl, rfl, ?_⟩
        have s79 := s7.trans s9
        have s19 := s15.trans s79
        refine ⟨_, rfl, _, rfl, _, rfl, _, rfl, cp, _, 1, _, rfl, rfl, (same_tup s19 hcp0), atI_nat (j := 1) rfl, ra, _, rfl, .inr (same_tup s19 hra0), _, rfl, p, D, D2, _, r, dr, bs ++ h.own, h.ts.map (·.1), _, hs.map (·.nm), h.nm, rfl, hp5.same s79, SqL.of (s79 _ _ hD5), SqL.of (s79 _ _ hD2), hoth, dp_same s19 _ _ hr0, tkR, dpR, fun H10 s10 => ⟨_, rfl, ?_⟩⟩
        rw [hrl]
        cases hrow : rowP (bs ++ h.own) (h.ts.map (·.1)) (hs.map (·.nm)) h.nm te.2.length dr with
        | true => exact iteF ⟨_, _, _, _, _, rfl, s9.trans s10, take_all hpre3 hdr hrow⟩
        | false =>
          refine iteT ⟨_, rfl, _, rfl, _, rfl, lz3, fun t nt => ?_⟩
          have bad : hs.all (handG bs (hs.map (·.nm))) = false := by
            refine all_no mem ?_
            unfold handG
            refine all_no memT ?_
            unfold rowsG
            exact all_no memR hrow
          exact qn bad i j a1 ⟨h, te, dr, hh, hte, hdr, hrow, hpre3, hpre2, hpre⟩ _ _ ((s19.trans s10).trans (same_new nt)) (.tup (SqT.of upd_same) (.cons (.int _) (.cons (.int _) (.cons (.int _) .nil))))
      · obtain ⟨y6, y7, y9, y12, y13, rfl, s8, hpre3⟩ := hP
        rw [hrl, List.take_length] at hpre3
        exact ⟨_, _, _, _, _, _, _, rfl, s7.trans s8, take_all hpre2 hte hpre3⟩
    · obtain ⟨y6, y7, y9, y10, y11, y12, y13, rfl, s6, hpre2⟩ := hP
      rw [hwl, List.take_length] at hpre2
      exact ⟨_, _, _, _, _, _, _, _, _, _, _, _, rfl, s15.trans s6, take_all hpre hh hpre2⟩
  · obtain ⟨y2, y3, y4, y5, y6, y7, y8, y9, y10, y11, y12, y13, rfl, sm, hpre⟩ := hP
    rw [hxl, List.take_length] at hpre
    exact qy hpre _ sm
end
end PP

set_option maxHeartbeats 4000000
namespace PP
open PySem PySem.Spec PyProof.Rows L2 G0 G3 G4 G5 M0 PA EE QA LC SX PT EN E8 EB EC
/-! ### the verdict -/
def tri (a b c : Dt) : Dt := .tuple [a, b, c]
def Verd (d r : Dt) : Prop := (topP d = none ∧ r = tri .none .none .none) ∨ ∃ bs ds, topP d = some (bs, ds) ∧ ((∃ i j, scanH bs [] 0 ds = .inr (i, j) ∧ r = tri (.int (i : Nat)) (oD j) .none) ∨
  ∃ hs, scanH bs [] 0 ds = .inl hs ∧ ((hs.all (handG bs (hs.map (·.nm))) = true ∧ r = .none) ∨ (hs.all (handG bs (hs.map (·.nm))) = false ∧ ∃ i j a, Wrong bs hs i j a ∧ r = tri (.int (i : Nat)) (.int (j : Nat)) (.int (a : Nat)))))
theorem first_one {α : Type} {l : List α} {p : α → Bool} {i j : Nat} {x y : α} (h1 : (l.take i).all p = true) (h2 : l[i]? = some x) (h3 : p x = false) (g1 : (l.take j).all p = true) (g2 : l[j]? = some y) (g3 : p y = false) : i = j := by
  have key : ∀ {i j : Nat} {x : α}, i < j → (l.take j).all p = true → l[i]? = some x → p x = false → False := fun {i j x} lt a b c => by
    have m : x ∈ l.take j := by
      refine List.mem_of_getElem? (i := i) ?_
      rw [List.getElem?_take, if_pos lt]
      exact b
    rw [List.all_eq_true.mp a x m] at c
    cases c
  rcases Nat.lt_trichotomy i j with z | z | z
  · exact (key z g1 h2 h3).elim
  · exact z
  · exact (key z h1 g2 g3).elim
theorem wrong_one {bs : List Box} {hs : List HnD} {i j a i' j' a' : Nat} (h : Wrong bs hs i j a) (g : Wrong bs hs i' j' a') : i = i' ∧ j = j' ∧ a = a' := by
  obtain ⟨h, t, d, h1, h2, h3, h4, h5, h6, h7⟩ := h
  obtain ⟨h', t', d', g1, g2, g3, g4, g5, g6, g7⟩ := g
  have tb : ∀ {h : HnD} {t : TxD} {d : Dt} {a : Nat}, t.2[a]? = some d → rowP (bs ++ h.own) (h.ts.map (·.1)) (hs.map (·.nm)) h.nm t.2.length d = false → rowsG bs (hs.map (·.nm)) h t = false := fun e b => all_no (List.mem_of_getElem? e) b
  have hb : ∀ {h : HnD} {t : TxD} {j : Nat}, h.ts[j]? = some t → rowsG bs (hs.map (·.nm)) h t = false → handG bs (hs.map (·.nm)) h = false := fun e b => all_no (List.mem_of_getElem? e) b
  obtain rfl := first_one h7 h1 (hb h2 (tb h3 h4)) g7 g1 (hb g2 (tb g3 g4))
  rw [h1] at g1
  cases g1
  obtain rfl := first_one h6 h2 (tb h3 h4) g6 g2 (tb g3 g4)
  rw [h2] at g2
  cases g2
  exact ⟨rfl, rfl, first_one h5 h3 h4 g5 g3 g4⟩
theorem verd_one {d r r' : Dt} (h : Verd d r) (g : Verd d r') : r = r' := by
  rcases h with ⟨h1, rfl⟩ | ⟨bs, ds, h1, h⟩
  · rcases g with ⟨_, rfl⟩ | ⟨_, _, g1, _⟩
    · rfl
    · rw [h1] at g1; cases g1
  · rcases g with ⟨g1, _⟩ | ⟨bs', ds', g1, g⟩
    · rw [h1] at g1; cases g1
    · rw [h1] at g1
      cases g1
      rcases h with ⟨i, j, h2, rfl⟩ | ⟨hs, h2, h⟩
      · rcases g with ⟨i', j', g2, rfl⟩ | ⟨hs', g2, _⟩
        · rw [h2] at g2; cases g2; rfl
        · rw [h2] at g2; cases g2
      · rcases g with ⟨_, _, g2, _⟩ | ⟨hs', g2, g⟩
        · rw [h2] at g2; cases g2
        · rw [h2] at g2
          cases g2
          rcases h with ⟨h3, rfl⟩ | ⟨h3, i, j, a, hw, rfl⟩
          · rcases g with ⟨_, rfl⟩ | ⟨g3, _⟩
            · rfl
            · rw [h3] at g3; cases g3
          · rcases g with ⟨g3, _⟩ | ⟨_, i', j', a', gw, rfl⟩
            · rw [h3] at g3; cases g3
            · obtain ⟨rfl, rfl, rfl⟩ := wrong_one hw gw
              rfl
theorem top_not {d : Dt} (h : isTup d = false) : topP d = none := by
  cases d with
  | tuple es => cases h
  | _ => rfl
theorem top_len {ds : List Dt} (h : ds.length ≠ 2) : topP (.tuple ds) = none := by
  unfold topP
  split
  · rename_i z; cases z; exact absurd rfl h
  · rfl
theorem top_hands {d1 d2 : Dt} (h : isTup d2 = false) : topP (.tuple [d1, d2]) = none := by
  cases d2 with
  | tuple es => cases h
  | _ => rfl
theorem top_eq (d1 : Dt) (ds : List Dt) : topP (.tuple [d1, .tuple ds]) = if decide (1 ≤ ds.length) && decide (ds.length ≤ 4) then (boxesP 8 4 [] d1).map (·, ds) else none := rfl
/-- what may be looked at -/
structure Itm (d : Dt) : Prop where
  nc : nice d = true
  sl : SL d
  dp : d.depth ≤ 50
  bk : d.bulk ≤ 2 ^ 20
mutual
theorem tk_of : ∀ d : Dt, d.canLay0 = true → TK d
  | .none, _ => .non
  | .bool b, _ => .bl b
  | .int i, _ => .int i
  | .str z, h => .str (by simpa only [PyData.canLay0] using h)
  | .list l, h => .lst (tkAll_of l (by simpa only [PyData.canLay0] using h))
  | .tuple l, h => .tup (tkAll_of l (by simpa only [PyData.canLay0] using h))
  | .dict l, h => by simp only [PyData.canLay0] at h; cases h
theorem tkAll_of : ∀ l : List Dt, PyData.canLayAll0 l = true → ∀ d ∈ l, TK d
  | [], _ => fun d hd => by cases hd
  | x :: l, h => fun d hd => by
    have h2 : x.canLay0 = true ∧ PyData.canLayAll0 l = true := by simpa only [PyData.canLayAll0, Bool.and_eq_true] using h
    rcases List.mem_cons.mp hd with e | hd
    · rw [e]
      exact tk_of x h2.1
    · exact tkAll_of l h2.2 d hd
end
theorem Itm.tk {d : Dt} (h : Itm d) : TK d := tk_of d (nice_lay h.nc)
abbrev nWrong : List Str := ["_law_item"]
theorem scWrong : FnScope nWrong ["_law_item"] (defScope s_law_wrong) := ⟨rfl, rfl, rfl, by decide +kernel, rfl, by decide +kernel, by decide +kernel⟩
abbrev nTold : List Str := ["_law_item", "e"]
theorem scTold : FnScope nTold ["_law_item"] (defScope s_law_told) := ⟨rfl, rfl, rfl, by decide +kernel, rfl, by decide +kernel, by decide +kernel⟩
abbrev nRight : List Str := ["_law_item", "_law_due", "_law_kept"]
theorem scRight : FnScope nRight ["_law_item"] (defScope s_law_right) := ⟨rfl, rfl, rfl, by decide +kernel, rfl, by decide +kernel, by decide +kernel⟩
section
variable {P : Program} {w : World} {K : PySem.W.Frag} {mg : Str → Option Value} {base : Heap}
def spWrong (K : PySem.W.Frag) : Sp := fun vs H Q _ => ∃ (x : V) (d : Dt), vs = [x] ∧ Dq K H 4 x d ∧ Itm d ∧ ∀ r H' u, Verd d r → Same H H' → Dp K H' u r → Q u H'
set_option maxHeartbeats 16000000 in
theorem ok_wrong {f : Addr} {fd : FuncData} {k : Nat} (F : Fun K "_law_wrong" "_law_wrong" s_law_wrong f fd) (DB : Def P w K mg base CX0 (k + 3) "_law_are_boxes" ["_law_item", "_law_most", "_law_size"] (spLBoxes K)) (DH : Def P w K mg base CX0 (k + 3) "_law_wrong_hand" ["_law_boxes", "_law_hands"] (spWHand K)) (DR : Def P w K mg base CX0 (k + 4) "_law_wrong_row" ["_law_boxes", "_law_hands"] (spWRow K))
    (m_isinstance : mg "isinstance" = none) (m_tuple : mg "tuple" = none) (m_len : mg "len" = none) : FnOk P w K mg base CX0 (k + 4 + 1) f fd ["_law_item"] (spWrong K) := by
  refine F.ok scWrong (fun vs H Q E h => ?_) (fun cdv A outer s H vs Q E hr h => ?_)
  · obtain ⟨x, d, rfl, _⟩ := h
    rfl
  obtain ⟨x, d, rfl, hx, it, q⟩ := h
  have nd := scWrong.nd
  have ov : True := trivial
  refine ⟨_, (pss_cons (ps_if (PW.pt (pw_or (pt_not (pt_val (pe_callB call_isi (by rfl) m_isinstance PyProof.Rows.boot_isinstance (pa_cons (pv 0) (pa_cons (pe_bltn (by rfl) m_tuple (u := .type "tuple") (by decide +kernel) (show RelV (.ty "tuple") (.type "tuple") from rfl)) pa_nil))))) (pw_or (pt_cmpR op_ne (pe_callB call_len_seq (by rfl) m_len PySem.boot_len (pa_cons (pv 0) pa_nil)) pe_int (nomark _)) (pw_or1 (pt_not (pt_val (pe_call DB.ok (hr.mono (by omega)) (by rfl) DB.g DB.kp DB.b .nil pass0 (pa_cons (pe_ix ix_tup (pv 0) pe_int (fun _ _ => rfl)) (pa_cons pe_int (pa_cons pe_int pa_nil)))))))))) (pss_one (ps_ret (pe_tup (pa_cons pe_non (pa_cons pe_non (pa_cons pe_non pa_nil)))))) pss_nil)
    (pss_cons (ps_if (PW.pt (pw_or (pt_not (pt_val (pe_callB call_isi (by rfl) m_isinstance PyProof.Rows.boot_isinstance (pa_cons (pe_ix ix_tup (pv 0) pe_int (fun _ _ => rfl)) (pa_cons (pe_bltn (by rfl) m_tuple (u := .type "tuple") (by decide +kernel) (show RelV (.ty "tuple") (.type "tuple") from rfl)) pa_nil))))) (pw_or1 (pt_not (pt_chain op_le op_le pe_int (pe_callB call_len_seq (by rfl) m_len PySem.boot_len (pa_cons (pe_ix ix_tup (pv 0) pe_int (fun _ _ => rfl)) pa_nil)) pe_int))))) (pss_one (ps_ret (pe_tup (pa_cons pe_non (pa_cons pe_non (pa_cons pe_non pa_nil)))))) pss_nil)
    (pss_one (ps_ret (pe_orT (pe_call DH.ok (hr.mono (by omega)) (by rfl) DH.g DH.kp DH.b .nil pass0 (pa_cons (pe_ix ix_tup (pv 0) pe_int (fun _ _ => rfl)) (pa_cons (pe_ix ix_tup (pv 0) pe_int (fun _ _ => rfl)) pa_nil))) (pe_one (pe_call DR.ok hr (by rfl) DR.g DR.kp DR.b .nil pass0 (pa_cons (pe_ix ix_tup (pv 0) pe_int (fun _ _ => rfl)) (pa_cons (pe_ix ix_tup (pv 0) pe_int (fun _ _ => rfl)) pa_nil))))))))), ?_⟩
  have bad : topP d = none → ∀ G, Same H G → ∀ t, G t = none → Q (.ref t) (upd G t (.tup [.non, .non, .non])) := fun z G s t nt => q _ _ _ (.inl ⟨z, rfl⟩) (s.trans (same_new nt)) (.tup (SqT.of upd_same) (.cons .non (.cons .non (.cons .non .nil))))
  have hd := dq_dp _ _ hx
  refine ⟨_, rfl, _, _, _, _, _, rfl, .ty "tuple", dp_ty hd, kit_tup K hd, _, rfl, ?_⟩
  by_cases dt : isTup d = true
  rotate_left
  · rw [show isTup d = false by simpa using dt]
    exact iteT (iteT ⟨lz3, fun t nt => bad (top_not (by simpa using dt)) H (Same.refl _) t nt⟩)
  obtain ⟨es, rfl⟩ := isT_tup d dt
  obtain ⟨a, xs, rfl, ha, hall, hxl⟩ := dq_tup hx
  refine iteF ⟨_, rfl, a, _, rfl, .inr ha.sq, rfl, _, rfl, ?_⟩
  by_cases l2 : es.length = 2
  rotate_left
  · rw [ne_int (show (xs.length : Int) ≠ 2 by omega)]
    exact iteT (iteT ⟨lz3, fun t nt => bad (top_len l2) H (Same.refl _) t nt⟩)
  rw [eq_int (show (xs.length : Int) = 2 by omega)]
  obtain ⟨d1, d2, rfl⟩ := len2 l2
  cases hall with
  | @cons _ v1 _ _ _ g1 hall =>
  cases hall with
  | @cons _ v2 _ _ _ g2 hall =>
  cases hall
  have sls := it.sl.of_tup
  have tks := it.tk.of_tup
  refine iteF ⟨_, rfl, a, _, 0, _, rfl, rfl, ha.sq, atI_nat (j := 0) rfl, v1, d1, 8, 4, rfl, dq_dp _ _ g1, sls _ (by simp), tks _ (by simp), by decide, fun G s1 => ⟨_, rfl, ?_⟩⟩
  cases eb : boxesP 8 4 [] d1 with
  | none =>
    refine iteT ⟨lz3, fun t nt => bad ?_ G s1 t nt⟩
    cases q2 : isTup d2 with
    | false => exact top_hands q2
    | true =>
      obtain ⟨ds, rfl⟩ := isT_tup d2 q2
      rw [top_eq, eb]
      split <;> rfl
  | some bs =>
  have haG := ha.same s1
  have h2G := dp_same s1 _ _ (dq_dp _ _ g2)
  refine iteF ⟨_, rfl, a, _, 1, _, rfl, rfl, haG.sq, atI_nat (j := 1) rfl, _, _, _, _, _, rfl, .ty "tuple", dp_ty h2G, kit_tup K h2G, _, rfl, ?_⟩
  by_cases q2 : isTup d2 = true
  rotate_left
  · rw [show isTup d2 = false by simpa using q2]
    exact iteT (iteT ⟨lz3, fun t nt => bad (top_hands (by simpa using q2)) G s1 t nt⟩)
  obtain ⟨ds, rfl⟩ := isT_tup d2 q2
  obtain ⟨c, ys, rfl, hc0, hys, hyl⟩ := dq_tup g2
  have hc := hc0.same s1
  refine iteF ⟨_, rfl, a, _, 1, _, rfl, rfl, haG.sq, atI_nat (j := 1) rfl, c, _, rfl, .inr hc.sq, _, _, rfl, rfl, _, rfl, ?_⟩
  have top := top_eq d1 ds
  by_cases w1 : 1 ≤ ds.length
  rotate_left
  · rw [decide_eq_false (show ¬ (1 : Int) ≤ (ys.length : Int) by omega)]
    rw [decide_eq_false w1] at top
    exact iteF ⟨_, rfl, iteT ⟨lz3, fun t nt => bad top G s1 t nt⟩⟩
  rw [decide_eq_true (show (1 : Int) ≤ (ys.length : Int) by omega)]
  refine iteT ⟨_, _, rfl, rfl, _, rfl, ?_⟩
  by_cases w4 : ds.length ≤ 4
  rotate_left
  · rw [decide_eq_false (show ¬ (ys.length : Int) ≤ 4 by omega)]
    rw [decide_eq_false w4, Bool.and_false] at top
    exact iteT ⟨lz3, fun t nt => bad top G s1 t nt⟩
  rw [decide_eq_true (show (ys.length : Int) ≤ 4 by omega)]
  rw [decide_eq_true w1, decide_eq_true w4, eb] at top
  replace top : topP (.tuple [d1, .tuple ds]) = some (bs, ds) := top
  obtain ⟨e1, hnd, _, l8⟩ := boxes_data eb
  subst e1
  have pr := (pairs_of_boxes g1).same s1
  refine iteF ⟨_, rfl, a, _, 0, _, rfl, rfl, haG.sq, atI_nat (j := 0) rfl, _, rfl, a, _, 1, _, rfl, rfl, haG.sq, atI_nat (j := 1) rfl, v1, .ref c, bs, ds, rfl, pr, hnd, h2G, sls _ (by simp), tks _ (by simp), by omega, fun hs hsc G2 s2 => ⟨false, rfl, iteF ?_⟩, fun i j hsc G2 u s2 hu => ?_⟩
  rotate_left
  · obtain ⟨t, us, rfl, ht, _, ul⟩ := small_of hu
    refine ⟨true, .inr (.inl ⟨us, ht, ?_⟩), ?_⟩
    · cases us with
      | nil => cases ul
      | cons _ _ => rfl
    · rw [if_pos rfl]
      exact q _ _ _ (.inr ⟨bs, ds, top, .inl ⟨i, j, hsc, rfl⟩⟩) (s1.trans s2) hu
  obtain ⟨ed, own⟩ := scanH_data ds [] 0 hs hsc
  subst ed
  rw [List.length_map] at w4
  have s12 := s1.trans s2
  have dpD : (PyData.tuple (hs.map hndD)).depth ≤ 60 := Nat.le_trans (depth_mem (ds := [.tuple (bs.map boxD), .tuple (hs.map hndD)]) (by simp)) (Nat.le_trans it.dp (by decide))
  refine ⟨_, rfl, a, _, 0, _, rfl, rfl, (ha.same s12).sq, atI_nat (j := 0) rfl, _, rfl, a, _, 1, _, rfl, rfl, (ha.same s12).sq, atI_nat (j := 1) rfl, v1, .ref c, bs, hs, rfl, (pairs_of_boxes g1).same s12, hnd, l8, dq_same s12 _ _ g2, hsc, tks _ (by simp), dpD, by omega, fun good G3 s3 => ?_, fun nope i j a wr G3 u s3 hu => ?_⟩
  · exact q _ _ _ (.inr ⟨bs, _, top, .inr ⟨hs, hsc, .inl ⟨good, rfl⟩⟩⟩) (s12.trans s3) .non
  · exact q _ _ _ (.inr ⟨bs, _, top, .inr ⟨hs, hsc, .inr ⟨nope, i, j, a, wr, rfl⟩⟩⟩) (s12.trans s3) hu
end
end PP

set_option maxHeartbeats 4000000
namespace PP
open PySem PySem.Spec PyProof.Rows L2 G0 G3 G4 G5 M0 PA EE QA LC SX PT EN E8 EB EC
/-! what is told is nice -/
theorem nice_nat {n : Nat} (h : n < 2 ^ 30) : nice (.int n) = true := by
  refine nice_mk ?_ (by simp only [PyData.canLay0]) ?_
  · simp only [PyData.showable, decide_eq_true_eq, Int.natAbs_natCast]
    by_cases h0 : n = 0
    · subst h0
      decide
    · exact (Nat.log2_lt h0).mpr (Nat.lt_of_lt_of_le h (Nat.pow_le_pow_right (by decide) (by decide)))
  · simp only [PyData.leavesShort, decide_eq_true_eq]
    rw [PyData.shown_int, TL.len_tl]
    have e := TL.tl_num n
    rw [e]
    exact Nat.le_trans (TL.numL_len (k := 10) (by decide) (Nat.lt_trans h (by decide))) (by decide)
theorem scanT_bad : ∀ (ds : List Dt) (seen : List Str) (i j : Nat), scanT seen i ds = .inr j → j < i + ds.length
  | [], seen, i, j, e => by
    have : (Sum.inl [] : List TxD ⊕ Nat) = .inr j := e
    cases this
  | d :: r, seen, i, j, e => by
    cases ht : textP seen d with
    | none =>
      rw [scanT_no ht] at e
      cases e
      simp
    | some t =>
      rw [scanT_yes ht] at e
      cases hr : scanT (seen ++ [t.1]) (i + 1) r with
      | inl l => rw [hr] at e; cases e
      | inr j2 =>
        rw [hr] at e
        cases e
        have := scanT_bad r _ _ j hr
        rw [List.length_cons]
        omega
theorem scanH_bad {bs : List Box} : ∀ (ds : List Dt) (seen : List Str) (i n : Nat) (j : Option Nat), scanH bs seen i ds = .inr (n, j) → n < i + ds.length ∧ ∀ m, j = some m → ∃ z o ts, PyData.tuple [.str z, o, .tuple ts] ∈ ds ∧ m < ts.length
  | [], seen, i, n, j, e => by
    have : (Sum.inl [] : List HnD ⊕ (Nat × Option Nat)) = .inr (n, j) := e
    cases this
  | d :: r, seen, i, n, j, e => by
    cases hp : handP bs seen d with
    | inr j2 =>
      rw [scanH_no hp] at e
      cases e
      refine ⟨by simp, fun m hm => ?_⟩
      subst hm
      cases hb : handB bs seen d with
      | false => rw [hand_fails hb] at hp; cases hp
      | true =>
        obtain ⟨z, o, ts, own, rfl, hh, ho⟩ := hand_good hb
        cases hs : scanT [] 0 ts with
        | inl l => rw [hand_yes hh ho hs] at hp; cases hp
        | inr j3 =>
          rw [hand_txt hh ho hs] at hp
          cases hp
          have := scanT_bad ts _ _ _ hs
          exact ⟨z, o, ts, List.mem_cons_self, by omega⟩
    | inl h =>
      rw [scanH_yes hp] at e
      cases hr : scanH bs (seen ++ [h.nm]) (i + 1) r with
      | inl l => rw [hr] at e; cases e
      | inr q =>
        rw [hr] at e
        cases e
        obtain ⟨a, b⟩ := scanH_bad r _ _ n j hr
        refine ⟨by rw [List.length_cons]; omega, fun m hm => ?_⟩
        obtain ⟨z, o, ts, h1, h2⟩ := b m hm
        exact ⟨z, o, ts, List.mem_cons_of_mem _ h1, h2⟩
theorem len_bulk {ds : List Dt} : ds.length ≤ (PyData.tuple ds).bulk := by
  simp only [PyData.bulk]
  exact bulk_len ds
theorem mem_bulk {ds : List Dt} {d : Dt} (h : d ∈ ds) : d.bulk ≤ (PyData.tuple ds).bulk := by
  simp only [PyData.bulk]
  exact bulk_mem h
theorem verd_shape {d r : Dt} (h : Verd d r) : r = .none ∨ ∃ a b c, r = tri a b c := by
  rcases h with ⟨_, rfl⟩ | ⟨bs, ds, _, ⟨i, j, _, rfl⟩ | ⟨hs, _, ⟨_, rfl⟩ | ⟨_, i, j, a, _, rfl⟩⟩⟩
  · exact .inr ⟨_, _, _, rfl⟩
  · exact .inr ⟨_, _, _, rfl⟩
  · exact .inl rfl
  · exact .inr ⟨_, _, _, rfl⟩
structure Told (r : Dt) : Prop where
  nc : nice r = true
  dp : r.depth ≤ 1
  bk : r.bulk ≤ 100
theorem tri_told {a b c : Dt} (ha : nice a = true ∧ a.depth = 0 ∧ a.bulk = 0) (hb : nice b = true ∧ b.depth = 0 ∧ b.bulk = 0) (hc : nice c = true ∧ c.depth = 0 ∧ c.bulk = 0) : Told (tri a b c) := by
  refine ⟨nice_tuple fun x hx => ?_, ?_, ?_⟩
  · simp only [List.mem_cons, List.not_mem_nil, or_false] at hx
    rcases hx with rfl | rfl | rfl
    · exact ha.1
    · exact hb.1
    · exact hc.1
  · unfold tri
    simp only [PyData.depth, PyData.depthAll, ha.2.1, hb.2.1, hc.2.1]
    decide
  · unfold tri
    simp only [PyData.bulk, PyData.bulkAll, ha.2.2, hb.2.2, hc.2.2]
    decide
theorem non_ok : nice PyData.none = true ∧ PyData.none.depth = 0 ∧ PyData.none.bulk = 0 := ⟨nice_none, by simp only [PyData.depth], by simp only [PyData.bulk]⟩
theorem nat_ok {n : Nat} (h : n < 2 ^ 30) : nice (PyData.int (n : Nat)) = true ∧ (PyData.int (n : Nat)).depth = 0 ∧ (PyData.int (n : Nat)).bulk = 0 := ⟨nice_nat h, by simp only [PyData.depth], by simp only [PyData.bulk]⟩
theorem verd_told {d r : Dt} (it : Itm d) (h : Verd d r) : Told r := by
  rcases h with ⟨_, rfl⟩ | ⟨bs, ds, top, h⟩
  · exact tri_told non_ok non_ok non_ok
  · obtain ⟨d1, rfl⟩ : ∃ d1, d = .tuple [d1, .tuple ds] := by
      unfold topP at top
      split at top
      · split at top
        · obtain ⟨_, _, e⟩ := Option.map_eq_some_iff.mp top
          cases e
          exact ⟨_, rfl⟩
        · cases top
      · cases top
    have big : (2 : Nat) ^ 20 < 2 ^ 30 := by decide
    have b1 : (PyData.tuple ds).bulk ≤ 2 ^ 20 := Nat.le_trans (mem_bulk (ds := [d1, .tuple ds]) (by simp)) it.bk
    rcases h with ⟨i, j, hs, rfl⟩ | ⟨hs, hsc, ⟨_, rfl⟩ | ⟨_, i, j, a, ⟨h, t, x, h1, h2, h3, _⟩, rfl⟩⟩
    · obtain ⟨a1, a2⟩ := scanH_bad ds _ _ _ _ hs
      refine tri_told (nat_ok ?_) ?_ non_ok
      · have := len_bulk (ds := ds)
        omega
      · cases j with
        | none => exact non_ok
        | some m =>
          obtain ⟨z, o, ts, m1, m2⟩ := a2 m rfl
          have c1 := mem_bulk m1
          have c2 := mem_bulk (ds := [.str z, o, .tuple ts]) (d := .tuple ts) (by simp)
          have c3 := len_bulk (ds := ts)
          exact nat_ok (by omega)
    · exact ⟨nice_none, by simp only [PyData.depth]; decide, by simp only [PyData.bulk]; decide⟩
    · obtain ⟨ed, _⟩ := scanH_data ds _ _ hs hsc
      subst ed
      have c0 := len_bulk (ds := hs.map hndD)
      rw [List.length_map] at c0
      have c1 := mem_bulk (List.mem_map_of_mem (f := hndD) (List.mem_of_getElem? h1))
      have c2 := mem_bulk (ds := [.str h.nm, .tuple (h.own.map boxD), .tuple (h.ts.map textDD)]) (d := .tuple (h.ts.map textDD)) (by simp)
      have c3 := len_bulk (ds := h.ts.map textDD)
      rw [List.length_map] at c3
      have c4 := mem_bulk (List.mem_map_of_mem (f := textDD) (List.mem_of_getElem? h2))
      have c5 := mem_bulk (ds := [.str t.1, .tuple t.2]) (d := .tuple t.2) (by simp)
      have c6 := len_bulk (ds := t.2)
      have l1 := (List.getElem?_eq_some_iff.mp h1).1
      have l2 := (List.getElem?_eq_some_iff.mp h2).1
      have l3 := (List.getElem?_eq_some_iff.mp h3).1
      have c1' : (PyData.tuple [.str h.nm, .tuple (h.own.map boxD), .tuple (h.ts.map textDD)]).bulk ≤ _ := c1
      have c4' : (PyData.tuple [.str t.1, .tuple t.2]).bulk ≤ _ := c4
      exact tri_told (nat_ok (by omega)) (nat_ok (by omega)) (nat_ok (by omega))
/-! isinstance(e, C) in the suite that caught e -/
def rIsS (K : PySem.W.Frag) (C a : Addr) (cls : Value) (d : Option Addr) : List V → Hp → VK → Prop := fun xs H Q => ∃ (c : V) (u : Value) (b : Bool), xs = [.ref a, c] ∧ cls = .ref C ∧ DictOf H d ∧ ClsV c u ∧ PySem.W.kitOne K (.ref C) u = some b ∧ Q (.bl b) H
theorem call_isS {X : Cx} {C a : Addr} {oe : Obj} {cls : Value} {d : Option Addr} {pn : List (Addr × Obj)} (T : ExcC X.K C) (hz : Zc cls d oe) (hf : ∃ vs, oe.data = .fields vs) : CallR (X.suite a ((a, oe) :: pn)) (.builtin "isinstance") (rIsS X.K C a cls d) := by
  intro pins s σ H xs us Q I r hyp
  obtain ⟨c, u, b, rfl, ecl, dd, cv, e, q⟩ := hyp
  subst ecl
  cases r with
  | cons rx rr =>
    cases rr with
    | cons rt rr =>
      cases rr
      cases rx
      have ec := cv.eq rt
      subst ec
      have hcl : (PySem.W.clsIn X.K C).isSome = true := by
        obtain ⟨cd, hc, _⟩ := PySem.W.any_some T.hd
        rw [hc]
        rfl
      have at0 : s.heap.get? a = some oe := (I.pin (a, oe) (List.mem_append_left _ List.mem_cons_self)).1
      obtain ⟨vs, dt⟩ := hf
      have fin : ∀ {od : Option Obj}, PySem.W.InstAt s.heap a oe C od → wpAny (model X.prog X.w) (X.suite a ((a, oe) :: pn)).A (call (.builtin "isinstance") [.ref a, _]) (EP (X.suite a ((a, oe) :: pn)) pins σ Q) (X.suite a ((a, oe) :: pn)).xe s := fun {od} J =>
        PySem.W.kia_one (PySem.W.kitx_exc hcl T.hg T.hk T.hs T.ha T.hn T.ht T.hm) I.kIn J e (fun z => nomatch z) fun tk => ⟨.bl b, H, I.kept (t' := tk) fun _ _ z => z, rfl, q⟩
      rcases dd with rfl | ⟨dd, fs, rfl, ed⟩
      · exact fin (od := none) ⟨at0, hz.1, by unfold PySem.W.notCls; rw [dt] <;> rfl, by rw [hz.2]; trivial⟩
      · obtain ⟨mA, nsD, rel⟩ := (show ObjOk X.prog X.w H s.heap dd (.xd fs) from I.hok dd _ ed)
        obtain ⟨od, ho, hl⟩ := lookIn_ns nsD
        exact fin (od := some od) ⟨at0, hz.1, by unfold PySem.W.notCls; rw [dt] <;> rfl, by rw [hz.2]; exact ho⟩
structure DefG (P : Program) (w : World) (K : PySem.W.Frag) (mg : Str → Option Value) (base : Heap) (CX : CXT) (k : Nat) (x : Str) (ps : List Str) (sp : Sp) where
  f : Addr
  d : FuncData
  ok : FnG P w K mg base CX k f d ps sp
  g : mg x = some (.ref f)
  kp : PySem.W.keepIn K (.ref f) = true
  b : Binds K d ps []
def toldD : Dt → Dt
  | .none => .none
  | r => .list [.bool true, r]
section
variable {P : Program} {w : World} {K : PySem.W.Frag} {mg : Str → Option Value} {base : Heap}
def spTold (K : PySem.W.Frag) : Sp := fun vs H Q _ => ∃ (x : V) (d : Dt), vs = [x] ∧ Dp K H x d ∧ SL d ∧ ∀ r H' u, Verd d r → Same H H' → Dp K H' u (toldD r) → Q u H'
set_option maxHeartbeats 16000000 in
theorem ok_told {f : Addr} {fd : FuncData} {k : Nat} {cT : Addr} (F : Fun K "_law_told" "_law_told" s_law_told f fd) (S : Err P w K mg base "NoProgram" ["hand", "text", "row"]) (R : Def P w K mg base (L2.CX P w) (k + 4) "look_at_program" ["thing"] (spLookA K S.C))
    (gT : mg "TurnsError" = some (.ref cT)) (kt : PySem.W.kitOne K (.ref S.C) (.ref cT) = some true) (ex : PySem.W.exmOne K (.ref S.C) (.ref S.C) = some true) (m_isinstance : mg "isinstance" = none) : FnOk P w K mg base CX0 (k + 4 + 1) f fd ["_law_item"] (spTold K) := by
  refine F.ok scTold (fun vs H Q E h => ?_) (fun cdv A outer s H vs Q E hr h => ?_)
  · obtain ⟨x, d, rfl, _⟩ := h
    rfl
  obtain ⟨x, d, rfl, hx, sl, q⟩ := h
  have nd := scTold.nd
  refine ⟨_, pss_one (ps_try_as (i := 1) (c := .ref S.C) (tb := fun W => tRet (tCallS (spLookA K S.C) (WE W) (tCons (tVar 0) tNil))) (ts := fun a cls d => tRet (tLst (tCons (tCB (rIsS K S.C a cls d) (tCons (tVar 1) (tCons (tC (.ref cT)) tNil))) (tCons (tTup (tCons (tByE S.C a cls d "hand" (tVar 1)) (tCons (tByE S.C a cls d "text" (tVar 1)) (tCons (tByE S.C a cls d "row" (tVar 1)) tNil)))) tNil)))) rfl rfl nd rfl rfl ⟨by rfl, by decide, .inl S.g⟩ takes0
      (fun W pn xe tk po => pss_one (ps_ret (pe_callS R.ok hr (by rfl) R.g R.kp R.b (fun σ => passAt tk σ) (pa_cons (pv 0) pa_nil))))
      (fun a oe cls d pn hz hf => pss_one (ps_ret (pe_lst (pa_cons (pe_callB (call_isS S.E hz hf) (by rfl) m_isinstance PyProof.Rows.boot_isinstance (pa_cons (pv 1) (pa_cons (pe_glob (v := .ref cT) (by rfl) gT rfl) pa_nil))) (pa_cons (pe_tup (pa_cons (pe_byE S.E (S.fld "hand" (by simp)) hz hf (pv 1)) (pa_cons (pe_byE S.E (S.fld "text" (by simp)) hz hf (pv 1)) (pa_cons (pe_byE S.E (S.fld "row" (by simp)) hz hf (pv 1)) pa_nil)))) pa_nil)))))), ?_⟩
  have caught : ∀ (va vb vc : V) (a b c : Dt) (dd : Addr) (H' : Hp), Dp K H' va a → Dp K H' vb b → Dp K H' vc c → Same H H' → H' dd = some (xNo va vb vc) → Verd d (tri a b c) →
      WE (wAs K (.ref S.C) 1 (fun a cls d => tRet (tLst (tCons (tCB (rIsS K S.C a cls d) (tCons (tVar 1) (tCons (tC (.ref cT)) tNil))) (tCons (tTup (tCons (tByE S.C a cls d "hand" (tVar 1)) (tCons (tByE S.C a cls d "text" (tVar 1)) (tCons (tByE S.C a cls d "row" (tVar 1)) tNil)))) tNil)))) (fun _ _ _ _ => False) { nx := fun _ H' => Q .non H', rt := Q }) (start nTold [x]) (.ref S.C) (some dd) H' := by
    intro va vb vc a b c dd H' ha hb hc s1 hdd ve
    refine ⟨true, ex, fun _ e ne => ?_, fun z => nomatch z⟩
    refine ⟨_, rfl, .ref cT, _, true, rfl, rfl, .inr ⟨dd, _, rfl, hdd⟩, .own cT, kt, _, rfl, rfl, rfl, dd, _, va, rfl, hdd, rfl, _, rfl, rfl, rfl, dd, _, vb, rfl, hdd, rfl, _, rfl, rfl, rfl, dd, _, vc, rfl, hdd, rfl, lz3, fun t nt => ⟨lz2, fun l nl => ?_⟩⟩
    have st : Same H' (upd H' t (.tup [va, vb, vc])) := same_new nt
    have sl2 : Same (upd H' t (.tup [va, vb, vc])) (upd (upd H' t (.tup [va, vb, vc])) l (.lst [.bl true, .ref t])) := same_new nl
    refine q _ _ _ ve (s1.trans (st.trans sl2)) (.lst (SqL.of upd_same) (.cons (.bl _) (.cons (.tup (SqT.of (sl2 _ _ upd_same)) ?_) .nil)))
    have s2 := st.trans sl2
    exact .cons (dp_same s2 _ _ ha) (.cons (dp_same s2 _ _ hb) (.cons (dp_same s2 _ _ hc) .nil))
  have oVD : ∀ (H' : Hp) (j : Option Nat), Dp K H' (oV j) (oD j) := fun H' j => by
    cases j with
    | none => exact .non
    | some j => exact .int _
  refine ⟨_, rfl, x, d, rfl, hx, sl, fun top dd H' n1 s1 h1 => caught _ _ _ _ _ _ dd H' .non .non .non s1 h1 (.inl ⟨top, rfl⟩), fun bs ds top => ⟨fun i j hsc dd H' n1 s1 h1 => caught _ _ _ _ _ _ dd H' (.int _) (oVD H' j) .non s1 h1 (.inr ⟨bs, ds, top, .inl ⟨i, j, hsc, rfl⟩⟩), fun hs hsc => ⟨fun good H' s1 => ?_, fun nope i j a wr dd H' n1 s1 h1 => ?_⟩⟩⟩
  · exact q .none _ _ (.inr ⟨bs, ds, top, .inr ⟨hs, hsc, .inl ⟨good, rfl⟩⟩⟩) s1 .non
  · exact caught _ _ _ _ _ _ dd H' (.int _) (.int _) (.int _) s1 h1 (.inr ⟨bs, ds, top, .inr ⟨hs, hsc, .inr ⟨nope, i, j, a, wr, rfl⟩⟩⟩)
def spRight (K : PySem.W.Frag) : Sp := fun vs H Q _ => ∃ (x : V) (d : Dt), vs = [x] ∧ Dq K H 4 x d ∧ Itm d ∧ ∀ H', Same H H' → Q (.bl true) H'
set_option maxHeartbeats 16000000 in
theorem ok_right {f : Addr} {fd : FuncData} {k : Nat} (F : Fun K "_law_right" "_law_right" s_law_right f fd) (DW : Def P w K mg base CX0 (k + 1) "_law_wrong" ["_law_item"] (spWrong K)) (DT : Def P w K mg base CX0 (k + 1) "_law_told" ["_law_item"] (spTold K)) (m_repr : mg "repr" = none) : FnG P w K mg base CX0 (k + 1 + 1) f fd ["_law_item"] (spRight K) := by
  refine body_of0 F scRight (fun vs H Q E h => ?_) (fun cdv A outer s H vs Q E gu hr h => ?_)
  · obtain ⟨x, d, rfl, _⟩ := h
    rfl
  obtain ⟨x, d, rfl, hx, it, q⟩ := h
  have nd := scRight.nd
  refine ⟨_, (pss_cons (ps_set (i := 1) nd rfl (.inl rfl) (pe_call DW.ok hr (by rfl) DW.g DW.kp DW.b .nil pass0 (pa_cons (pv 0) pa_nil)))
    (pss_cons (ps_set (i := 2) nd rfl (.inl rfl) (pe_callB (call_reprD gu hr.units) (by rfl) m_repr (by decide +kernel) (pa_cons (pv 0) pa_nil)))
    (pss_one (ps_ret (pe_and (pe_cmpR op_eq (pe_callB (call_reprD gu hr.units) (by rfl) m_repr (by decide +kernel) (pa_cons (pe_call DT.ok hr (by rfl) DT.g DT.kp DT.b .nil pass0 (pa_cons (pv 0) pa_nil)) pa_nil)) (pe_callB (call_reprD gu hr.units) (by rfl) m_repr (by decide +kernel) (pa_cons (pe_ifExp (pt_cmpR op_isN (pv 1) pe_non (nomark _)) (pv 1) (pe_lst (pa_cons pe_bl (pa_cons (pv 1) pa_nil)))) pa_nil)) (nomark _)) (pe_one (pe_cmpR op_eq (pe_callB (call_reprD gu hr.units) (by rfl) m_repr (by decide +kernel) (pa_cons (pv 0) pa_nil)) (pv 2) (nomark _)))))))), ?_⟩
  have fits : d.shown.length ≤ sizeLine := nice_fits it.nc it.bk
  refine ⟨_, rfl, x, d, rfl, hx, it, fun r H1 u ve s1 hu => ?_⟩
  have hx1 := dq_dp _ _ (dq_same s1 _ _ hx)
  refine ⟨_, rfl, x, d, rfl, hx1, nice_show it.nc, Nat.le_trans it.dp (by decide), fits, ?_⟩
  refine ⟨_, rfl, x, d, rfl, hx1, it.sl, fun r' H2 u' ve' s2 hu' => ?_⟩
  obtain rfl := verd_one ve ve'
  have td := verd_told it ve
  have tdn : nice (toldD r) = true ∧ (toldD r).depth ≤ 60 ∧ (toldD r).bulk ≤ 2 ^ 20 := by
    have key : nice (.list [.bool true, r]) = true ∧ (PyData.list [.bool true, r]).depth ≤ 60 ∧ (PyData.list [.bool true, r]).bulk ≤ 2 ^ 20 := by
      refine ⟨nice_list fun y hy => ?_, ?_, ?_⟩
      · simp only [List.mem_cons, List.not_mem_nil, or_false] at hy
        rcases hy with rfl | rfl
        · exact nice_bool true
        · exact td.nc
      · have := td.dp
        simp only [PyData.depth, PyData.depthAll]
        omega
      · have := td.bk
        simp only [PyData.bulk, PyData.bulkAll]
        omega
    cases r with
    | none => exact ⟨nice_none, by simp only [toldD, PyData.depth]; decide, by simp only [toldD, PyData.bulk]; decide⟩
    | _ => exact key
  have fit2 : (toldD r).shown.length ≤ sizeLine := nice_fits tdn.1 tdn.2.2
  refine ⟨u', toldD r, rfl, hu', nice_show tdn.1, tdn.2.1, fit2, ?_⟩
  have s12 := s1.trans s2
  have last : ∀ G, Same H2 G → tCB (rRepr K) (tCons (tVar 0) tNil) [some x, some u, some (.str d.shown)] G fun v H => tVar 2 [some x, some u, some (.str d.shown)] H fun v2 H => rEq v v2 H Q := fun G s => by
    refine ⟨_, rfl, x, d, rfl, dp_same (s2.trans s) _ _ hx1, nice_show it.nc, Nat.le_trans it.dp (by decide), fits, _, rfl, rfl, ?_⟩
    rw [show decide (V.str d.shown = V.str d.shown) = true from decide_eq_true rfl]
    exact q _ (s12.trans s)
  rcases verd_shape ve with rfl | ⟨a, b, c, rfl⟩
  · cases hu
    refine ⟨_, rfl, rfl, _, rfl, ?_⟩
    rw [show decide (V.non = V.non) = true from decide_eq_true rfl]
    refine iteT ⟨_, rfl, .non, .none, rfl, .non, nice_show tdn.1, tdn.2.1, fit2, rfl, _, rfl, ?_⟩
    rw [show decide (V.str (toldD .none).shown = V.str PyData.none.shown) = true from decide_eq_true rfl]
    exact iteT (last H2 (Same.refl _))
  · obtain ⟨t, us, rfl, ht, _, _⟩ := small_of (show Dp K H1 u (.tuple [a, b, c]) from hu)
    refine ⟨_, rfl, rfl, _, rfl, ?_⟩
    rw [show decide (V.ref t = V.non) = false from decide_eq_false fun z => by cases z]
    refine iteF ⟨_, rfl, lz2, fun l nl => ?_⟩
    have sl : Same H2 (upd H2 l (.lst [.bl true, .ref t])) := same_new nl
    refine ⟨.ref l, .list [.bool true, tri a b c], rfl, .lst (SqL.of upd_same) (.cons (.bl _) (.cons (dp_same (s2.trans sl) _ _ hu) .nil)), nice_show tdn.1, tdn.2.1, fit2, rfl, _, rfl, ?_⟩
    rw [show decide (V.str (toldD (tri a b c)).shown = V.str (PyData.list [.bool true, tri a b c]).shown) = true from decide_eq_true rfl]
    exact iteT (last _ sl)
end
end PP

set_option maxHeartbeats 4000000
namespace PP
open PySem PySem.Spec PyProof.Rows L2 G3 M0 PA PT
abbrev nTexts : List Str := ["_law_pool_here", "_law_boxes", "_law_others", "_law_deep", "_law_titles", "_law_found", "_law_at", "_law_title", "_law_many", "_law_some", "_law_turn"]
theorem scTexts : FnScope nTexts ["_law_pool_here", "_law_boxes", "_law_others", "_law_deep"] (defScope s_law_texts) := ⟨rfl, rfl, rfl, by decide +kernel, rfl, by decide +kernel, by decide +kernel⟩
/-- nothing but tuples around the leaves -/
inductive TupOnly : PyData → Prop where
  | int (i : Int) : TupOnly (.int i)
  | str (z : Str) : TupOnly (.str z)
  | tup {ds : List PyData} (h : ∀ d ∈ ds, TupOnly d) : TupOnly (.tuple ds)
theorem tup_hide {K : PySem.W.Frag} {H : Hp} {D a : Addr} {us xs : List V} (hD : H D = some (.lst us)) (h : SqT K H a xs) : SqT K (off D H) a xs := by
  rcases h with (h | ⟨o, h⟩) | h
  · exact .inl (.inl (by rw [off_ne (fun e => by rw [e, hD] at h; cases h)]; exact h))
  · exact .inl (.inr ⟨o, by rw [off_ne (fun e => by rw [e, hD] at h; cases h)]; exact h⟩)
  · exact .inr h
mutual
theorem dp_hide {K : PySem.W.Frag} {H : Hp} {D : Addr} {us : List V} (hD : H D = some (.lst us)) : ∀ (d : PyData) (v : V), TupOnly d → Dp K H v d → Dp K (off D H) v d
  | .none, _, t, h => nomatch t
  | .bool _, _, t, h => nomatch t
  | .int _, _, _, h => by cases h; exact .int _
  | .str _, _, _, h => by cases h; exact .str _
  | .list ds, _, t, h => nomatch t
  | .tuple ds, _, t, h => by
    cases h with
    | tup hs ha =>
      cases t with
      | tup tt => exact .tup (tup_hide hD hs) (dpAll_hide hD ds _ tt ha)
  | .dict _, _, t, h => nomatch t
theorem dpAll_hide {K : PySem.W.Frag} {H : Hp} {D : Addr} {us : List V} (hD : H D = some (.lst us)) : ∀ (ds : List PyData) (vs : List V), (∀ d ∈ ds, TupOnly d) → DpAll K H vs ds → DpAll K (off D H) vs ds
  | [], _, _, h => by cases h; exact .nil
  | d :: ds, _, t, h => by
    cases h with
    | cons h1 h2 => exact .cons (dp_hide hD d _ (t d List.mem_cons_self) h1) (dpAll_hide hD ds _ (fun e he => t e (List.mem_cons_of_mem _ he)) h2)
end
theorem to_map {α : Type} {f : α → PyData} {xs : List α} (h : ∀ x ∈ xs, TupOnly (f x)) : TupOnly (.tuple (xs.map f)) := .tup fun d hd => by
  obtain ⟨x, hx, rfl⟩ := List.mem_map.mp hd
  exact h x hx
theorem to_nil : ∀ d ∈ ([] : List PyData), TupOnly d := fun _ z => nomatch z
theorem to_cons {d : PyData} {ds : List PyData} (h1 : TupOnly d) (h2 : ∀ e ∈ ds, TupOnly e) : ∀ e ∈ d :: ds, TupOnly e := fun e he => by
  rcases List.mem_cons.mp he with rfl | he
  · exact h1
  · exact h2 e he
theorem to_src (s : Src) : TupOnly s.data := by
  cases s with
  | to n => exact .tup (to_cons (.str _) (to_cons (.int _) to_nil))
  | of b => exact .tup (to_cons (.str _) (to_cons (.str _) to_nil))
  | on n => exact .tup (to_cons (.str _) (to_cons (.int _) to_nil))
  | any => exact .tup (to_cons (.str _) to_nil)
theorem to_row (r : PA.Row) : TupOnly r.data := by
  cases r with
  | set b s => exact .tup (to_cons (.str _) (to_cons (.str _) (to_cons (to_src s) to_nil)))
  | ift b v r => exact .tup (to_cons (.str _) (to_cons (.str _) (to_cons (.int _) (to_cons (.int _) to_nil))))
  | go rs => exact .tup (to_cons (.str _) (to_cons (to_map fun _ _ => .int _) to_nil))
  | call t => exact .tup (to_cons (.str _) (to_cons (.str _) to_nil))
  | back => exact .tup (to_cons (.str _) to_nil)
  | wait b v => exact .tup (to_cons (.str _) (to_cons (.str _) (to_cons (.int _) to_nil)))
  | begin h => exact .tup (to_cons (.str _) (to_cons (.str _) to_nil))
  | fault => exact .tup (to_cons (.str _) to_nil)
theorem to_rows (rs : List PA.Row) : TupOnly (rowsD rs) := to_map fun r _ => to_row r
theorem to_text (t : Text) : TupOnly (textD t) := .tup (to_cons (.str _) (to_cons (to_rows _) to_nil))
theorem to_box (b : Box) : TupOnly (boxD b) := .tup (to_cons (.str _) (to_cons (.int _) to_nil))
theorem to_hand (h : Hand) : TupOnly (handD h) := .tup (to_cons (.str _) (to_cons (to_map fun b _ => to_box b) (to_cons (to_map fun t _ => to_text t) to_nil)))
theorem row_mono {bs : List Box} {ts ts' os : List Str} {m : Int} (h : ∀ t ∈ ts, t ∈ ts') : ∀ r : PA.Row, RowOk bs ts os m r → RowOk bs ts' os m r
  | .set _ _, a => a
  | .ift _ _ _, a => a
  | .go _, a => a
  | .call _, a => h _ a
  | .back, a => a
  | .wait _ _, a => a
  | .begin _, a => a
  | .fault, a => a
theorem new_tupQ {K : PySem.W.Frag} {p t : Addr} {o : Obj} {n : Nat} {H G : Hp} {vs : List V} {ds : List PyData} (pl : Pool G p) (nt : G t = none) (s : Same (off p H) (off p G)) (no : o.dict = none) (hd : DqAll K (off p G) n vs ds) :
    Pool (upd G t (.frz o (.tup vs))) p ∧ Same (off p H) (off p (upd G t (.frz o (.tup vs)))) ∧ Dq K (off p (upd G t (.frz o (.tup vs)))) (n + 1) (.ref t) (.tuple ds) := by
  have ne := pool_ne pl nt
  have s2 : Same (off p G) (off p (upd G t (.frz o (.tup vs)))) := off_mono (same_new nt)
  refine ⟨pool_put pl ne, s.trans s2, .tup ⟨o, ?_, no⟩ (dqAll_same s2 _ _ hd)⟩
  rw [off_put ne]
  exact upd_same
theorem pat_hide {H : Hp} {D a : Addr} {us xs : List V} (hD : H D = some (.lst us)) (h : PAt H a xs) : PAt (off D H) a xs := by
  obtain ⟨o, h, no⟩ := h
  exact ⟨o, by rw [off_ne (fun e => by rw [e, hD] at h; cases h)]; exact h, no⟩
mutual
theorem dq_hide {K : PySem.W.Frag} {H : Hp} {D : Addr} {us : List V} (hD : H D = some (.lst us)) : ∀ (d : PyData) {n : Nat} (v : V), TupOnly d → Dq K H n v d → Dq K (off D H) n v d
  | .none, _, _, t, h => nomatch t
  | .bool _, _, _, t, h => nomatch t
  | .int _, _, _, t, h => by cases h with | any h => exact .any (dp_hide hD _ _ t h) | int => exact .int _ _
  | .str _, _, _, t, h => by cases h with | any h => exact .any (dp_hide hD _ _ t h) | str => exact .str _ _
  | .list ds, _, _, t, h => nomatch t
  | .tuple ds, _, _, t, h => by
    cases h with
    | any h => exact .any (dp_hide hD _ _ t h)
    | tup hs ha =>
      cases t with
      | tup tt => exact .tup (pat_hide hD hs) (dqAll_hide hD ds _ tt ha)
  | .dict _, _, _, t, h => nomatch t
theorem dqAll_hide {K : PySem.W.Frag} {H : Hp} {D : Addr} {us : List V} (hD : H D = some (.lst us)) : ∀ (ds : List PyData) {n : Nat} (vs : List V), (∀ d ∈ ds, TupOnly d) → DqAll K H n vs ds → DqAll K (off D H) n vs ds
  | [], _, _, _, h => by cases h; exact .nil _
  | d :: ds, _, _, t, h => by
    cases h with
    | cons h1 h2 => exact .cons (dq_hide hD d _ (t d List.mem_cons_self) h1) (dqAll_hide hD ds _ (fun e he => t e (List.mem_cons_of_mem _ he)) h2)
end
section
variable {P : Program} {w : World} {K : PySem.W.Frag} {mg : Str → Option Value} {base : Heap}
def wTexts : List Str := ["main", "sub"]
def spTexts (K : PySem.W.Frag) : Sp := fun vs H Q _ => ∃ (p l ol : Addr) (ws : List V) (bs : List Box) (os : List Str), vs = [.ref p, .ref l, .ref ol, .bl true] ∧ Pool H p ∧ SqL K (off p H) l ws ∧ DpAll K (off p H) ws (bs.map boxD) ∧ Draw bs ∧
  SqL K (off p H) ol (os.map V.str) ∧ Words os ∧
  ∀ (H' : Hp) (u : V) (ts : List Text), Pool H' p → Same (off p H) (off p H') → Dq K (off p H') 1 u (.tuple (ts.map textD)) → TextsOk bs os ts → (∀ t ∈ ts, t.1 ∈ wTexts ∧ t.2.length ≤ 4) → Q u H'
set_option maxHeartbeats 8000000 in
theorem ok_texts {f : Addr} {fd : FuncData} {k : Nat} (F : Fun K "_law_texts" "_law_texts" s_law_texts f fd) (T : Def P w K mg base CX0 (k + 1) "_law_take" ["_law_pool_here", "_law_many"] spTake) (R : Def P w K mg base CX0 (k + 1) "_law_row" ["_law_pool_here", "_law_boxes", "_law_many", "_law_titles", "_law_others"] (spRow K))
    (me : mg "enumerate" = none) (mt : mg "tuple" = none) (mr : mg "range" = none) :
    FnOk P w K mg base CX0 (k + 1 + 1) f fd ["_law_pool_here", "_law_boxes", "_law_others", "_law_deep"] (spTexts K) := by
  refine F.ok scTexts (fun vs H Q E h => ?_) (fun cdv A outer s H vs Q E hr h => ?_)
  · obtain ⟨p, l, ol, ws, bs, os, rfl, _⟩ := h
    rfl
  obtain ⟨p, l, ol, ws, bs, os, rfl, pl, hl, hws, ok, hol, wo, q⟩ := h
  have nd := scTexts.nd
  refine ⟨_, pss_cons (ps_set (i := 4) nd rfl (.inl rfl) (pe_slice sl_list (pe_lst (pa_cons pe_str (pa_cons pe_str pa_nil))) po_none (po_some (pe_op op_add pe_int (pe_call T.ok hr (by rfl) T.g T.kp T.b .nil pass0 (pa_cons (pv 0) (pa_cons pe_int pa_nil)))))))
    (pss_cons (ps_set (i := 5) nd rfl (.inl rfl) (pe_lst pa_nil))
    (pss_cons (ps_for PassesOwn.never rfl (pi_enum (by rfl) me (pa_cons (pv 4) pa_nil)) (pg_tup rfl (pgs_cons (pg_name (i := 6) nd rfl (.inl rfl)) (pgs_cons (pg_name (i := 7) nd rfl (.inl rfl)) pgs_nil)))
      (pss_cons (ps_set (i := 8) nd rfl (.inr rfl) (pe_op op_add pe_int (pe_call T.ok hr (by rfl) T.g T.kp T.b .nil pass0 (pa_cons (pv 0) (pa_cons pe_int pa_nil)))))
      (pss_cons (ps_set (i := 9) nd rfl (.inr rfl) (pe_ifExp (pt_val (pv 3)) (pv 4) pe_dead))
      (pss_one (ps_expr (pe_bm PySem.F.plainAttrs_list PySem.F.slot_list_append PySem.F.type_list_append mt_append (pv 5) (pa_cons (pe_tup (pa_cons (pv 7)
        (pa_cons (pe_callTy call_tuple_of (by rfl) mt (by decide +kernel) (pa_cons (pe_lc (own := [("_law_turn", 10)]) (g := gName 10) (tt := tYes) (by rfl) nd (pi_range1 (by rfl) mr (pa_cons (pv 8) pa_nil))
          (blkOk_by (N := nTexts) (sc := defScope s_law_texts) (by decide +kernel)) (fun _ _ _ _ _ => pg_name (i := 10) nd rfl (.inl rfl)) (fun _ _ _ _ _ => pts_nil)
          (fun _ _ _ _ _ => pe_call R.ok hr (by rfl) R.g R.kp R.b .nil pass0 (pa_cons (pv 0) (pa_cons (pv 1) (pa_cons (pv 8) (pa_cons (pv 9) (pa_cons (pv 2) pa_nil))))))) pa_nil)) pa_nil))) pa_nil)))))))
    (pss_one (ps_ret (pe_callTy call_tupP (by rfl) mt (by decide +kernel) (pa_cons (pv 5) pa_nil)))))), ?_⟩
  refine ⟨lz2, fun x0 n0 => ?_⟩
  have s0 : Same H (upd H x0 (.lst [.str "main", .str "sub"])) := same_new n0
  have x0p := pool_ne pl n0
  refine ⟨_, rfl, p, 2, rfl, pool_same pl s0, by decide, by decide, fun H1 r1 pl1 o1 r10 r11 => ⟨1, r1, rfl, rfl, ?_⟩⟩
  have e1x : off p H1 x0 = some (.lst [.str "main", .str "sub"]) := by
    rw [o1, off_ne x0p]
    exact upd_same
  have sH1 : Same (off p H) (off p H1) := by
    rw [o1]
    exact off_mono s0
  refine ⟨_, rfl, x0, _, rfl, SqL.of (off_sub _ _ e1x), fun ta nta => ?_⟩
  obtain ⟨tts, htt, hcut⟩ : ∃ tts : List Str, (tts = ([("main" : Str)] : List Str) ∨ tts = ([("main" : Str), ("sub" : Str)] : List Str)) ∧ cutV [.str "main", .str "sub"] none (some (1 + r1)) = tts.map V.str := by
    have : r1 = 0 ∨ r1 = 1 := by omega
    rcases this with rfl | rfl
    · exact ⟨_, .inl rfl, rfl⟩
    · exact ⟨_, .inr rfl, rfl⟩
  rw [hcut]
  have tap := pool_ne pl1 nta
  refine ⟨Nat.zero_le _, fun fa nfa => ?_⟩
  have s2 : Same H1 (upd H1 ta (.lst (tts.map V.str))) := same_new nta
  have pl2 := pool_same pl1 s2
  have fap := pool_ne pl2 nfa
  have s3 : Same (upd H1 ta (.lst (tts.map V.str))) (upd (upd H1 ta (.lst (tts.map V.str))) fa (.lst [])) := same_new nfa
  have pl3 := pool_same pl2 s3
  have nfH : off p H fa = none := same_none sH1 (same_none (off_mono s2) (off_none nfa))
  have sH3 : Same (off p H) (off p (upd (upd H1 ta (.lst (tts.map V.str))) fa (.lst []))) := sH1.trans (off_mono (s2.trans s3))
  have hta3 : off p (upd (upd H1 ta (.lst (tts.map V.str))) fa (.lst [])) ta = some (.lst (tts.map V.str)) := by
    rw [off_ne tap]
    exact s3 _ _ upd_same
  have hfa3 : off p (upd (upd H1 ta (.lst (tts.map V.str))) fa (.lst [])) fa = some (.lst []) := by
    rw [off_ne fap]
    exact upd_same
  have fta : fa ≠ ta := fun z => by
    rw [z, upd_same] at nfa
    cases nfa
  generalize upd (upd H1 ta (.lst (tts.map V.str))) fa (.lst []) = H3 at pl3 sH3 hta3 hfa3 ⊢
  clear nta nfa s2 pl2 s3
  have tl2 : tts.length ≤ 2 := by rcases htt with rfl | rfl <;> decide
  have wt : Words tts := ⟨by omega, fun z hz => by
    rcases htt with rfl | rfl <;> simp at hz <;> rcases hz with rfl | rfl <;> decide +kernel⟩
  refine ⟨_, rfl, ta, _, rfl, SqL.of (off_sub _ _ hta3), for_it (walk_enum (a := ta) (xs := tts.map V.str) (K := K)) (fun i σ G => ∃ v6 v7 v8 v9 v10, σ = [some (.ref p), some (.ref l), some (.ref ol), some (.bl true), some (.ref ta), some (.ref fa), v6, v7, v8, v9, v10] ∧ Pool G p ∧ Same (off p H) (off p G) ∧ off p G ta = some (.lst (tts.map V.str)) ∧
      ∃ (acc : List V) (tl : List Text), off p G fa = some (.lst acc) ∧ DpAll K (off fa (off p G)) acc (tl.map textD) ∧ tl.map (·.1) = tts.take i ∧ ∀ t ∈ tl, 1 ≤ t.2.length ∧ t.2.length ≤ 4 ∧ ∀ r ∈ t.2, RowOk bs tts os t.2.length r)
    ⟨none, none, none, none, none, rfl, pl3, sH3, hta3, [], [], hfa3, .nil, rfl, fun _ z => nomatch z⟩ (fun i σ G _ h => ?_) (fun i y σ G G' hi h hy => ?_) (fun σ G h => ?_)⟩
  · obtain ⟨_, _, _, _, _, _, _, _, ht, _⟩ := h
    exact SqL.of (off_sub _ _ ht)
  · obtain ⟨v6, v7, v8, v9, v10, rfl, plG, sG, htG, acc, tl, hfG, hacc, hnm, htl⟩ := h
    obtain ⟨Tq, k1, k2, rfl, nT, rfl, hk1, hk2⟩ := hy
    rw [List.length_map] at hi
    have ei : (tts.map V.str)[i]? = some (.str tts[i]) := by rw [List.getElem?_map, List.getElem?_eq_getElem hi]; rfl
    simp only [ei] at hk1 hk2
    cases hk1
    cases hk2
    have sT : Same G (upd G Tq (.tup [.int (i : Nat), .str tts[i]])) := same_new nT
    refine ⟨Tq, _, rfl, .inl (.inl upd_same), rfl, _, _, rfl, _, _, rfl, rfl, ?_⟩
    have plT := pool_same plG sT
    have soT := off_mono (p := p) sT
    have htT := soT _ _ htG
    have hfT := soT _ _ hfG
    have haT := dpAll_same (off_mono (p := fa) soT) _ _ hacc
    have sHT := sG.trans soT
    generalize upd G Tq (.tup [.int (i : Nat), .str tts[i]]) = G0 at plT htT hfT haT sHT ⊢
    clear sT soT nT
    refine ⟨_, rfl, p, 4, rfl, plT, by decide, by decide, fun G1 r2 pl4 o4 r20 r21 => ⟨1, r2, rfl, rfl, ?_⟩⟩
    rw [← o4] at htT hfT haT sHT
    refine ⟨_, rfl, _, rfl, iteT ⟨_, rfl, ?_⟩⟩
    refine ⟨_, rfl, .inl ⟨rfl, _, SqL.of (off_sub _ _ hfT)⟩, _, rfl, _, rfl, 1 + r2, rfl, by omega, by omega, fun D nD => ?_⟩
    have eD : D ≠ p := pool_ne pl4 nD
    have nD1 : off p G1 D = none := off_none nD
    refine lc_range (n := (1 + r2).toNat) (fun j G2 => Pool G2 p ∧ Same (off p G1) (off p G2) ∧ ∃ (us : List V) (rs : List PA.Row), off p G2 D = some (.lst us) ∧ us.length = j ∧ rs.length = j ∧ DpAll K (off D (off p G2)) us (rs.map PA.Row.data) ∧ ∀ r ∈ rs, RowOk bs tts os (1 + r2) r)
      ⟨pool_put pl4 eD, off_mono (same_new nD), [], [], by rw [off_ne eD]; exact upd_same, rfl, rfl, .nil, fun _ z => nomatch z⟩ (fun j G2 hj hQ => ?_) (fun G2 hQ => ?_)
    · obtain ⟨plb, sb, us, rs, hDb, hul, hrl, hds, hok⟩ := hQ
      refine ⟨rfl, ?_⟩
      dsimp only [tYes]
      rw [if_pos rfl]
      refine ⟨_, rfl, _, rfl, _, rfl, _, rfl, _, rfl, p, l, ta, ol, ws, bs, 1 + r2, tts, os, rfl, plb, (sHT.trans sb).seq hl, dpAll_same (sHT.trans sb) _ _ hws, ok, by omega, by omega, SqL.of (sb _ _ htT), (sHT.trans sb).seq hol, wt, wo, fun G3 u r plc sc hu hro => ?_⟩
      have hDc := sc _ _ hDb
      have hu2 := dp_hide hDc _ _ (to_row r) hu
      have hds2 := dpAll_same (off_mono (p := D) sc) _ _ hds
      refine ⟨us, (off_at hDc).1, LC.small_line (by omega), pool_put plc eD, ?_, us ++ [u], rs ++ [r], ?_, ?_, ?_, ?_, ?_⟩
      · rw [off_put eD]
        exact same_put (sb.trans sc) nD1
      · rw [off_put eD]
        exact upd_same
      · rw [List.length_append, hul]
        rfl
      · rw [List.length_append, hrl]
        rfl
      · rw [off_put eD, off_upd, List.map_append]
        exact dpAll_app hds2 (.cons hu2 .nil)
      · intro r' hr'
        rcases List.mem_append.mp hr' with z | z
        · exact hok r' z
        · rw [List.mem_singleton.mp z]
          exact hro
    · obtain ⟨plb, sb, us, rs, hDb, hul, hrl, hds, hok⟩ := hQ
      refine ⟨D, _, rfl, .inl ⟨SqL.of (off_sub _ _ hDb), fun t nt => ⟨lz2, fun t2 nt2 => ?_⟩⟩⟩
      obtain ⟨a1, a2, a3⟩ := new_tup (H := G1) plb nt sb (dpAll_same off_sub _ _ hds)
      obtain ⟨b1, b2, b3⟩ := new_tup (ds := [.str tts[i], rowsD rs]) (H := G1) a1 nt2 a2 (.cons (.str _) (.cons a3 .nil))
      generalize upd (upd G2 t (.tup us)) t2 (.tup [.str tts[i], .ref t]) = G5 at b1 b2 b3 ⊢
      have hf5 := b2 _ _ hfT
      have b4 := dp_hide hf5 _ _ (to_text (tts[i], rs)) b3
      have ha5 := dpAll_same (off_mono (p := fa) b2) _ _ haT
      have al : acc.length ≤ 2 := by
        have z1 := dpAll_len hacc
        have z2 := congrArg List.length hnm
        rw [List.length_map] at z1 z2
        rw [List.length_take] at z2
        omega
      refine ⟨fa, acc, _, rfl, rfl, (off_at hf5).1, LC.small_line (by omega), _, _, _, _, _, rfl, pool_put b1 fap, ?_, ?_, acc ++ [.ref t2], tl ++ [(tts[i], rs)], ?_, ?_, ?_, ?_⟩
      · rw [off_put fap]
        exact same_put (sHT.trans b2) nfH
      · rw [off_put fap, upd_ne fta.symm]
        exact b2 _ _ htT
      · rw [off_put fap]
        exact upd_same
      · rw [off_put fap, off_upd, List.map_append]
        exact dpAll_app ha5 (.cons b4 .nil)
      · rw [List.map_append, hnm, List.take_succ, List.getElem?_eq_getElem hi]
        rfl
      · intro t' ht'
        rcases List.mem_append.mp ht' with z | z
        · exact htl t' z
        · rw [List.mem_singleton.mp z]
          have e2 : (((tts[i], rs) : Text).2.length : Int) = 1 + r2 := by
            show (rs.length : Int) = 1 + r2
            omega
          refine ⟨?_, ?_, fun r hr2 => ?_⟩
          · show 1 ≤ rs.length
            omega
          · show rs.length ≤ 4
            omega
          · rw [e2]
            exact hok r hr2
  · obtain ⟨v6, v7, v8, v9, v10, rfl, plG, sG, htG, acc, tl, hfG, hacc, hnm, htl⟩ := h
    rw [List.length_map, List.take_length] at hnm
    refine ⟨_, rfl, fa, _, rfl, .inl ⟨SqL.of (off_sub _ _ hfG), fun t ot nt pt => ?_⟩⟩
    obtain ⟨a1, a2, a3⟩ := new_tupQ (n := 0) (H := H) plG nt sG pt (dqAll_any (dpAll_same off_sub _ _ hacc))
    have tlen : tl.length = tts.length := by rw [← hnm, List.length_map]
    refine q _ _ tl a1 a2 a3 ⟨?_, ?_, fun t ht => ?_, ?_, fun t ht r hr2 => ?_⟩ ?_
    · rw [tlen]
      rcases htt with rfl | rfl <;> decide
    · omega
    · have mt2 : t.1 ∈ tts := by
        rw [← hnm]
        exact List.mem_map_of_mem ht
      obtain ⟨b1, b2, _⟩ := htl t ht
      refine ⟨?_, b1, by omega⟩
      generalize t.1 = z at mt2
      rcases htt with rfl | rfl <;> simp at mt2 <;> rcases mt2 with rfl | rfl <;> decide +kernel
    · rw [hnm]
      rcases htt with rfl | rfl <;> decide +kernel
    · rw [hnm]
      exact (htl t ht).2.2 r hr2
    · intro t ht
      have mt2 : t.1 ∈ tts := by
        rw [← hnm]
        exact List.mem_map_of_mem ht
      refine ⟨?_, (htl t ht).2.1⟩
      generalize t.1 = z at mt2
      rcases htt with rfl | rfl <;> simp at mt2 <;> rcases mt2 with rfl | rfl <;> decide +kernel
end
end PP

set_option maxHeartbeats 4000000
namespace PP
open PySem PySem.Spec PyProof.Rows L2 G3 M0 PA PT
abbrev nProg : List Str := ["_law_pool_here", "_law_most", "_law_deep", "_law_boxes", "_law_names", "_law_found", "_law_name", "_law_own", "_law_others", "_law_other"]
theorem scProg : FnScope nProg ["_law_pool_here", "_law_most", "_law_deep"] (defScope s_law_program) := ⟨rfl, rfl, rfl, by decide +kernel, rfl, by decide +kernel, by decide +kernel⟩
theorem sl_twoP {K : PySem.W.Frag} {G : Hp} {t : Addr} {x y : V} {r : Int} {T : VK} (h : PAt G t [x, y]) (r0 : 0 ≤ r) (r1 : r < 2)
    (go : ∀ bt G', (bt = t ∧ G' = G ∧ r = 1) ∨ (r = 0 ∧ G bt = none ∧ ∃ o : Obj, o.dict = none ∧ G' = upd G bt (.frz o (.tup [x]))) → T (.ref bt) G') : rSlP K (.ref t) none (some (1 + r)) G T := by
  have : r = 0 ∨ r = 1 := by omega
  rcases this with rfl | rfl
  · refine ⟨t, _, rfl, h.sq, fun z => ?_, fun _ q o nq no => go q _ (.inr ⟨rfl, nq, o, no, rfl⟩)⟩
    exact absurd z.2 (by show ¬ HT.sIx 2 2 (some (1 + 0)) = 2; decide)
  · exact ⟨t, _, rfl, h.sq, fun _ => go t G (.inl ⟨rfl, rfl, rfl⟩), fun z => absurd ⟨rfl, rfl⟩ z⟩
theorem rep_twoP {K : PySem.W.Frag} {G : Hp} {t : Addr} {x : V} {T : VK} (h : SqT K G t [x]) (kk : Bool)
    (go : ∀ ot G', (ot = t ∧ G' = G) ∨ (G ot = none ∧ ∃ o : Obj, o.dict = none ∧ G' = upd G ot (.frz o (.tup []))) → T (.ref ot) G') : rRepP K (.ref t) (.int (if kk then 1 else 0)) G T := by
  cases kk with
  | false => exact ⟨t, 0, _, rfl, rfl, h, by simp, by decide, by simp, by simp, fun z => absurd z (by decide), fun _ q o nq no => go q _ (.inr ⟨nq, o, no, rfl⟩)⟩
  | true => exact ⟨t, 1, _, rfl, rfl, h, by simp, by decide, by simp, by simp, fun _ => go t G (.inl ⟨rfl, rfl⟩), fun z => absurd rfl z⟩
theorem cat_two {K : PySem.W.Frag} {G : Hp} {a b : Addr} {xs ys : List V} {T : VK} (h1 : SqT K G a xs) (h2 : SqT K G b ys) (l1 : xs.length + ys.length ≤ 1000)
    (go : ∀ c G', SqT K G' c (xs ++ ys) → Same G G' → T (.ref c) G') : rCatA K (.ref a) (.ref b) G T := by
  refine ⟨a, b, xs, ys, rfl, rfl, h1, h2, Nat.le_of_lt (LC.small_line (by omega)), fun e => ?_, fun _ e => ?_, fun _ _ q nq => go q _ (SqT.of upd_same) (same_new nq)⟩
  · rw [e] at go
    exact go b G h2 (Same.refl G)
  · rw [e, List.append_nil] at go
    exact go a G h1 (Same.refl G)
section
variable {P : Program} {w : World} {K : PySem.W.Frag} {mg : Str → Option Value} {base : Heap}
def wHands : List Str := ["ha", "hb", "hc"]
/-- a program that is drawn: its names and how long it is -/
structure Known (p : Prog) : Prop where
  few : p.1.length ≤ 2
  box : ∀ b ∈ p.1, b.1 = ("s" : Str) ∨ b.1 = ("t" : Str)
  nm : ∀ h ∈ p.2, h.1 ∈ wHands
  own : ∀ h ∈ p.2, h.2.1 = [] ∨ h.2.1 = ([("x", 2)] : List Box)
  txt : ∀ h ∈ p.2, ∀ t ∈ h.2.2, t.1 ∈ wTexts ∧ t.2.length ≤ 4
def spProg (K : PySem.W.Frag) : Sp := fun vs H Q _ => ∃ (p : Addr) (m : Int), vs = [.ref p, .int m, .bl true] ∧ Pool H p ∧ 1 ≤ m ∧ m ≤ 3 ∧
  ∀ (H' : Hp) (u : V) (pr : Prog), Pool H' p → Same (off p H) (off p H') → Dq K (off p H') 4 u (progD pr) → ProgOk pr → pr.2.length ≤ m → Known pr → Q u H'
set_option maxHeartbeats 8000000 in
theorem ok_prog {f : Addr} {fd : FuncData} {k : Nat} (F : Fun K "_law_program" "_law_program" s_law_program f fd) (T : Def P w K mg base CX0 (k + 1) "_law_take" ["_law_pool_here", "_law_many"] spTake) (R : Def P w K mg base CX0 (k + 1) "_law_texts" ["_law_pool_here", "_law_boxes", "_law_others", "_law_deep"] (spTexts K))
    (mi : mg "int" = none) (mt : mg "tuple" = none) (mli : mg "list" = none) :
    FnOk P w K mg base CX0 (k + 1 + 1) f fd ["_law_pool_here", "_law_most", "_law_deep"] (spProg K) := by
  refine F.ok scProg (fun vs H Q E h => ?_) (fun cdv A outer s H vs Q E hr h => ?_)
  · obtain ⟨p, m, rfl, _⟩ := h
    rfl
  obtain ⟨p, m, rfl, pl, m1, m3, q⟩ := h
  have nd := scProg.nd
  refine ⟨_, pss_cons (ps_set (i := 3) nd rfl (.inl rfl) (pe_slice sl_tupP (pe_tupP (pa_cons (pe_tupP (pa_cons pe_str (pa_cons pe_int pa_nil))) (pa_cons (pe_tupP (pa_cons pe_str (pa_cons (pe_op op_add pe_int (pe_call T.ok hr (by rfl) T.g T.kp T.b .nil pass0 (pa_cons (pv 0) (pa_cons pe_int pa_nil)))) pa_nil))) pa_nil))) po_none (po_some (pe_op op_add pe_int (pe_call T.ok hr (by rfl) T.g T.kp T.b .nil pass0 (pa_cons (pv 0) (pa_cons pe_int pa_nil)))))))
    (pss_cons (ps_set (i := 4) nd rfl (.inl rfl) (pe_slice sl_list (pe_lst (pa_cons pe_str (pa_cons pe_str (pa_cons pe_str pa_nil)))) po_none (po_some (pe_op op_add pe_int (pe_call T.ok hr (by rfl) T.g T.kp T.b .nil pass0 (pa_cons (pv 0) (pa_cons (pv 1) pa_nil)))))))
    (pss_cons (ps_set (i := 5) nd rfl (.inl rfl) (pe_lst pa_nil))
    (pss_cons (ps_for PassesOwn.never rfl (pi_list (pv 4)) (pg_name (i := 6) nd rfl (.inr rfl))
      (pss_cons (ps_set (i := 7) nd rfl (.inl rfl) (pe_op op_repP (pe_tupP (pa_cons (pe_tup (pa_cons pe_str (pa_cons pe_int pa_nil))) pa_nil)) (pe_callTy call_int1 (by rfl) mi (by decide +kernel) (pa_cons (pe_cmpR op_eq (pe_call T.ok hr (by rfl) T.g T.kp T.b .nil pass0 (pa_cons (pv 0) (pa_cons pe_int pa_nil))) pe_int (nomark _)) pa_nil))))
      (pss_cons (ps_setLc (i := 8) (own := [("_law_other", 9)]) (g := gName 9) (by rfl) nd rfl rfl (sw_true rfl rfl rfl (by decide +kernel)) (pi_list (pv 4))
          (blkOk_by (N := nProg) (sc := defScope s_law_program) (by decide +kernel)) (fun _ _ _ _ _ => pg_name (i := 9) nd rfl (.inl rfl))
          (fun _ _ _ _ _ => pts_one (pt_cmpR op_ne (pv 9) (pv 6) (nomark _))) (fun _ _ _ _ _ => pv 9))
      (pss_one (ps_expr (pe_bm PySem.F.plainAttrs_list PySem.F.slot_list_append PySem.F.type_list_append mt_append (pv 5) (pa_cons (pe_tupP (pa_cons (pv 6) (pa_cons (pv 7)
        (pa_cons (pe_call R.ok hr (by rfl) R.g R.kp R.b .nil pass0 (pa_cons (pv 0) (pa_cons (pe_callTy call_list_of (by rfl) mli (by decide +kernel) (pa_cons (pe_op op_catA (pv 3) (pv 7)) pa_nil)) (pa_cons (pv 8) (pa_cons (pv 2) pa_nil))))) pa_nil)))) pa_nil)))))))
    (pss_one (ps_ret (pe_tupP (pa_cons (pv 3) (pa_cons (pe_callTy call_tupP (by rfl) mt (by decide +kernel) (pa_cons (pv 5) pa_nil)) pa_nil)))))))), ?_⟩
  refine ⟨lz2, fun t1 o1 n1 q1 => ?_⟩
  obtain ⟨a1, a2, a3⟩ := new_tupQ (n := 1) (K := K) (vs := [.str "s", .int 2]) (ds := [.str "s", .int 2]) (H := H) pl n1 (Same.refl _) q1 (.cons (.str _ _) (.cons (.int _ _) (.nil _)))
  generalize upd H t1 (.frz o1 (.tup [.str "s", .int 2])) = H1 at a1 a2 a3 ⊢
  refine ⟨_, rfl, p, 2, rfl, a1, by decide, by decide, fun H2 r1 pl2 o2 r10 r11 => ⟨2, r1, rfl, rfl, lz2, fun t2 ob2 n2 q2 => ?_⟩⟩
  rw [← o2] at a2 a3
  obtain ⟨b1, b2, b3⟩ := new_tupQ (n := 1) (K := K) (vs := [.str "t", .int (2 + r1)]) (ds := [.str "t", .int (2 + r1)]) (H := H2) pl2 n2 (Same.refl _) q2 (.cons (.str _ _) (.cons (.int _ _) (.nil _)))
  have a4 := dq_same b2 _ _ a3
  have a5 := a2.trans b2
  refine ⟨lz2, fun t3 o3b n3 q3 => ?_⟩
  obtain ⟨c1, c2, c3⟩ := new_tupQ (n := 2) (K := K) (vs := [.ref t1, .ref t2]) (ds := [boxD ("s", 2), boxD ("t", 2 + r1)]) (H := H) b1 n3 a5 q3 (.cons a4 (.cons b3 (.nil _)))
  have a6 := dq_same (off_mono (p := p) (same_new (o := .frz o3b (.tup [.ref t1, .ref t2])) n3)) _ _ a4
  have c4 : PAt (off p (upd (upd H2 t2 (.frz ob2 (.tup [.str "t", .int (2 + r1)]))) t3 (.frz o3b (.tup [.ref t1, .ref t2])))) t3 [.ref t1, .ref t2] := ⟨o3b, by rw [off_ne (pool_ne b1 n3)]; exact upd_same, q3⟩
  refine ⟨_, rfl, p, 2, rfl, c1, by decide, by decide, fun H3 r2 pl3 o3 r20 r21 => ⟨1, r2, rfl, rfl, _, rfl, ?_⟩⟩
  rw [← o3] at c2 c3 c4 a6
  clear a1 a2 a3 a4 a5 b1 b2 b3 c1
  refine sl_twoP (c4.same off_sub) r20 r21 fun bt G hG => ?_
  obtain ⟨bs, plG, sHG, hbt, hbs⟩ : ∃ bs : List Box, Pool G p ∧ Same (off p H) (off p G) ∧ Dq K (off p G) 3 (.ref bt) (boxesD bs) ∧ (bs = ([("s", 2)] : List Box) ∨ bs = ([("s", 2), ("t", 2 + r1)] : List Box)) := by
    rcases hG with ⟨rfl, rfl, _⟩ | ⟨_, nb, ob, qb, rfl⟩
    · exact ⟨([("s", 2), ("t", 2 + r1)] : List Box), pl3, c2, c3, .inr rfl⟩
    · obtain ⟨d1, d2, d3⟩ := new_tupQ (n := 2) (K := K) (vs := [.ref t1]) (ds := [boxD ("s", 2)]) (H := H) pl3 nb c2 qb (.cons a6 (.nil _))
      exact ⟨([("s", 2)] : List Box), d1, d2, d3, .inl rfl⟩
  clear hG c2 c3 c4 a6 pl3 o3
  -- the names
  refine ⟨by show 3 ≤ sizeLine; decide, fun x0 n0 => ?_⟩
  have s0 : Same G (upd G x0 (.lst [.str "ha", .str "hb", .str "hc"])) := same_new n0
  have x0p := pool_ne plG n0
  refine ⟨_, rfl, _, rfl, p, m, rfl, pool_same plG s0, by omega, by omega, fun G1 r3 pl4 o4 r30 r31 => ⟨1, r3, rfl, rfl, _, rfl, x0, _, rfl, SqL.of (off_sub _ _ (by rw [o4, off_ne x0p]; exact upd_same)), fun na nna => ?_⟩⟩
  obtain ⟨nms, hnn, hcut, hln⟩ : ∃ nms : List Str, (nms = ([("ha" : Str)] : List Str) ∨ nms = ([("ha" : Str), ("hb" : Str)] : List Str) ∨ nms = ([("ha" : Str), ("hb" : Str), ("hc" : Str)] : List Str)) ∧ cutV [.str "ha", .str "hb", .str "hc"] none (some (1 + r3)) = nms.map V.str ∧ (nms.length : Int) = 1 + r3 := by
    have : r3 = 0 ∨ r3 = 1 ∨ r3 = 2 := by omega
    rcases this with rfl | rfl | rfl
    · exact ⟨_, .inl rfl, rfl, rfl⟩
    · exact ⟨_, .inr (.inl rfl), rfl, rfl⟩
    · exact ⟨_, .inr (.inr rfl), rfl, rfl⟩
  rw [hcut]
  have sG1 : Same (off p G) (off p G1) := by
    rw [o4]
    exact off_mono s0
  have nap := pool_ne pl4 nna
  refine ⟨Nat.zero_le _, fun fa nfa => ?_⟩
  have s2 : Same G1 (upd G1 na (.lst (nms.map V.str))) := same_new nna
  have pl5 := pool_same pl4 s2
  have fap := pool_ne pl5 nfa
  have s3 : Same (upd G1 na (.lst (nms.map V.str))) (upd (upd G1 na (.lst (nms.map V.str))) fa (.lst [])) := same_new nfa
  have pl6 := pool_same pl5 s3
  have sG3 := sG1.trans (off_mono (p := p) (s2.trans s3))
  have sH3 := sHG.trans sG3
  have nfH : off p H fa = none := same_none (sHG.trans sG1) (same_none (off_mono s2) (off_none nfa))
  have hna3 : off p (upd (upd G1 na (.lst (nms.map V.str))) fa (.lst [])) na = some (.lst (nms.map V.str)) := by
    rw [off_ne nap]
    exact s3 _ _ upd_same
  have hfa3 : off p (upd (upd G1 na (.lst (nms.map V.str))) fa (.lst [])) fa = some (.lst []) := by
    rw [off_ne fap]
    exact upd_same
  have fna : fa ≠ na := fun z => by
    rw [z, upd_same] at nfa
    cases nfa
  have hbt3 := dq_same sG3 _ _ hbt
  generalize upd (upd G1 na (.lst (nms.map V.str))) fa (.lst []) = G3 at pl6 sH3 hna3 hfa3 hbt3 ⊢
  clear s2 s3 nna nfa pl5 sG3
  have nl3 : nms.length ≤ 3 := by omega
  have wn : Words nms := ⟨by omega, fun z hz => by
    rcases hnn with rfl | rfl | rfl <;> simp at hz <;> rcases hz with rfl | rfl | rfl <;> decide +kernel⟩
  have hnd : nms.Nodup := by rcases hnn with rfl | rfl | rfl <;> decide +kernel
  have bnd : BoxesOk bs 8 4 [] ∧ 1 ≤ bs.length ∧ bs.length ≤ 2 := by
    rcases hbs with rfl | rfl
    · refine ⟨⟨by show 1 ≤ 8; decide, fun b hb => ?_, by decide +kernel⟩, by show 1 ≤ 1; decide, by show 1 ≤ 2; decide⟩
      rw [List.mem_singleton.mp hb]
      exact ⟨by decide +kernel, by decide, by decide, fun z => nomatch z⟩
    · refine ⟨⟨by show 2 ≤ 8; decide, fun b hb => ?_, by show ([("s" : Str), ("t" : Str)] : List Str).Nodup; decide +kernel⟩, by show 1 ≤ 2; decide, by show 2 ≤ 2; decide⟩
      rcases List.mem_cons.mp hb with rfl | hb
      · exact ⟨by decide +kernel, by decide, by decide, fun z => nomatch z⟩
      · rw [List.mem_singleton.mp hb]
        exact ⟨by show nameB "t" = true; decide +kernel, by show 1 ≤ 2 + r1; omega, by show 2 + r1 ≤ 4; omega, fun z => nomatch z⟩
  have own0 : ∀ ob : List Box, ob = [] ∨ ob = ([("x", 2)] : List Box) → BoxesOk ob 24 8 (bs.map (·.1)) ∧ Draw (bs ++ ob) ∧ ob.length ≤ 1 := by
    intro ob ho
    have mem : ∀ b ∈ bs, (b.1 = ("s" : Str) ∨ b.1 = ("t" : Str)) ∧ 1 ≤ b.2 ∧ b.2 ≤ 3 := fun b hb => by
      rcases hbs with rfl | rfl
      · rw [List.mem_singleton.mp hb]
        exact ⟨.inl rfl, by decide, by decide⟩
      · rcases List.mem_cons.mp hb with rfl | hb
        · exact ⟨.inl rfl, by decide, by decide⟩
        · rw [List.mem_singleton.mp hb]
          exact ⟨.inr rfl, by show 1 ≤ 2 + r1; omega, by show 2 + r1 ≤ 3; omega⟩
    have lay : ∀ b ∈ bs, PyData.strOk b.1 = true := fun b hb => by
      rcases (mem b hb).1 with e | e <;> rw [e] <;> decide +kernel
    have nx : ("x" : Str) ∉ bs.map (·.1) := fun z => by
      obtain ⟨b, hb, e⟩ := List.mem_map.mp z
      rcases (mem b hb).1 with e2 | e2 <;> rw [e2] at e <;> exact absurd e (by decide +kernel)
    have nm := bnd.1.nd
    obtain ⟨_, l1, l2⟩ := bnd
    rcases ho with rfl | rfl
    · refine ⟨⟨Nat.zero_le _, fun _ z => (nomatch z), List.nodup_nil⟩, ?_, Nat.zero_le _⟩
      rw [List.append_nil]
      exact ⟨l1, by omega, nm, fun b hb => ⟨(mem b hb).2.1, by have := (mem b hb).2.2; omega⟩, lay⟩
    · refine ⟨⟨by show 1 ≤ 24; decide, fun b hb => ?_, ?_⟩, ⟨?_, ?_, ?_, fun b hb => ?_, fun b hb => ?_⟩, by show 1 ≤ 1; decide⟩
      · rw [List.mem_singleton.mp hb]
        exact ⟨by show nameB "x" = true; decide +kernel, by decide, by decide, nx⟩
      · show ([("x" : Str)] : List Str).Nodup
        decide +kernel
      · rw [List.length_append]
        omega
      · rw [List.length_append]
        show bs.length + 1 ≤ 100
        omega
      · rw [List.map_append, List.nodup_append]
        refine ⟨nm, by show ([("x" : Str)] : List Str).Nodup; decide +kernel, fun a ha b hb e => ?_⟩
        have hb2 : b = ("x" : Str) := List.mem_singleton.mp hb
        rw [e, hb2] at ha
        exact nx ha
      · rcases List.mem_append.mp hb with hb | hb
        · exact ⟨(mem b hb).2.1, by have := (mem b hb).2.2; omega⟩
        · rw [List.mem_singleton.mp hb]
          exact ⟨by decide, by decide⟩
      · rcases List.mem_append.mp hb with hb | hb
        · exact lay b hb
        · rw [List.mem_singleton.mp hb]
          show PyData.strOk "x" = true
          decide +kernel
  refine ⟨_, rfl, na, rfl, ⟨_, SqL.of (off_sub _ _ hna3)⟩, for_it (walk_list (a := na) (xs := nms.map V.str) (K := K)) (fun i σ G => ∃ v6 v7 v8 v9, σ = [some (.ref p), some (.int m), some (.bl true), some (.ref bt), some (.ref na), some (.ref fa), v6, v7, v8, v9] ∧ Pool G p ∧ Same (off p H) (off p G) ∧ off p G na = some (.lst (nms.map V.str)) ∧ Dq K (off p G) 3 (.ref bt) (boxesD bs) ∧
      ∃ (acc : List V) (hl : List Hand), off p G fa = some (.lst acc) ∧ DqAll K (off fa (off p G)) 2 acc (hl.map handD) ∧ hl.map (·.1) = nms.take i ∧ ∀ h ∈ hl, (h.2.1 = [] ∨ h.2.1 = ([("x", 2)] : List Box)) ∧ TextsOk (bs ++ h.2.1) (nms.filter fun z => decide (z ≠ h.1)) h.2.2 ∧ ∀ t ∈ h.2.2, t.1 ∈ wTexts ∧ t.2.length ≤ 4)
    ⟨none, none, none, none, rfl, pl6, sH3, hna3, hbt3, [], [], hfa3, .nil _, rfl, fun _ z => nomatch z⟩ (fun i σ G _ h => ?_) (fun i y σ G G' hi h hy => ?_) (fun σ G h => ?_)⟩
  · obtain ⟨_, _, _, _, _, _, _, ht, _⟩ := h
    exact SqL.of (off_sub _ _ ht)
  · obtain ⟨v6, v7, v8, v9, rfl, plG, sG, htG, hbG, acc, hl, hfG, hacc, hnm, hhl⟩ := h
    obtain ⟨rfl, ey⟩ := hy
    rw [List.length_map] at hi
    have ei : (nms.map V.str)[i]? = some (.str nms[i]) := by rw [List.getElem?_map, List.getElem?_eq_getElem hi]; rfl
    rw [ei] at ey
    cases ey
    refine ⟨lz2, fun t1 n1 => ⟨lz1, fun t2 o2 n2 q2 => ?_⟩⟩
    obtain ⟨a1, a2, a3⟩ := new_tup (K := K) (vs := [.str "x", .int 2]) (ds := [.str "x", .int 2]) (H := G') plG n1 (Same.refl _) (.cons (.str _) (.cons (.int _) .nil))
    obtain ⟨b1, b2, b3⟩ := new_tupQ (n := 0) (K := K) (vs := [.ref t1]) (ds := [boxD ("x", 2)]) (H := G') a1 n2 a2 q2 (.cons (.any a3) (.nil _))
    have b4 : SqT K (off p (upd (upd G' t1 (.tup [.str "x", .int 2])) t2 (.frz o2 (.tup [.ref t1])))) t2 [.ref t1] := .inl (.inr ⟨o2, by rw [off_ne (pool_ne a1 n2)]; exact upd_same⟩)
    refine ⟨_, rfl, p, 3, rfl, b1, by decide, by decide, fun G1 r pl7 o7 r0 r1' => ⟨rfl, .inr ⟨_, rfl, rep_twoP (same_tup off_sub (o7 ▸ b4)) _ fun ot G2 hG2 => ?_⟩⟩⟩
    rw [← o7] at b2 b3 b4
    obtain ⟨ob, pl8, sG2, hot, hob⟩ : ∃ ob : List Box, Pool G2 p ∧ Same (off p G') (off p G2) ∧ Dq K (off p G2) 1 (.ref ot) (boxesD ob) ∧ (ob = [] ∨ ob = ([("x", 2)] : List Box)) := by
      rcases hG2 with ⟨rfl, rfl⟩ | ⟨nb, on, qn, rfl⟩
      · exact ⟨([("x", 2)] : List Box), pl7, b2, b3, .inr rfl⟩
      · obtain ⟨d1, d2, d3⟩ := new_tupQ (n := 0) (K := K) (vs := []) (ds := []) (H := G') pl7 nb b2 qn (.nil _)
        exact ⟨[], d1, d2, d3, .inl rfl⟩
    clear hG2 a1 a2 a3 b1 b2 b3 b4 pl7 o7 n1 n2
    obtain ⟨_, drw, obl⟩ := own0 ob hob
    have ht2 := sG2 _ _ htG
    -- others
    refine ⟨_, rfl, na, rfl, ⟨_, SqL.of (off_sub _ _ ht2)⟩, fun D nD => ?_⟩
    refine LC.lc_sift (walk_list (a := na) (xs := nms.map V.str) (K := K)) (fun H' s' => s'.seq (SqL.of (off_sub _ _ ht2))) (by rw [List.length_map]; omega) nD (fun v => !decide (v = V.str nms[i])) (fun x H7 R mx s8 fin => ⟨rfl, ?_⟩) (fun H7 s8 hD => ?_)
    · obtain ⟨z, _, rfl⟩ := List.mem_map.mp mx
      refine ⟨_, rfl, _, rfl, rfl, _, rfl, ?_⟩
      exact fin [some (.ref p), some (.int m), some (.bl true), some (.ref bt), some (.ref na), some (.ref fa), some (.str nms[i]), some (.ref ot), v8, some (.str z)] H7 (Same.refl H7) fun Q' h => ⟨_, rfl, h⟩
    have eD : D ≠ p := pool_ne pl8 nD
    have pl9 := pool_same pl8 s8
    have s78 : Same (off p G2) (off p H7) := off_mono s8
    have hfilt : (nms.map V.str).filter (fun v => !decide (v = V.str nms[i])) = (nms.filter fun z => decide (z ≠ nms[i])).map V.str := by
      rw [List.filter_map]
      congr 1
      refine List.filter_congr fun z _ => ?_
      simp [Function.comp]
    have hD7 : off p H7 D = some (.lst ((nms.filter fun z => decide (z ≠ nms[i])).map V.str)) := by
      rw [off_ne eD, ← hfilt]
      exact hD
    have sG7 := sG2.trans s78
    have hf7 := sG7 _ _ hfG
    have ht7 := sG7 _ _ htG
    have hb7 := dq_same sG7 _ _ hbG
    have ho7 := dq_same s78 _ _ hot
    have ha7 := dqAll_same (off_mono (p := fa) sG7) _ _ hacc
    have sH7 := sG.trans sG7
    have wf : Words (nms.filter fun z => decide (z ≠ nms[i])) := ⟨Nat.le_trans (List.length_filter_le _ _) (by omega), fun z hz => wn.lay z (List.mem_filter.mp hz).1⟩
    obtain ⟨ab, xs, eab, hxs, hxa⟩ := dp_tup (dq_dp _ _ hb7)
    cases eab
    obtain ⟨ao, ys, eao, hys, hya⟩ := dp_tup (dq_dp _ _ ho7)
    cases eao
    have xl : xs.length = bs.length := by rw [dpAll_len hxa, List.length_map]
    have yl : ys.length = ob.length := by rw [dpAll_len hya, List.length_map]
    refine ⟨_, rfl, .inl ⟨rfl, _, SqL.of (off_sub _ _ hf7)⟩, _, rfl, _, rfl, _, rfl, _, rfl, _, rfl, cat_two (same_tup off_sub hxs) (same_tup off_sub hys) (by have := bnd.2.2; omega) fun c G4 hc s4 => ⟨c, _, rfl, .inr hc, fun l nl => ?_⟩⟩
    have pl10 := pool_same pl9 s4
    have lp := pool_ne pl10 nl
    have s5 : Same G4 (upd G4 l (.lst (xs ++ ys))) := same_new nl
    have s75 : Same (off p H7) (off p (upd G4 l (.lst (xs ++ ys)))) := off_mono (s4.trans s5)
    have hl5 : off p (upd G4 l (.lst (xs ++ ys))) l = some (.lst (xs ++ ys)) := by
      rw [off_ne lp]
      exact upd_same
    have pl11 := pool_same pl10 s5
    generalize upd G4 l (.lst (xs ++ ys)) = G5 at s75 hl5 pl11 ⊢
    refine ⟨_, rfl, _, rfl, p, l, D, xs ++ ys, bs ++ ob, _, rfl, pl11, SqL.of hl5, ?_, drw, SqL.of (s75 _ _ hD7), wf, fun G6 u ts pl12 s6 hu hts htw => ⟨lz3, fun t ot2 nt pt => ?_⟩⟩
    · rw [List.map_append]
      exact dpAll_app (dpAll_same s75 _ _ hxa) (dpAll_same s75 _ _ hya)
    have s76 := s75.trans s6
    obtain ⟨e1, e2, e3⟩ := new_tupQ (n := 1) (ds := [.str nms[i], boxesD ob, .tuple (ts.map textD)]) (H := H7) pl12 nt s76 pt (.cons (.str _ _) (.cons (dq_same s76 _ _ ho7) (.cons hu (.nil _))))
    generalize upd G6 t (.frz ot2 (.tup [.str nms[i], .ref ot, u])) = G8 at e1 e2 e3 ⊢
    have hf8 := e2 _ _ hf7
    have e4 := dq_hide hf8 _ _ (to_hand (nms[i], ob, ts)) e3
    have ha8 := dqAll_same (off_mono (p := fa) e2) _ _ ha7
    have al : acc.length ≤ 3 := by
      have z1 := dqAll_len hacc
      have z2 := congrArg List.length hnm
      rw [List.length_map] at z1 z2
      rw [List.length_take] at z2
      omega
    refine ⟨fa, acc, _, rfl, rfl, (off_at hf8).1, LC.small_line (by omega), _, _, _, _, rfl, pool_put e1 fap, ?_, ?_, ?_, acc ++ [.ref t], hl ++ [(nms[i], ob, ts)], ?_, ?_, ?_, ?_⟩
    · rw [off_put fap]
      exact same_put (sH7.trans e2) nfH
    · rw [off_put fap, upd_ne fna.symm]
      exact e2 _ _ ht7
    · rw [off_put fap]
      exact dq_same (fun b o h => by
        obtain ⟨h1, h2⟩ := off_at h
        rw [upd_ne h2]
        exact h1) _ _ (dq_hide hf8 _ _ (to_map fun b _ => to_box b) (dq_same e2 _ _ hb7))
    · rw [off_put fap]
      exact upd_same
    · rw [off_put fap, off_upd, List.map_append]
      exact dqAll_app ha8 (.cons e4 (.nil _))
    · rw [List.map_append, hnm, List.take_succ, List.getElem?_eq_getElem hi]
      rfl
    · intro h' hh'
      rcases List.mem_append.mp hh' with z | z
      · exact hhl h' z
      · rw [List.mem_singleton.mp z]
        exact ⟨hob, hts, htw⟩
  · obtain ⟨v6, v7, v8, v9, rfl, plG, sG, htG, hbG, acc, hl, hfG, hacc, hnm, hhl⟩ := h
    rw [List.length_map, List.take_length] at hnm
    refine ⟨_, rfl, _, rfl, fa, _, rfl, .inl ⟨SqL.of (off_sub _ _ hfG), fun t ot nt pt => ⟨lz2, fun t2 ot2 nt2 pt2 => ?_⟩⟩⟩
    obtain ⟨a1, a2, a3⟩ := new_tupQ (H := G) plG nt (Same.refl _) pt (dqAll_same off_sub _ _ hacc)
    have hb2 := dq_same a2 _ _ hbG
    obtain ⟨b1, b2, b3⟩ := new_tupQ (n := 3) (ds := [boxesD bs, .tuple (hl.map handD)]) (H := H) a1 nt2 (sG.trans a2) pt2 (.cons hb2 (.cons a3 (.nil _)))
    have hlen : hl.length = nms.length := by rw [← hnm, List.length_map]
    refine q _ _ (bs, hl) b1 b2 b3 ⟨bnd.1, ?_, ?_, fun h hh => ?_, ?_, fun h hh => (own0 _ (hhl h hh).1).1, fun h hh => ?_⟩ ?_ ⟨bnd.2.2, fun b hb => ?_, fun h hh => ?_, fun h hh => (hhl h hh).1, fun h hh => (hhl h hh).2.2⟩
    · show 1 ≤ hl.length
      omega
    · show hl.length ≤ 4
      omega
    · have mt2 : h.1 ∈ nms := by
        rw [← hnm]
        exact List.mem_map_of_mem hh
      generalize h.1 = z at mt2
      rcases hnn with rfl | rfl | rfl <;> simp at mt2 <;> rcases mt2 with rfl | rfl | rfl <;> decide +kernel
    · show (hl.map (·.1)).Nodup
      rw [hnm]
      exact hnd
    · show TextsOk (bs ++ h.2.1) ((hl.map (·.1)).filter fun z => decide (z ≠ h.1)) h.2.2
      rw [hnm]
      exact (hhl h hh).2.1
    · show (hl.length : Int) ≤ m
      omega
    · show b.1 = _ ∨ b.1 = _
      rcases hbs with rfl | rfl
      · rw [List.mem_singleton.mp hb]
        exact .inl rfl
      · rcases List.mem_cons.mp hb with rfl | hb
        · exact .inl rfl
        · rw [List.mem_singleton.mp hb]
          exact .inr rfl
    · have mt2 : h.1 ∈ nms := by
        rw [← hnm]
        exact List.mem_map_of_mem hh
      generalize h.1 = z at mt2
      rcases hnn with rfl | rfl | rfl <;> simp at mt2 <;> rcases mt2 with rfl | rfl | rfl <;> decide +kernel
end
end PP

set_option maxHeartbeats 4000000
namespace PP
open PySem PySem.Spec PyProof.Rows L2 G0 G3 G4 G5 M0 PA EE QA LC SX PT EN SA
/-! ### roads into data -/
def Valid : Dt → List Nat → Prop
  | _, [] => True
  | .tuple ds, i :: r => ∃ e, ds[i]? = some e ∧ Valid e r
  | _, _ :: _ => False
def partD : Dt → List Nat → Dt
  | d, [] => d
  | .tuple ds, i :: r => match ds[i]? with
    | some e => partD e r
    | none => .none
  | _, _ :: _ => .none
def setAt : Dt → List Nat → Dt → Dt
  | _, [], n => n
  | .tuple ds, i :: r, n => .tuple (ds.take i ++ [setAt ((ds[i]?).getD .none) r n] ++ ds.drop (i + 1))
  | d, _ :: _, _ => d
abbrev natsV (r : List Nat) : List V := r.map fun i : Nat => V.int i
def RoadL (H : Hp) : List Addr → List (List Nat) → Prop := Paired fun a r => H a = some (.lst (natsV r))
theorem RoadL.same {H H' : Hp} (s : Same H H') : ∀ {as : List Addr} {rs : List (List Nat)}, RoadL H as rs → RoadL H' as rs
  | _, _, .nil => .nil
  | _, _, .cons h t => .cons (s _ _ h) (RoadL.same s t)
theorem RoadL.app {H : Hp} : ∀ {as bs : List Addr} {rs qs : List (List Nat)}, RoadL H as rs → RoadL H bs qs → RoadL H (as ++ bs) (rs ++ qs)
  | _, _, _, _, .nil, h => h
  | _, _, _, _, .cons h t, g => .cons h (RoadL.app t g)
theorem RoadL.len {H : Hp} {as : List Addr} {rs : List (List Nat)} (h : RoadL H as rs) : as.length = rs.length := Paired.length h
theorem RoadL.get {H : Hp} : ∀ {as : List Addr} {rs : List (List Nat)} {i : Nat} {r : List Nat}, RoadL H as rs → rs[i]? = some r → ∃ a, as[i]? = some a ∧ H a = some (.lst (natsV r))
  | _, _, _, _, .nil, e => by simp at e
  | _, _, 0, _, .cons h _, e => by
    simp only [List.getElem?_cons_zero, Option.some.injEq] at e
    subst e
    exact ⟨_, rfl, h⟩
  | _, _, i + 1, _, .cons _ t, e => by
    simp only [List.getElem?_cons_succ] at e
    obtain ⟨a, h1, h2⟩ := RoadL.get t e
    exact ⟨a, h1, h2⟩
theorem bulk_take {ds : List Dt} {i : Nat} {d : Dt} (h : ds[i]? = some d) : (PyData.tuple (ds.take (i + 1))).bulk = (PyData.tuple (ds.take i)).bulk + d.bulk + 1 := by
  rw [List.take_add_one, h]
  simp only [PyData.bulk]
  have key : ∀ (a b : List Dt), PyData.bulkAll (a ++ b) = PyData.bulkAll a + PyData.bulkAll b := by
    intro a b
    induction a with
    | nil => simp [PyData.bulkAll]
    | cons x r ih => simp only [List.cons_append, PyData.bulkAll, ih]; omega
  rw [key]
  simp only [Option.toList_some, PyData.bulkAll]
  omega
theorem bulk_le_take {ds : List Dt} (i : Nat) : (PyData.tuple (ds.take i)).bulk ≤ (PyData.tuple ds).bulk := by
  simp only [PyData.bulk]
  have key : ∀ (a b : List Dt), PyData.bulkAll (a ++ b) = PyData.bulkAll a + PyData.bulkAll b := by
    intro a b
    induction a with
    | nil => simp [PyData.bulkAll]
    | cons x r ih => simp only [List.cons_append, PyData.bulkAll, ih]; omega
  have := key (ds.take i) (ds.drop i)
  rw [List.take_append_drop] at this
  omega
theorem depth_lt {ds : List Dt} {d : Dt} (h : d ∈ ds) : d.depth + 1 ≤ (PyData.tuple ds).depth := by
  have key : ∀ (l : List Dt), d ∈ l → d.depth ≤ PyData.depthAll l := by
    intro l
    induction l with
    | nil => intro h; cases h
    | cons x r ih =>
      intro h
      simp only [PyData.depthAll]
      rcases List.mem_cons.mp h with rfl | h
      · omega
      · have := ih h
        omega
  have := key ds h
  simp only [PyData.depth]
  omega
abbrev nRoads : List Str := ["_law_item", "_law_found", "_law_at", "_law_part", "_law_road"]
theorem scRoads : FnScope nRoads ["_law_item"] (defScope s_law_roads) := ⟨rfl, rfl, rfl, by decide +kernel, rfl, by decide +kernel, by decide +kernel⟩
abbrev nPartAt : List Str := ["_law_item", "_law_road", "_law_at"]
theorem scPartAt : FnScope nPartAt ["_law_item", "_law_road"] (defScope s_law_part_at) := ⟨rfl, rfl, rfl, by decide +kernel, rfl, by decide +kernel, by decide +kernel⟩
abbrev nChAt : List Str := ["_law_item", "_law_road", "_law_new", "_law_at"]
theorem scChAt : FnScope nChAt ["_law_item", "_law_road", "_law_new"] (defScope s_law_changed_at) := ⟨rfl, rfl, rfl, by decide +kernel, rfl, by decide +kernel, by decide +kernel⟩
section
variable {P : Program} {w : World} {K : PySem.W.Frag} {mg : Str → Option Value} {base : Heap}
def spRoads (K : PySem.W.Frag) (n : Nat) : Sp := fun vs H Q _ => ∃ (x : V) (d : Dt), vs = [x] ∧ Dp K H x d ∧ d.depth ≤ n ∧ n ≤ 1000 ∧ d.bulk ≤ 100000 ∧
  ∀ H' L as rs, Same H H' → H L = none → H' L = some (.lst (as.map V.ref)) → RoadL H' as rs → (∀ a ∈ as, H a = none) → (∀ r ∈ rs, Valid d r ∧ r.length ≤ n) → 1 ≤ rs.length → rs.length ≤ d.bulk + 1 → Q (.ref L) H'
/-- a def that calls itself: known at each level below -/
structure Rec (P : Program) (w : World) (K : PySem.W.Frag) (mg : Str → Option Value) (base : Heap) (x : Str) (ps : List Str) (f : Addr) (fd : FuncData) where
  g : mg x = some (.ref f)
  kp : PySem.W.keepIn K (.ref f) = true
  b : Binds K fd ps []
set_option maxHeartbeats 16000000 in
theorem ok_roads {f : Addr} {fd : FuncData} (F : Fun K "_law_roads" "_law_roads" s_law_roads f fd) (R : Rec P w K mg base "_law_roads" ["_law_item"] f fd) (m_isinstance : mg "isinstance" = none) (m_tuple : mg "tuple" = none) (m_enumerate : mg "enumerate" = none) : ∀ n : Nat, FnOk P w K mg base CX0 (n + 1) f fd ["_law_item"] (spRoads K n) := by
  intro n
  induction n with
  | zero =>
    refine F.ok scRoads (fun vs H Q E h => ?_) (fun cdv A outer s H vs Q E hr h => ?_)
    · obtain ⟨x, d, rfl, _⟩ := h
      rfl
    obtain ⟨x, d, rfl, hx, dep, n1, blk, q⟩ := h
    have nd := scRoads.nd
    refine ⟨_, (pss_cons (ps_set (i := 1) nd rfl (.inl rfl) (pe_lst (pa_cons (pe_lst pa_nil) pa_nil)))
    (pss_cons (ps_if (pt_val (pe_callB call_isi (by rfl) m_isinstance PyProof.Rows.boot_isinstance (pa_cons (pv 0) (pa_cons (pe_bltn (by rfl) m_tuple (u := .type "tuple") (by decide +kernel) (show RelV (.ty "tuple") (.type "tuple") from rfl)) pa_nil)))) (pss_one ps_dead) pss_nil)
    (pss_one (ps_ret (pv 1))))), ?_⟩
    refine ⟨Nat.zero_le _, fun e0 ne0 => ⟨lz1, fun L0 nL0 => ?_⟩⟩
    have s1 : Same H (upd H e0 (.lst [])) := same_new ne0
    have s2 : Same (upd H e0 (.lst [])) (upd (upd H e0 (.lst [])) L0 (.lst [.ref e0])) := same_new nL0
    have hx2 := dp_same (s1.trans s2) _ _ hx
    refine ⟨_, rfl, _, _, _, _, _, rfl, .ty "tuple", dp_ty hx2, kit_tup K hx2, _, rfl, ?_⟩
    have nt : isTup d = false := by
      cases d with
      | tuple es => simp only [PyData.depth] at dep; omega
      | _ => rfl
    rw [nt]
    refine iteF ⟨_, rfl, q _ L0 [e0] [[]] (s1.trans s2) (same_none s1 nL0) upd_same (.cons (s2 _ _ upd_same) .nil) (fun z hz => by rw [List.mem_singleton.mp hz]; exact ne0) (fun r hr => ?_) (by decide) (by simp)⟩
    rw [List.mem_singleton.mp hr]
    exact ⟨by cases d <;> trivial, Nat.zero_le _⟩
  | succ n ih =>
    have DR : Def P w K mg base CX0 (n + 1) "_law_roads" ["_law_item"] (spRoads K n) := ⟨f, fd, ih, R.g, R.kp, R.b⟩
    refine F.ok scRoads (fun vs H Q E h => ?_) (fun cdv A outer s H vs Q E hr h => ?_)
    · obtain ⟨x, d, rfl, _⟩ := h
      rfl
    obtain ⟨x, d, rfl, hx, dep, n1, blk, q⟩ := h
    have nd := scRoads.nd
    refine ⟨_, (pss_cons (ps_set (i := 1) nd rfl (.inl rfl) (pe_lst (pa_cons (pe_lst pa_nil) pa_nil)))
    (pss_cons (ps_if (pt_val (pe_callB call_isi (by rfl) m_isinstance PyProof.Rows.boot_isinstance (pa_cons (pv 0) (pa_cons (pe_bltn (by rfl) m_tuple (u := .type "tuple") (by decide +kernel) (show RelV (.ty "tuple") (.type "tuple") from rfl)) pa_nil)))) (pss_one (ps_for PassesOwn.never rfl (EN.pi_enumT (by rfl) m_enumerate (pa_cons (pv 0) pa_nil)) (pg_tup rfl (pgs_cons (pg_name (i := 2) nd rfl (.inr rfl)) (pgs_cons (pg_name (i := 3) nd rfl (.inl rfl)) pgs_nil)))
      (pss_one (ps_set (i := 1) nd rfl (.inl rfl) (pe_op op_cat (pv 1) (pe_lc (own := [("_law_road", 4)]) (g := (gName 4)) (tt := tYes) (by rfl) nd (pi_list (pe_call DR.ok hr (by rfl) DR.g DR.kp DR.b .nil pass0 (pa_cons (pv 3) pa_nil))) (blkOk_by (N := nRoads) (sc := defScope s_law_roads) (by decide +kernel)) (fun _ _ _ _ _ => (pg_name (i := 4) nd rfl (.inl rfl))) (fun _ _ _ _ _ => pts_nil) (fun _ _ _ _ _ => (pe_op op_cat (pe_lst (pa_cons (pv 2) pa_nil)) (pv 4))))))))) pss_nil)
    (pss_one (ps_ret (pv 1))))), ?_⟩
    refine ⟨Nat.zero_le _, fun e0 ne0 => ⟨lz1, fun L0 nL0 => ?_⟩⟩
    have s1 : Same H (upd H e0 (.lst [])) := same_new ne0
    have s2 : Same (upd H e0 (.lst [])) (upd (upd H e0 (.lst [])) L0 (.lst [.ref e0])) := same_new nL0
    have s12 := s1.trans s2
    have nL0H := same_none s1 nL0
    have he0 := s2 _ _ (upd_same (H := H) (a := e0) (o := .lst []))
    have hL0 : (upd (upd H e0 (.lst [])) L0 (.lst [.ref e0])) L0 = some (.lst [.ref e0]) := upd_same
    generalize upd (upd H e0 (.lst [])) L0 (.lst [.ref e0]) = G at s12 he0 hL0 ⊢
    clear s1 s2
    have hx2 := dp_same s12 _ _ hx
    have vnil : Valid d [] := by cases d <;> trivial
    refine ⟨_, rfl, _, _, _, _, _, rfl, .ty "tuple", dp_ty hx2, kit_tup K hx2, _, rfl, ?_⟩
    by_cases dt : isTup d = true
    rotate_left
    · rw [show isTup d = false by simpa using dt]
      refine iteF ⟨_, rfl, q _ L0 [e0] [[]] s12 nL0H hL0 (.cons he0 .nil) (fun z hz => by rw [List.mem_singleton.mp hz]; exact ne0) (fun r hr => ?_) (by decide) (by simp)⟩
      rw [List.mem_singleton.mp hr]
      exact ⟨vnil, Nat.zero_le _⟩
    obtain ⟨ds, rfl⟩ := isT_tup d dt
    obtain ⟨a, xs, rfl, ha, hall, hxl⟩ := small_of hx
    refine iteT ⟨_, rfl, a, xs, rfl, same_tup s12 ha, for_enumT (xs := xs) (fun i σ H3 => ∃ L as rs y2 y3 y4, σ = [some (.ref a), some (.ref L), y2, y3, y4] ∧ Same H H3 ∧ H L = none ∧ H3 L = some (.lst (as.map V.ref)) ∧ RoadL H3 as rs ∧ (∀ z ∈ as, H z = none) ∧ (∀ r ∈ rs, Valid (.tuple ds) r ∧ r.length ≤ n + 1) ∧ 1 ≤ rs.length ∧ rs.length ≤ (PyData.tuple (ds.take i)).bulk + 1)
      ⟨L0, [e0], [[]], _, _, _, rfl, s12, nL0H, hL0, .cons he0 .nil, fun z hz => by rw [List.mem_singleton.mp hz]; exact ne0, fun r hr => by rw [List.mem_singleton.mp hr]; exact ⟨vnil, Nat.zero_le _⟩, by decide, by simp⟩ (fun i σ H3 hP => ?_) (fun i e T σ H3 he hP nT => ?_) (fun σ H3 hP => ?_)⟩
    · obtain ⟨_, _, _, _, _, _, _, sm, _⟩ := hP
      exact same_tup sm ha
    · obtain ⟨L, as, rs, y2, y3, y4, rfl, sm, nL, hL, hR, hA, hV, one, few⟩ := hP
      obtain ⟨d1, hd1, hd10⟩ := dpAll_get hall he
      have mem := List.mem_of_getElem? hd1
      have dep1 : d1.depth ≤ n := by
        have := depth_lt mem
        omega
      have blk1 := Nat.le_trans (mem_bulk mem) blk
      have sT : Same H3 (upd H3 T (.tup [.int (i : Nat), e])) := same_new nT
      have hT : (upd H3 T (.tup [.int (i : Nat), e])) T = some (.tup [.int (i : Nat), e]) := upd_same
      have s3 := sm.trans sT
      have hL1 := sT _ _ hL
      have hR1 := hR.same sT
      generalize upd H3 T (.tup [.int (i : Nat), e]) = G1 at hT s3 hL1 hR1 ⊢
      refine ⟨T, _, rfl, SqT.of hT, rfl, _, _, rfl, _, _, rfl, rfl, ?_⟩
      refine ⟨_, rfl, _, rfl, e, d1, rfl, dp_same s3 _ _ hd10, dep1, by omega, blk1, fun G2 L2 as2 rs2 s4 nL2 hL2 hR2 hA2 hV2 one2 few2 => ?_⟩
      have al2 := hR2.len
      refine ⟨L2, rfl, ⟨_, SqL.of hL2⟩, fun D nD => ?_⟩
      refine lc_it (walk_list (a := L2) (xs := as2.map V.ref) (K := K)) (fun j G => Same G2 G ∧ ∃ bs, G D = some (.lst (bs.map V.ref)) ∧ (∀ z ∈ bs, G2 z = none) ∧ RoadL (off D G) bs ((rs2.take j).map (i :: ·))) ⟨same_new nD, [], upd_same, (fun z hz => by cases hz), .nil⟩ (fun j G _ h => SqL.of (h.1 _ _ hL2)) (fun j x G G' hj h y => ?_) (fun G3' h => ?_)
      · obtain ⟨sG, bs, hD, hN, hB⟩ := h
        obtain ⟨rfl, ex⟩ := y
        rw [List.length_map] at hj
        have er : rs2[j]? = some rs2[j] := List.getElem?_eq_getElem (by omega)
        obtain ⟨a2, ea2, ha2⟩ := hR2.get er
        rw [List.getElem?_map, ea2] at ex
        cases ex
        have bl := hB.len
        rw [List.length_map, List.length_take] at bl
        refine ⟨rfl, ?_⟩
        dsimp only [tYes]
        rw [if_pos rfl]
        have vlen := (hV2 _ (List.getElem_mem (by omega : j < rs2.length))).2
        have ha2' := sG _ _ ha2
        generalize rs2[j] = r at er ha2 vlen ha2'
        refine ⟨_, rfl, lz1, fun p1 np1 => ?_⟩
        have t1 : Same G' (upd G' p1 (.lst [.int (i : Nat)])) := same_new np1
        refine ⟨_, rfl, p1, a2, _, _, rfl, rfl, upd_same, t1 _ _ ha2', ?_, fun p2 np2 => ?_⟩
        · show 1 + (natsV r).length ≤ sizeLine
          rw [List.length_map]
          exact Nat.le_of_lt (LC.small_line (by omega))
        have t2 : Same (upd G' p1 (.lst [.int (i : Nat)])) (upd (upd G' p1 (.lst [.int (i : Nat)])) p2 (.lst ([.int (i : Nat)] ++ natsV r))) := same_new np2
        have hp2 : (upd (upd G' p1 (.lst [.int (i : Nat)])) p2 (.lst ([.int (i : Nat)] ++ natsV r))) p2 = some (.lst (natsV (i :: r))) := upd_same
        have t12 := t1.trans t2
        have p2D : p2 ≠ D := fun z => by
          rw [z, t1 _ _ hD] at np2
          cases np2
        generalize upd (upd G' p1 (.lst [.int (i : Nat)])) p2 (.lst ([.int (i : Nat)] ++ natsV r)) = G4 at t12 hp2 ⊢
        refine ⟨_, t12 _ _ hD, by rw [List.length_map]; exact LC.small_line (by omega), same_put (sG.trans t12) nD, bs ++ [p2], by rw [upd_same, List.map_append]; rfl, fun z hz => ?_, ?_⟩
        · rcases List.mem_append.mp hz with hz | hz
          · exact hN z hz
          · rw [List.mem_singleton.mp hz]
            exact same_none (sG.trans t1) np2
        rw [off_upd, List.take_add_one, er, List.map_append]
        exact RoadL.app (hB.same (off_mono t12)) (.cons (by rw [off_ne p2D]; exact hp2) .nil)
      obtain ⟨s5, bs, hD, hN, hB⟩ := h
      rw [List.length_map, al2, List.take_length] at hB
      have hB2 := hB.same off_sub
      have bl := hB2.len
      rw [List.length_map] at bl
      have al := hR1.len
      have bt := bulk_take hd1
      have bt2 := bulk_le_take (ds := ds) (i + 1)
      have s45 := s4.trans s5
      refine ⟨L, D, _, _, rfl, rfl, s45 _ _ hL1, hD, ?_, fun p np => ?_⟩
      · rw [List.length_map, List.length_map]
        exact Nat.le_of_lt (LC.small_line (by omega))
      · have sp : Same G3' (upd G3' p (.lst (as.map V.ref ++ bs.map V.ref))) := same_new np
        refine ⟨p, as ++ bs, rs ++ rs2.map (i :: ·), _, _, _, rfl, (s3.trans s45).trans sp, same_none (s3.trans s45) np, by rw [upd_same, List.map_append], RoadL.app (hR1.same (s45.trans sp)) (hB2.same sp), fun z hz => (List.mem_append.mp hz).elim (hA z) fun hz => same_none (s3.trans s4) (hN z hz), fun r hr => ?_, by rw [List.length_append]; omega, by rw [List.length_append, List.length_map]; omega⟩
        rcases List.mem_append.mp hr with hr | hr
        · exact hV r hr
        · obtain ⟨r2, hr2, rfl⟩ := List.mem_map.mp hr
          exact ⟨⟨d1, hd1, (hV2 r2 hr2).1⟩, by rw [List.length_cons]; have := (hV2 r2 hr2).2; omega⟩
    · obtain ⟨L, as, rs, y2, y3, y4, rfl, sm, nL, hL, hR, hA, hV, one, few⟩ := hP
      rw [hxl, List.take_length] at few
      exact ⟨_, rfl, q _ L as rs sm nL hL hR hA hV one few⟩
theorem dq_tup0 {K : PySem.W.Frag} {H : Hp} {m : Nat} {v : V} {ds : List PyData} (h : Dq K H m v (.tuple ds)) : ∃ a xs, v = .ref a ∧ SqT K H a xs ∧ DqAll K H (m - 1) xs ds ∧ xs.length = ds.length := by
  cases m with
  | zero =>
    obtain ⟨a, xs, e, h1, h2, l⟩ := small_of (dq_dp _ _ h)
    exact ⟨a, xs, e, h1, dqAll_any h2, l⟩
  | succ m =>
    obtain ⟨a, xs, e, h1, h2, l⟩ := dq_tup h
    exact ⟨a, xs, e, h1.sq, h2, l⟩
theorem dq_mk {K : PySem.W.Frag} {H : Hp} {m : Nat} {a : Addr} {xs : List V} {ds : List PyData} (h : PAt H a xs) (t : DqAll K H (m - 1) xs ds) : Dq K H m (.ref a) (.tuple ds) := by
  cases m with
  | zero => exact .any (.tup h.sq (dqAll_dp _ _ t))
  | succ m => exact .tup h t
theorem sl_anyP {K : PySem.W.Frag} {G : Hp} {a : Addr} {xs : List V} {lo hi : Option Int} {T : VK} (h : SqT K G a xs) (go : ∀ c G', SqT K G' c (cutV xs lo hi) → Same G G' → T (.ref c) G') : rSlP K (.ref a) lo hi G T :=
  ⟨a, xs, rfl, h, fun z => go a G (by rw [cut_whole z]; exact h) (Same.refl G), fun _ q _ nq _ => go q _ (PAt.sq ⟨_, upd_same, ‹_›⟩) (same_new nq)⟩
theorem cat_left {K : PySem.W.Frag} {G : Hp} {a b : Addr} {xs ys : List V} {T : VK} (h1 : SqT K G a xs) (h2 : PAt G b ys) (ny : ys ≠ []) (l : xs.length + ys.length ≤ 1000000) (go : ∀ c G', PAt G' c (xs ++ ys) → Same G G' → T (.ref c) G') : rCatP K (.ref a) (.ref b) G T := by
  refine ⟨a, b, xs, ys, rfl, rfl, h1, h2.sq, Nat.le_of_lt (LC.small_line l), fun e => ?_, fun _ e => absurd e ny, fun _ _ q o nq no => go q _ ⟨o, upd_same, no⟩ (same_new nq)⟩
  subst e
  exact go b G h2 (Same.refl G)
theorem cat_right {K : PySem.W.Frag} {G : Hp} {a b : Addr} {xs ys : List V} {T : VK} (h1 : PAt G a xs) (h2 : SqT K G b ys) (nx : xs ≠ []) (l : xs.length + ys.length ≤ 1000000) (go : ∀ c G', PAt G' c (xs ++ ys) → Same G G' → T (.ref c) G') : rCatP K (.ref a) (.ref b) G T := by
  refine ⟨a, b, xs, ys, rfl, rfl, h1.sq, h2, Nat.le_of_lt (LC.small_line l), fun e => absurd e nx, fun _ e => ?_, fun _ _ q o nq no => go q _ ⟨o, upd_same, no⟩ (same_new nq)⟩
  subst e
  rw [List.append_nil] at go
  exact go a G h1 (Same.refl G)
theorem part_nil (d : Dt) : partD d [] = d := by cases d <;> rfl
theorem set_nil (d e : Dt) : setAt d [] e = e := by cases d <;> rfl
def spPartAt (K : PySem.W.Frag) : Sp := fun vs H Q _ => ∃ (B : Hp) (x : V) (d : Dt) (m : Nat) (ra : Addr) (r : List Nat), vs = [x, .ref ra] ∧ Same B H ∧ Dq K B m x d ∧ H ra = some (.lst (natsV r)) ∧ Valid d r ∧ r.length ≤ 1000 ∧ ∀ v, Dq K B (m - r.length) v (partD d r) → Q v H
theorem ok_partat {f : Addr} {fd : FuncData} {k : Nat} (F : Fun K "_law_part_at" "_law_part_at" s_law_part_at f fd) : FnOk P w K mg base CX0 (k + 1) f fd ["_law_item", "_law_road"] (spPartAt K) := by
  refine F.ok scPartAt (fun vs H Q E h => ?_) (fun cdv A outer s H vs Q E hr h => ?_)
  · obtain ⟨B, x, d, m, ra, r, rfl, _⟩ := h
    rfl
  obtain ⟨B, x, d, m, ra, r, rfl, sB, hx, hra, hv, l, q⟩ := h
  have nd := scPartAt.nd
  refine ⟨_, (pss_cons (ps_for PassesOwn.never rfl (pi_list (pv 1)) (pg_name (i := 2) nd rfl (.inl rfl))
      (pss_one (ps_set (i := 0) nd rfl (.inl rfl) (pe_ix ix_tup (pv 0) (pv 2) (fun _ _ => rfl)))))
    (pss_one (ps_ret (pv 0)))), ?_⟩
  refine ⟨_, rfl, ra, rfl, ⟨_, SqL.of hra⟩, for_list (xs := natsV r) (fun i σ H3 => H3 = H ∧ ∃ v y d', σ = [some v, some (.ref ra), y] ∧ Dq K B (m - i) v d' ∧ Valid d' (r.drop i) ∧ partD d' (r.drop i) = partD d r) ⟨rfl, x, _, d, rfl, hx, hv, rfl⟩ (fun i σ H3 _ hP => ?_) (fun i y σ H3 hy hP => ?_) (fun σ H3 hP => ?_)⟩
  · obtain ⟨rfl, _⟩ := hP
    exact SqL.of hra
  · obtain ⟨rfl, v, y0, d', rfl, hd, hv', e⟩ := hP
    rw [List.getElem?_map] at hy
    obtain ⟨j, hj, rfl⟩ := Option.map_eq_some_iff.mp hy
    rw [drop_next hj] at hv' e
    obtain ⟨ds, rfl⟩ : ∃ ds, d' = .tuple ds := by
      cases d' with
      | tuple ds => exact ⟨ds, rfl⟩
      | _ => exact False.elim hv'
    obtain ⟨e1, he1, hv2⟩ := hv'
    obtain ⟨a, xs, rfl, ha, hall, _⟩ := dq_tup0 hd
    obtain ⟨v1, hv1, hd1⟩ := dqAll_getD hall he1
    refine ⟨_, rfl, _, rfl, a, _, j, _, rfl, rfl, same_tup sB ha, atI_nat hv1, rfl, v1, _, e1, rfl, by rw [Nat.sub_sub] at hd1; exact hd1, hv2, ?_⟩
    rw [← e]
    show _ = (match ds[j]? with | some e => partD e (r.drop (i + 1)) | none => .none)
    rw [he1]
  · obtain ⟨rfl, v, y0, d', rfl, hd, hv', e⟩ := hP
    have e0 : r.drop (natsV r).length = [] := List.drop_eq_nil_of_le (by simp)
    rw [e0] at e
    rw [part_nil] at e
    rw [e, List.length_map] at hd
    exact ⟨_, rfl, q v hd⟩
def spChAt (K : PySem.W.Frag) (n : Nat) : Sp := fun vs H Q _ => ∃ (p : Addr) (us : List V) (x y : V) (d e : Dt) (m : Nat) (ra : Addr) (r : List Nat), vs = [x, .ref ra, y] ∧ H p = some (.lst us) ∧ Dq K (off p H) m x d ∧ H ra = some (.lst (natsV r)) ∧ Valid d r ∧ r.length ≤ n ∧ r.length ≤ 1000 ∧ Dq K (off p H) (m - r.length) y e ∧ d.bulk ≤ 500000 ∧
  ∀ H' u, Same H H' → Dq K (off p H') m u (setAt d r e) → Q u H'
theorem nats_shaped {r : List Nat} (l : r.length ≤ 1000) : SeqAt.shaped (.list (r.map fun i : Nat => PyData.int i)) = true := by
  refine (TK.lst fun d hd => ?_).shaped ?_
  · obtain ⟨i, _, rfl⟩ := List.mem_map.mp hd
    exact .int _
  · refine Nat.le_trans (G4.depth_list (k := 0) fun x hx => ?_) (by decide)
    obtain ⟨i, _, rfl⟩ := List.mem_map.mp hx
    simp [PyData.depth]
theorem nats_dp {K : PySem.W.Frag} {H : Hp} : ∀ r : List Nat, DpAll K H (natsV r) (r.map fun i : Nat => PyData.int i)
  | [] => .nil
  | _ :: r => .cons (.int _) (nats_dp r)
theorem nats_eqv (r : List Nat) : PyData.eqv (.list (r.map fun i : Nat => PyData.int i)) (.list []) = decide (r = []) := by
  cases r with
  | nil => rfl
  | cons a b => simp [PyData.eqv, PyData.eqvAll]
set_option maxHeartbeats 16000000 in
theorem ok_chat {f : Addr} {fd : FuncData} (F : Fun K "_law_changed_at" "_law_changed_at" s_law_changed_at f fd) (R : Rec P w K mg base "_law_changed_at" ["_law_item", "_law_road", "_law_new"] f fd) : ∀ n : Nat, FnOk P w K mg base CX0 (n + 1) f fd ["_law_item", "_law_road", "_law_new"] (spChAt K n) := by
  intro n
  induction n with
  | zero =>
    refine F.ok scChAt (fun vs H Q E h => ?_) (fun cdv A outer s H vs Q E hr h => ?_)
    · obtain ⟨p, us, x, y, d, e, m, ra, r, rfl, _⟩ := h
      rfl
    obtain ⟨p, us, x, y, d, e, m, ra, r, rfl, hpp, hx, hra, hv, l0, l1, hy, blk, q⟩ := h
    have nd := scChAt.nd
    have er : r = [] := List.eq_nil_of_length_eq_zero (Nat.le_zero.mp l0)
    subst er
    refine ⟨_, (pss_cons (ps_if (pt_cmpR (op_eqD hr.units) (pv 1) (pe_lst pa_nil) (nomark _)) (pss_one (ps_ret (pv 2))) pss_nil) (pss_cons ps_dead (pss_one ps_dead))), ?_⟩
    refine ⟨_, rfl, Nat.zero_le _, fun u nu => ?_⟩
    have s1 : Same H (upd H u (.lst [])) := same_new nu
    refine ⟨_, _, .lst (SqL.of (s1 _ _ hra)) (nats_dp []), .lst (SqL.of upd_same) .nil, nats_shaped l1, nilL_shaped, _, rfl, ?_⟩
    rw [nats_eqv, decide_eq_true rfl]
    refine iteT ⟨_, rfl, q _ _ s1 ?_⟩
    rw [set_nil]
    exact dq_same (off_mono s1) _ _ hy
  | succ n ih =>
    have DC : Def P w K mg base CX0 (n + 1) "_law_changed_at" ["_law_item", "_law_road", "_law_new"] (spChAt K n) := ⟨f, fd, ih, R.g, R.kp, R.b⟩
    refine F.ok scChAt (fun vs H Q E h => ?_) (fun cdv A outer s H vs Q E hr h => ?_)
    · obtain ⟨p, us, x, y, d, e, m, ra, r, rfl, _⟩ := h
      rfl
    obtain ⟨p, us, x, y, d, e, m, ra, r, rfl, hpp, hx, hra, hv, l0, l1, hy, blk, q⟩ := h
    have nd := scChAt.nd
    refine ⟨_, (pss_cons (ps_if (pt_cmpR (op_eqD hr.units) (pv 1) (pe_lst pa_nil) (nomark _)) (pss_one (ps_ret (pv 2))) pss_nil)
    (pss_cons (ps_set (i := 3) nd rfl (.inl rfl) (pe_ix ix_list (pv 1) pe_int (fun _ _ => rfl)))
    (pss_one (ps_ret (pe_op op_catP (pe_op op_catP (pe_slice sl_tupP (pv 0) po_none (po_some (pv 3))) (pe_tupP (pa_cons (pe_call DC.ok hr (by rfl) DC.g DC.kp DC.b .nil pass0 (pa_cons (pe_ix ix_tup (pv 0) (pv 3) (fun _ _ => rfl)) (pa_cons (pe_slice sl_list (pv 1) (po_some pe_int) po_none) (pa_cons (pv 2) pa_nil)))) pa_nil))) (pe_slice sl_tupP (pv 0) (po_some (pe_op op_add (pv 3) pe_int)) po_none)))))), ?_⟩
    refine ⟨_, rfl, Nat.zero_le _, fun u nu => ?_⟩
    have s1 : Same H (upd H u (.lst [])) := same_new nu
    refine ⟨_, _, .lst (SqL.of (s1 _ _ hra)) (nats_dp r), .lst (SqL.of upd_same) .nil, nats_shaped l1, nilL_shaped, _, rfl, ?_⟩
    rw [nats_eqv]
    cases r with
    | nil =>
      rw [decide_eq_true rfl]
      refine iteT ⟨_, rfl, q _ _ s1 ?_⟩
      rw [set_nil]
      exact dq_same (off_mono s1) _ _ hy
    | cons i r =>
    rw [decide_eq_false (fun z => by cases z)]
    generalize upd H u (.lst []) = G at s1 ⊢
    have hra1 := s1 _ _ hra
    refine iteF ⟨_, rfl, ra, _, 0, .int i, rfl, rfl, SqL.of hra1, atI_nat (j := 0) rfl, ?_⟩
    obtain ⟨ds, rfl⟩ : ∃ ds, d = .tuple ds := by
      cases d with
      | tuple ds => exact ⟨ds, rfl⟩
      | _ => exact False.elim hv
    obtain ⟨e1, he1, hv2⟩ := hv
    obtain ⟨a, xs, rfl, ha, hall, hxl⟩ := dq_tup0 hx
    obtain ⟨v1, hv1, hd1⟩ := dqAll_getD hall he1
    have il := (List.getElem?_eq_some_iff.mp he1).1
    have big : ds.length ≤ 500000 := Nat.le_trans (len_bulk (ds := ds)) blk
    refine ⟨_, rfl, _, rfl, _, rfl, ?_⟩
    have ha := same_tup off_sub ha
    refine sl_anyP (same_tup s1 ha) fun c1 G1 hc1 t1 => ?_
    have s2 := s1.trans t1
    refine ⟨_, rfl, _, rfl, a, _, i, v1, rfl, rfl, same_tup s2 ha, atI_nat hv1, _, rfl, 1, rfl, ra, _, rfl, SqL.of (s2 _ _ hra), fun r1 nr1 => ?_⟩
    have t2 : Same G1 (upd G1 r1 (.lst (cutV (natsV (i :: r)) (some 1) none))) := same_new nr1
    have hr1 : (upd G1 r1 (.lst (cutV (natsV (i :: r)) (some 1) none))) r1 = some (.lst (natsV r)) := by
      rw [upd_same]
      congr 2
      exact cut_drop (xs := natsV (i :: r)) 1
    have s3 := s2.trans t2
    generalize upd G1 r1 (.lst (cutV (natsV (i :: r)) (some 1) none)) = G2 at t2 hr1 s3 ⊢
    rw [List.length_cons] at l0 l1 hy
    refine ⟨_, rfl, p, us, v1, y, e1, e, m - 1, r1, r, rfl, s3 _ _ hpp, dq_same (off_mono s3) _ _ hd1, hr1, hv2, by omega, by omega, by rw [Nat.sub_sub, Nat.add_comm 1]; exact dq_same (off_mono s3) _ _ hy, Nat.le_trans (mem_bulk (List.mem_of_getElem? he1)) blk, fun G3' u2 t3 hu2 => ?_⟩
    refine ⟨lz1, fun t4 o4 nt4 no4 => ?_⟩
    have t4' : Same G3' (upd G3' t4 (.frz o4 (.tup [u2]))) := same_new nt4
    have h4 : PAt (upd G3' t4 (.frz o4 (.tup [u2]))) t4 [u2] := ⟨o4, upd_same, no4⟩
    have s4 := (s3.trans t3).trans t4'
    have c14 := (t2.trans t3).trans t4'
    have hu4 := dq_same (off_mono t4') _ _ hu2
    generalize upd G3' t4 (.frz o4 (.tup [u2])) = G4' at h4 s4 c14 hu4 ⊢
    have cutA : cutV xs none (some ((i : Nat) : Int)) = xs.take i := cut_take i
    rw [cutA] at hc1
    refine cat_left (same_tup c14 hc1) h4 (by simp) (by rw [List.length_take]; simp; omega) fun c5 G5 h5 t5 => ?_
    have s5 := s4.trans t5
    refine ⟨_, rfl, _, rfl, _, _, rfl, rfl, _, rfl, ?_⟩
    dsimp only [tNoPart]
    refine sl_anyP (same_tup s5 ha) fun c6 G6 hc6 t6 => ?_
    have cutB : cutV xs (some ((i : Nat) + 1 : Int)) none = xs.drop (i + 1) := by
      have := cut_drop (xs := xs) (i + 1)
      rw [Int.natCast_add] at this
      exact this
    rw [cutB] at hc6
    have s6 := s5.trans t6
    refine cat_right (h5.same t6) hc6 (by simp) (by rw [List.length_append, List.length_take, List.length_drop]; simp; omega) fun c7 G7 h7 t7 => ?_
    have s7 := s6.trans t7
    refine q _ _ s7 ?_
    have eS : setAt (.tuple ds) (i :: r) e = .tuple (ds.take i ++ [setAt e1 r e] ++ ds.drop (i + 1)) := by
      show PyData.tuple (ds.take i ++ [setAt ((ds[i]?).getD .none) r e] ++ ds.drop (i + 1)) = _
      rw [he1]
      rfl
    rw [eS]
    refine dq_mk (pat_hide (s7 _ _ hpp) h7) ?_
    have al7 := dqAll_same (off_mono (p := p) s7) _ _ hall
    exact dqAll_app (dqAll_app (dqAll_take i al7) (.cons (dq_same (off_mono ((t5.trans t6).trans t7)) _ _ hu4) (.nil _))) (dqAll_drop (i + 1) al7)
end
end PP

set_option maxHeartbeats 4000000
/-! data written down, seen through a view of the heap -/
namespace LT
open PySem PySem.Spec PyProof.Rows L2 G3 M0 PT
/-- a view: what is new is seen -/
structure View (W : Hp → Hp) (S : L2.St → Hp → Prop) : Prop where
  seen : ∀ σ H t o, S σ H → H t = none → W (upd H t o) t = some o
  more : ∀ σ H t o, S σ H → H t = none → Same (W H) (W (upd H t o))
  keep : ∀ σ H t o, S σ H → H t = none → S σ (upd H t o)
def tDt (K : PySem.W.Frag) (W : Hp → Hp) (S : L2.St → Hp → Prop) (d : PyData) : TE := fun σ H Q => S σ H ∧ ∀ v H', S σ H' → Same (W H) (W H') → Same H H' → (∀ n, Dq K (W H') n v d) → Q v H'
def tDts (K : PySem.W.Frag) (W : Hp → Hp) (S : L2.St → Hp → Prop) (ds : List PyData) : TA := fun σ H Q => S σ H ∧ ∀ vs H', S σ H' → Same (W H) (W H') → Same H H' → (∀ n, DqAll K (W H') n vs ds) → Q vs H'
section
variable {X : Cx} {W : Hp → Hp} {S : L2.St → Hp → Prop} {e : Expr} {es : List Expr} {d : PyData} {ds : List PyData}
theorem pe_weak {t t' : TE} (he : PE X e t) (h : ∀ σ H Q, t' σ H Q → t σ H Q) : PE X e t' := ⟨fun pins s σ H Q I hyp => he.run pins s σ H Q I (h σ H Q hyp)⟩
theorem pa_weak {t t' : TA} (he : PA X es t) (h : ∀ σ H Q, t' σ H Q → t σ H Q) : PA X es t' := ⟨fun pos pins s σ H Q I hyp => he.run pos pins s σ H Q I (h σ H Q hyp)⟩
theorem dt_int {i : Int} {j : Bool} {pos : Pos} : True := trivial
theorem dt_leaf {v : V} (he : PE X e (tC v)) (hd : ∀ n H, Dq X.K H n v d) : PE X e (tDt X.K W S d) := pe_weak he fun σ H Q ⟨s, q⟩ => q v H s (Same.refl _) (Same.refl _) fun n => hd n _
theorem dt_neg {i : Int} {pos : Pos} (he : PE X e (tC (.int i))) : PE X (.UnaryOp .USub e pos) (tDt X.K W S (.int (-i))) := pe_weak (pe_un un_neg he) fun σ H Q ⟨s, q⟩ => ⟨i, rfl, q _ H s (Same.refl _) (Same.refl _) fun n => .int n _⟩
theorem dt_var {i : Nat} (he : PE X e (tVar i)) (h : ∀ σ H, S σ H → ∃ v, σ[i]? = some (some v) ∧ ∀ n, Dq X.K (W H) n v d) : PE X e (tDt X.K W S d) := pe_weak he fun σ H Q ⟨s, q⟩ => let ⟨v, ev, hd⟩ := h σ H s; ⟨v, ev, q v H s (Same.refl _) (Same.refl _) hd⟩
theorem dts_nil : PA X [] (tDts X.K W S []) := pa_weak pa_nil fun σ H Q ⟨s, q⟩ => q [] H s (Same.refl _) (Same.refl _) fun n => .nil n
theorem dts_cons (ha : PE X e (tDt X.K W S d)) (hr : PA X es (tDts X.K W S ds)) (hs : starEach (e :: es) X.env = (false, eval e X.env) :: starEach es X.env := by rfl) : PA X (e :: es) (tDts X.K W S (d :: ds)) :=
  pa_weak (pa_cons ha hr hs) fun σ H Q ⟨s, q⟩ => ⟨s, fun v H1 s1 w1 e1 h1 => ⟨s1, fun vs H2 s2 w2 e2 h2 => q (v :: vs) H2 s2 (w1.trans w2) (e1.trans e2) fun n => .cons (dq_same w2 _ _ (h1 n)) (h2 n)⟩⟩
theorem dq_every {K : PySem.W.Frag} {H : Hp} {a : Addr} {xs : List V} (h : PAt H a xs) (t : ∀ n, DqAll K H n xs ds) : ∀ n, Dq K H n (.ref a) (.tuple ds) := fun n => by
  cases n with
  | zero => exact .any (.tup h.sq (dqAll_dp _ _ (t 0)))
  | succ n => exact .tup h (t n)
theorem dq_everyL {K : PySem.W.Frag} {H : Hp} {a : Addr} {xs : List V} (h : SqL K H a xs) (t : ∀ n, DqAll K H n xs ds) : ∀ n, Dq K H n (.ref a) (.list ds) := fun n => by
  cases n with
  | zero => exact .any (.lst h (dqAll_dp _ _ (t 0)))
  | succ n => exact .lst h (t n)
theorem dt_tup {k : Nat} {pos : Pos} (vw : View W S) (h : PA X es (tDts X.K W S ds)) (l : ds.length ≤ 100000) : PE X (.Tuple es k pos) (tDt X.K W S (.tuple ds)) :=
  pe_weak (pe_tupP h) fun σ H Q ⟨s, q⟩ => ⟨s, fun vs H1 s1 w1 e1 h1 => ⟨by rw [dqAll_len (h1 0)]; exact Nat.le_of_lt (LC.small_line (by omega)), fun p o np no => by
    have w2 := vw.more σ H1 p (.frz o (.tup vs)) s1 np
    exact q _ _ (vw.keep σ H1 p _ s1 np) (w1.trans w2) (e1.trans (same_new np)) (dq_every ⟨o, vw.seen σ H1 p _ s1 np, no⟩ fun n => dqAll_same w2 _ _ (h1 n))⟩⟩
theorem dt_lst {pos : Pos} (vw : View W S) (h : PA X es (tDts X.K W S ds)) (l : ds.length ≤ 100000) : PE X (.List es pos) (tDt X.K W S (.list ds)) :=
  pe_weak (pe_lst h) fun σ H Q ⟨s, q⟩ => ⟨s, fun vs H1 s1 w1 e1 h1 => ⟨by rw [dqAll_len (h1 0)]; exact Nat.le_of_lt (LC.small_line (by omega)), fun p np => by
    have w2 := vw.more σ H1 p (.lst vs) s1 np
    exact q _ _ (vw.keep σ H1 p _ s1 np) (w1.trans w2) (e1.trans (same_new np)) (dq_everyL (SqL.of (vw.seen σ H1 p _ s1 np)) fun n => dqAll_same w2 _ _ (h1 n))⟩⟩
end
end LT

set_option maxHeartbeats 4000000
namespace PP
open PySem PySem.Spec PyProof.Rows L2 G3 G4 M0 PA EE
/-- a drawn program: its names, and how long it is -/
structure Short (p : Prog) : Prop where
  few : p.1.length ≤ 2
  box : ∀ b ∈ p.1, b.1 = ("s" : Str) ∨ b.1 = ("t" : Str)
  hands : p.2.length ≤ 3
  nm : ∀ h ∈ p.2, h.1 ∈ wHands
  own : ∀ h ∈ p.2, h.2.1 = [] ∨ h.2.1 = ([("x", 2)] : List Box)
  txt : ∀ h ∈ p.2, ∀ t ∈ h.2.2, t.1 ∈ wTexts ∧ t.2.length ≤ 4
theorem Known.short {p : Prog} (k : Known p) (h : p.2.length ≤ 3) : Short p := ⟨k.few, k.box, h, k.nm, k.own, k.txt⟩
/-! programs asked about are shown -/
theorem size_inN {bs : List Box} {b : Str} {n : Int} (h : size? bs b = some n) : ∃ x ∈ bs, x.1 = b := by
  unfold size? at h
  obtain ⟨x, hx, _⟩ := Option.map_eq_some_iff.mp h
  have e := List.find?_some hx
  exact ⟨x, List.mem_of_find?_eq_some hx, of_decide_eq_true e⟩
/-- nice, and how large -/
structure NB (m : Nat) (d : PyData) : Prop where
  nc : nice d = true
  bk : d.bulk ≤ m
theorem NB.up {m n : Nat} {d : PyData} (h : NB m d) (a : m ≤ n) : NB n d := ⟨h.nc, Nat.le_trans h.bk a⟩
theorem NB.tup {m n : Nat} {ds : List PyData} (h : ∀ d ∈ ds, NB m d) (hn : ds.length ≤ n) : NB ((m + 1) * n) (.tuple ds) := ⟨nice_tuple fun x hx => (h x hx).nc, bulk_tuple (fun x hx => (h x hx).bk) hn⟩
theorem NB.lst {m n : Nat} {ds : List PyData} (h : ∀ d ∈ ds, NB m d) (hn : ds.length ≤ n) : NB ((m + 1) * n) (.list ds) := ⟨nice_list fun x hx => (h x hx).nc, bulk_list (fun x hx => (h x hx).bk) hn⟩
theorem nb_int {i : Int} (h : -100 ≤ i) (h2 : i < 100) : NB 5 (.int i) := ⟨nice_int h h2, by simp only [PyData.bulk]; decide⟩
theorem nb_str {z : Str} (h : (nice (.str z) && decide ((PyData.str z).bulk ≤ 5)) = true) : NB 5 (.str z) := by
  rw [Bool.and_eq_true, decide_eq_true_eq] at h
  exact ⟨h.1, h.2⟩
theorem words_nice : ([("set" : Str), "to", "of", "on", "any", "if", "go", "call", "back", "wait", "begin", "fault", "told", "hand", "point", "s", "t", "x", "main", "sub", "ha", "hb", "hc", "hz"].all fun z => nice (.str z) && decide ((PyData.str z).bulk ≤ 5)) = true := by decide +kernel
theorem word_nice {z : Str} (h : z ∈ [("set" : Str), "to", "of", "on", "any", "if", "go", "call", "back", "wait", "begin", "fault", "told", "hand", "point", "s", "t", "x", "main", "sub", "ha", "hb", "hc", "hz"]) : NB 5 (.str z) := nb_str (List.all_eq_true.mp words_nice z h)
theorem mem2 {ds : List PyData} {a b : PyData} {m : Nat} (e : ds = [a, b]) (ha : NB m a) (hb : NB m b) : ∀ d ∈ ds, NB m d := fun d hd => by
  rw [e] at hd
  rcases List.mem_cons.mp hd with rfl | hd
  · exact ha
  · rw [List.mem_singleton.mp hd]
    exact hb
theorem nb1 {m : Nat} {a : PyData} (ha : NB m a) : ∀ d ∈ [a], NB m d := fun d hd => by
  rw [List.mem_singleton.mp hd]
  exact ha
theorem nb2 {m : Nat} {a b : PyData} (ha : NB m a) (hb : NB m b) : ∀ d ∈ [a, b], NB m d := mem2 rfl ha hb
theorem nb3 {m : Nat} {a b c : PyData} (ha : NB m a) (hb : NB m b) (hc : NB m c) : ∀ d ∈ [a, b, c], NB m d := fun d hd => by
  rcases List.mem_cons.mp hd with rfl | hd
  · exact ha
  · exact nb2 hb hc d hd
theorem nb4 {m : Nat} {a b c e : PyData} (ha : NB m a) (hb : NB m b) (hc : NB m c) (he : NB m e) : ∀ d ∈ [a, b, c, e], NB m d := fun d hd => by
  rcases List.mem_cons.mp hd with rfl | hd
  · exact ha
  · exact nb3 hb hc he d hd
theorem size_le {bs : List Box} {b : Str} {n : Int} (h : size? bs b = some n) (hb : ∀ x ∈ bs, x.2 ≤ 8) : n ≤ 8 := by
  unfold size? at h
  obtain ⟨x, hx, e⟩ := Option.map_eq_some_iff.mp h
  rw [← e]
  exact hb x (List.mem_of_find?_eq_some hx)
theorem row_nice {bs : List Box} {ts os : List Str} {n : Int} {r : PA.Row} (ok : RowOk bs ts os n r) (n4 : n ≤ 4) (hb : ∀ x ∈ bs, NB 5 (.str x.1) ∧ x.2 ≤ 8) (ht : ∀ x ∈ ts, NB 5 (.str x)) (ho : ∀ x ∈ os, NB 5 (.str x)) : NB 100 r.data := by
  have nm : ∀ {b : Str} {n : Int}, size? bs b = some n → NB 5 (.str b) := fun h => by
    obtain ⟨x, hx, rfl⟩ := size_inN h
    exact (hb x hx).1
  have sz : ∀ {b : Str} {n : Int}, size? bs b = some n → n ≤ 8 := fun h => size_le h fun x hx => (hb x hx).2
  have w : ∀ z ∈ [("set" : Str), "to", "of", "on", "any", "if", "go", "call", "back", "wait", "begin", "fault", "told", "hand", "point", "s", "t", "x", "main", "sub", "ha", "hb", "hc", "hz"], NB 5 (.str z) := fun z h => word_nice h
  simp only [List.forall_mem_cons] at w
  obtain ⟨wset, wto, wof, won, wany, wif, wgo, wcall, wback, wwait, wbegin, wfault, _⟩ := w
  cases r with
  | set b s =>
    obtain ⟨n, hn, hs⟩ := ok
    have h8 := sz hn
    have src : NB 16 s.data := by
      cases s with
      | to k =>
        obtain ⟨a1, a2⟩ := hs
        exact (NB.tup (n := 2) (nb2 wto (nb_int (by omega) (by omega))) (Nat.le_refl _)).up (by decide)
      | of o =>
        obtain ⟨_, m, hm, _⟩ := hs
        exact (NB.tup (n := 2) (nb2 wof (nm hm)) (Nat.le_refl _)).up (by decide)
      | on k =>
        obtain ⟨a1, a2⟩ := hs
        exact (NB.tup (n := 2) (nb2 won (nb_int (by omega) (by omega))) (Nat.le_refl _)).up (by decide)
      | any => exact (NB.tup (n := 1) (nb1 wany) (Nat.le_refl _)).up (by decide)
    exact (NB.tup (n := 3) (nb3 (wset.up (by decide)) ((nm hn).up (by decide)) src) (Nat.le_refl _)).up (by decide)
  | ift b v r =>
    obtain ⟨n, hn, a1, a2, a3, a4⟩ := ok
    have h8 := sz hn
    exact (NB.tup (n := 4) (nb4 wif (nm hn) (nb_int (by omega) (by omega)) (nb_int (by omega) (by omega))) (Nat.le_refl _)).up (by decide)
  | go rs =>
    obtain ⟨_, l4, ri, le⟩ := ok
    have low : ∀ (rs : List Int) (a : Int), -1 ≤ a → Rising a rs → ∀ x ∈ rs, 0 ≤ x := by
      intro rs
      induction rs with
      | nil => intro a _ _ x hx; cases hx
      | cons y ys ih =>
        rintro a ha ⟨h1, h2⟩ x hx
        rcases List.mem_cons.mp hx with rfl | hx
        · omega
        · exact ih y (by omega) h2 x hx
    have all : NB ((5 + 1) * 4) (.tuple (rs.map PyData.int)) := NB.tup (fun d hd => by
      obtain ⟨i, hi, rfl⟩ := List.mem_map.mp hd
      have a1 := low rs (-1) (by omega) ri i hi
      have a2 := le i hi
      exact nb_int (by omega) (by omega)) (by rw [List.length_map]; exact l4)
    exact (NB.tup (n := 2) (nb2 (wgo.up (by decide)) all) (Nat.le_refl _)).up (by decide)
  | call t => exact (NB.tup (n := 2) (nb2 wcall (ht t ok)) (Nat.le_refl _)).up (by decide)
  | back => exact (NB.tup (n := 1) (nb1 wback) (Nat.le_refl _)).up (by decide)
  | wait b v =>
    obtain ⟨n, hn, a1, a2⟩ := ok
    have h8 := sz hn
    exact (NB.tup (n := 3) (nb3 wwait (nm hn) (nb_int (by omega) (by omega))) (Nat.le_refl _)).up (by decide)
  | begin b => exact (NB.tup (n := 2) (nb2 wbegin (ho b ok)) (Nat.le_refl _)).up (by decide)
  | fault => exact (NB.tup (n := 1) (nb1 wfault) (Nat.le_refl _)).up (by decide)
theorem hands_nice {z : Str} (h : z ∈ wHands) : NB 5 (.str z) := by
  simp only [wHands, List.mem_cons, List.not_mem_nil, or_false] at h
  rcases h with rfl | rfl | rfl <;> exact word_nice (by simp)
theorem titles_nice {z : Str} (h : z ∈ wTexts) : NB 5 (.str z) := by
  simp only [wTexts, List.mem_cons, List.not_mem_nil, or_false] at h
  rcases h with rfl | rfl <;> exact word_nice (by simp)
theorem Short.boxes {p : Prog} (ok : ProgOk p) (sh : Short p) {h : Hand} (hh : h ∈ p.2) : ∀ x ∈ p.1 ++ h.2.1, NB 5 (.str x.1) ∧ 1 ≤ x.2 ∧ x.2 ≤ 8 := fun x hx => by
  rcases List.mem_append.mp hx with z | z
  · obtain ⟨_, a1, a2, _⟩ := ok.box.nm x z
    refine ⟨?_, a1, by omega⟩
    rcases sh.box x z with e | e <;> rw [e] <;> exact word_nice (by simp)
  · obtain ⟨_, a1, a2, _⟩ := (ok.own h hh).nm x z
    refine ⟨?_, a1, a2⟩
    rcases sh.own h hh with e | e
    · rw [e] at z
      cases z
    · rw [e] at z
      rw [List.mem_singleton.mp z]
      exact word_nice (by simp)
theorem Short.row {p : Prog} (ok : ProgOk p) (sh : Short p) {h : Hand} (hh : h ∈ p.2) {t : PA.Text} (ht : t ∈ h.2.2) {r : PA.Row} (hr : r ∈ t.2) : NB 100 r.data :=
  row_nice ((ok.txt h hh).row t ht r hr) (by have := (sh.txt h hh t ht).2; omega) (fun x hx => ⟨(sh.boxes ok hh x hx).1, (sh.boxes ok hh x hx).2.2⟩) (fun x hx => by
    obtain ⟨g, hg, rfl⟩ := List.mem_map.mp hx
    exact titles_nice (sh.txt h hh g hg).1) fun x hx => by
    obtain ⟨g, hg, rfl⟩ := List.mem_map.mp (List.mem_filter.mp hx).1
    exact hands_nice (sh.nm g hg)
theorem boxes_nb {bs : List Box} {m : Nat} (h : ∀ x ∈ bs, NB 5 (.str x.1) ∧ 1 ≤ x.2 ∧ x.2 ≤ 8) (l : bs.length ≤ m) : NB (13 * m) (boxesD bs) := NB.tup (fun d hd => by
  obtain ⟨x, hx, rfl⟩ := List.mem_map.mp hd
  obtain ⟨a, b, c⟩ := h x hx
  exact (NB.tup (n := 2) (nb2 a (nb_int (by omega) (by omega))) (Nat.le_refl _)).up (by decide)) (by rw [List.length_map]; exact l)
theorem two_names {a b : Str} {l : List Str} (nd : l.Nodup) (h : ∀ x ∈ l, x = a ∨ x = b) : l.length ≤ 2 := by
  match l, nd, h with
  | [], _, _ => exact Nat.zero_le _
  | [_], _, _ => exact (by decide : 1 ≤ 2)
  | [_, _], _, _ => exact Nat.le_refl _
  | x :: y :: z :: r, nd, h =>
    exfalso
    have hx := h x (by simp)
    have hy := h y (by simp)
    have hz := h z (by simp)
    have n1 := (List.nodup_cons.mp nd).1
    have n2 := (List.nodup_cons.mp (List.nodup_cons.mp nd).2).1
    have xy : x ≠ y := fun e => n1 (by rw [e]; exact List.mem_cons_self)
    have xz : x ≠ z := fun e => n1 (by rw [e]; simp)
    have yz : y ≠ z := fun e => n2 (by rw [e]; simp)
    rcases hx with rfl | rfl <;> rcases hy with rfl | rfl <;> rcases hz with rfl | rfl <;> simp_all
theorem Short.nice {p : Prog} (ok : ProgOk p) (sh : Short p) : NB 30000 (progD p) := by
  have hbx : NB 26 (boxesD p.1) := by
    obtain ⟨h, hh⟩ : ∃ h, h ∈ p.2 := by
      have := ok.one
      exact ⟨p.2[0]'(by omega), List.getElem_mem _⟩
    exact boxes_nb (m := 2) (fun x hx => sh.boxes ok hh x (List.mem_append_left _ hx)) sh.few
  have hand : ∀ h ∈ p.2, NB 4869 (handD h) := fun h hh => by
    have h1 : NB 13 (boxesD h.2.1) := boxes_nb (m := 1) (fun x hx => sh.boxes ok hh x (List.mem_append_right _ hx)) (by rcases sh.own h hh with e | e <;> rw [e] <;> decide)
    have t2 : h.2.2.length ≤ 2 := by
      have := two_names (a := "main") (b := "sub") (ok.txt h hh).nd fun x hx => by
        obtain ⟨t, ht, rfl⟩ := List.mem_map.mp hx
        have := (sh.txt h hh t ht).1
        unfold wTexts at this
        simpa using this
      rwa [List.length_map] at this
    have h2 : NB 1622 (.tuple (h.2.2.map textD)) := by
      refine NB.tup (m := 810) (n := 2) (fun d hd => ?_) (by rw [List.length_map]; exact t2)
      obtain ⟨t, ht, rfl⟩ := List.mem_map.mp hd
      obtain ⟨w1, w2⟩ := sh.txt h hh t ht
      have rows : NB ((100 + 1) * 4) (rowsD t.2) := NB.tup (fun d hd => by
        obtain ⟨r, hr, rfl⟩ := List.mem_map.mp hd
        exact sh.row ok hh ht hr) (by rw [List.length_map]; exact w2)
      exact (NB.tup (n := 2) (nb2 ((titles_nice w1).up (by decide)) (rows.up (by decide : _ ≤ 404))) (Nat.le_refl _)).up (by decide)
    exact (NB.tup (n := 3) (nb3 ((hands_nice (sh.nm h hh)).up (by decide)) (h1.up (by decide)) h2) (Nat.le_refl _)).up (by decide)
  have hands : NB 14610 (.tuple (p.2.map handD)) := (NB.tup (fun d hd => by
    obtain ⟨h, hh, rfl⟩ := List.mem_map.mp hd
    exact hand h hh) (by rw [List.length_map]; exact sh.hands)).up (by decide)
  exact (NB.tup (n := 2) (nb2 (hbx.up (by decide)) hands) (Nat.le_refl _)).up (by decide)
theorem src_depth (s : Src) : s.data.depth ≤ 1 := by
  cases s <;> simp [Src.data, PyData.depth, PyData.depthAll]
theorem row_depth (r : PA.Row) : r.data.depth ≤ 2 := by
  cases r with
  | set b s =>
    have := src_depth s
    simp only [PA.Row.data, PyData.depth, PyData.depthAll]
    omega
  | go rs =>
    have h : (PyData.tuple (rs.map PyData.int)).depth ≤ 1 := depth_tuple (k := 0) fun d hd => by
      obtain ⟨i, _, rfl⟩ := List.mem_map.mp hd
      simp [PyData.depth]
    simp only [PA.Row.data, PyData.depth, PyData.depthAll] at h ⊢
    omega
  | _ => simp [PA.Row.data, PyData.depth, PyData.depthAll]
theorem boxes_depth (bs : List Box) : (boxesD bs).depth ≤ 2 := depth_tuple (k := 1) fun d hd => by
  obtain ⟨b, _, rfl⟩ := List.mem_map.mp hd
  simp [boxD, PyData.depth, PyData.depthAll]
theorem mem_map_le {α : Type} {f : α → PyData} {k : Nat} {xs : List α} (h : ∀ x, (f x).depth ≤ k) : ∀ d ∈ xs.map f, d.depth ≤ k := fun d hd => by
  obtain ⟨x, _, rfl⟩ := List.mem_map.mp hd
  exact h x
theorem text_depth (t : PA.Text) : (textD t).depth ≤ 4 := by
  have h : (rowsD t.2).depth ≤ 3 := depth_tuple (mem_map_le row_depth)
  refine depth_tuple (k := 3) ?_
  simp only [List.forall_mem_cons]
  exact ⟨by simp [PyData.depth], h, fun _ z => nomatch z⟩
theorem hand_depth (g : Hand) : (handD g).depth ≤ 6 := by
  have h : (PyData.tuple (g.2.2.map textD)).depth ≤ 5 := depth_tuple (mem_map_le text_depth)
  have h2 := boxes_depth g.2.1
  refine depth_tuple (k := 5) ?_
  simp only [List.forall_mem_cons]
  exact ⟨by simp [PyData.depth], by omega, h, fun _ z => nomatch z⟩
theorem prog_depth (p : Prog) : (progD p).depth ≤ 8 := by
  have h : (PyData.tuple (p.2.map handD)).depth ≤ 7 := depth_tuple (mem_map_le hand_depth)
  have h2 := boxes_depth p.1
  refine depth_tuple (k := 7) ?_
  simp only [List.forall_mem_cons]
  exact ⟨by omega, h, fun _ z => nomatch z⟩
mutual
theorem sl_bulk : ∀ d : PyData, d.canLay0 = true → d.bulk ≤ 1000 → SL d
  | .none, _, _ => .non
  | .bool b, _, _ => .bl b
  | .int i, _, _ => .int i
  | .str z, _, h => .str (by
    have : z.cps.size ≤ 1000 := by simpa only [PyData.bulk] using h
    exact this)
  | .list l, a, h => .lst (slAll_bulk l (by simpa only [PyData.canLay0] using a) (by simpa only [PyData.bulk] using h))
  | .tuple l, a, h => .tup (slAll_bulk l (by simpa only [PyData.canLay0] using a) (by simpa only [PyData.bulk] using h))
  | .dict l, a, _ => by simp only [PyData.canLay0] at a; cases a
theorem slAll_bulk : ∀ l : List PyData, PyData.canLayAll0 l = true → PyData.bulkAll l ≤ 1000 → ∀ d ∈ l, SL d
  | [], _, _ => fun d hd => by cases hd
  | x :: l, a, h => fun d hd => by
    have a2 : x.canLay0 = true ∧ PyData.canLayAll0 l = true := by simpa only [PyData.canLayAll0, Bool.and_eq_true] using a
    simp only [PyData.bulkAll] at h
    rcases List.mem_cons.mp hd with e | hd
    · rw [e]
      exact sl_bulk x a2.1 (by omega)
    · exact slAll_bulk l a2.2 (by omega) d hd
end
theorem NB.sl {m : Nat} {d : PyData} (h : NB m d) (l : m ≤ 1000) : SL d := sl_bulk d (nice_lay h.nc) (Nat.le_trans h.bk l)
theorem sl_cons {d : PyData} {ds : List PyData} (h1 : SL d) (h2 : ∀ e ∈ ds, SL e) : ∀ e ∈ d :: ds, SL e := fun e he => by
  rcases List.mem_cons.mp he with rfl | he
  · exact h1
  · exact h2 e he
theorem Short.sl {p : Prog} (ok : ProgOk p) (sh : Short p) : SL (progD p) := by
  have bx : ∀ bs : List Box, (∀ x ∈ bs, NB 5 (.str x.1)) → SL (boxesD bs) := fun bs h => .tup fun d hd => by
    obtain ⟨x, hx, rfl⟩ := List.mem_map.mp hd
    exact .tup (sl_cons ((h x hx).sl (by decide)) (sl_cons (.int _) (fun _ z => nomatch z)))
  obtain ⟨h0, hh0⟩ : ∃ h, h ∈ p.2 := by
    have := ok.one
    exact ⟨p.2[0]'(by omega), List.getElem_mem _⟩
  refine .tup (sl_cons (bx _ fun x hx => (sh.boxes ok hh0 x (List.mem_append_left _ hx)).1) (sl_cons (.tup fun d hd => ?_) (fun _ z => nomatch z)))
  obtain ⟨h, hh, rfl⟩ := List.mem_map.mp hd
  refine .tup (sl_cons ((hands_nice (sh.nm h hh)).sl (by decide)) (sl_cons (bx _ fun x hx => (sh.boxes ok hh x (List.mem_append_right _ hx)).1) (sl_cons (.tup fun d hd => ?_) (fun _ z => nomatch z))))
  obtain ⟨t, ht, rfl⟩ := List.mem_map.mp hd
  refine .tup (sl_cons ((titles_nice (sh.txt h hh t ht).1).sl (by decide)) (sl_cons (.tup fun d hd => ?_) (fun _ z => nomatch z)))
  obtain ⟨r, hr, rfl⟩ := List.mem_map.mp hd
  exact (sh.row ok hh ht hr).sl (by decide)
end PP

set_option maxHeartbeats 4000000
namespace PP
open PySem PySem.Spec PyProof.Rows L2 G0 G3 G4 G5 M0 PA EE QA LC SX PT EN SA LT
/-! ### what is bent stays small -/
structure It2 (a b : Nat) (d : Dt) : Prop where
  nc : nice d = true
  sl : SL d
  dp : d.depth ≤ a
  bk : d.bulk ≤ b
theorem It2.up {a b a' b' : Nat} {d : Dt} (h : It2 a b d) (l1 : a ≤ a') (l2 : b ≤ b') : It2 a' b' d := ⟨h.nc, h.sl, Nat.le_trans h.dp l1, Nat.le_trans h.bk l2⟩
theorem nice_mem {ds : List Dt} (h : nice (.tuple ds) = true) : ∀ d ∈ ds, nice d = true := by
  have a := nice_show h
  have b := nice_lay h
  have c := nice_short h
  simp only [PyData.showable] at a
  simp only [PyData.canLay0] at b
  simp only [PyData.leavesShort] at c
  clear h
  induction ds with
  | nil => intro d hd; cases hd
  | cons x r ih =>
    simp only [PyData.showableAll, Bool.and_eq_true] at a
    simp only [PyData.canLayAll0, Bool.and_eq_true] at b
    simp only [PyData.leavesShortAll, Bool.and_eq_true] at c
    intro d hd
    rcases List.mem_cons.mp hd with rfl | hd
    · exact nice_mk a.1 b.1 c.1
    · exact ih a.2 b.2 c.2 d hd
theorem It2.mem {a b : Nat} {ds : List Dt} {d : Dt} (h : It2 a b (.tuple ds)) (m : d ∈ ds) : It2 (a - 1) b d := ⟨nice_mem h.nc d m, h.sl.of_tup d m, by have := depth_lt m; have := h.dp; omega, Nat.le_trans (mem_bulk m) h.bk⟩
theorem bulkAll_app : ∀ (a b : List Dt), PyData.bulkAll (a ++ b) = PyData.bulkAll a + PyData.bulkAll b := by
  intro a b
  induction a with
  | nil => simp [PyData.bulkAll]
  | cons x r ih => simp only [List.cons_append, PyData.bulkAll, ih]; omega
theorem depth_tup_le {k : Nat} {ds : List Dt} (h : ∀ d ∈ ds, d.depth + 1 ≤ k) (k1 : 1 ≤ k) : (PyData.tuple ds).depth ≤ k := by
  have := depth_tuple (k := k - 1) (xs := ds) fun d hd => by have := h d hd; omega
  omega
theorem set_it : ∀ (r : List Nat) {a b a' b' : Nat} {d e : Dt}, Valid d r → It2 a b d → It2 a' b' e → It2 (a + a') (b + b') (setAt d r e)
  | [], _, _, _, _, d, e, _, hd, he => by
    rw [set_nil]
    exact he.up (Nat.le_add_left _ _) (Nat.le_add_left _ _)
  | i :: r, a, b, a', b', d, e, hv, hd, he => by
    obtain ⟨ds, rfl⟩ : ∃ ds, d = .tuple ds := by
      cases d with
      | tuple ds => exact ⟨ds, rfl⟩
      | _ => exact False.elim hv
    obtain ⟨e1, he1, hv2⟩ := hv
    have m := List.mem_of_getElem? he1
    have s := set_it r hv2 ((hd.mem m).up (Nat.le_refl _) (Nat.le_refl _)) he
    have eS : setAt (.tuple ds) (i :: r) e = .tuple (ds.take i ++ [setAt e1 r e] ++ ds.drop (i + 1)) := by
      show PyData.tuple (ds.take i ++ [setAt ((ds[i]?).getD .none) r e] ++ ds.drop (i + 1)) = _
      rw [he1]
      rfl
    have mem : ∀ x ∈ ds.take i ++ [setAt e1 r e] ++ ds.drop (i + 1), x ∈ ds ∨ x = setAt e1 r e := fun x hx => by
      rcases List.mem_append.mp hx with hx | hx
      · rcases List.mem_append.mp hx with hx | hx
        · exact .inl (List.mem_of_mem_take hx)
        · exact .inr (List.mem_singleton.mp hx)
      · exact .inl (List.mem_of_mem_drop hx)
    have d1 : 1 ≤ a := Nat.le_trans (by simp only [PyData.depth]; omega) hd.dp
    -- the bulk of what is put there
    have s2 := set_it r (a := e1.depth) (b := e1.bulk) hv2 ⟨(hd.mem m).nc, (hd.mem m).sl, Nat.le_refl _, Nat.le_refl _⟩ he
    rw [eS]
    refine ⟨nice_tuple fun x hx => ?_, .tup fun x hx => ?_, depth_tup_le (fun x hx => ?_) (by omega), ?_⟩
    · rcases mem x hx with h | rfl
      · exact nice_mem hd.nc x h
      · exact s.nc
    · rcases mem x hx with h | rfl
      · exact hd.sl.of_tup x h
      · exact s.sl
    · rcases mem x hx with h | rfl
      · have := depth_lt h
        have := hd.dp
        omega
      · have := s2.dp
        have := depth_lt m
        have := hd.dp
        omega
    · have e2 : ds.drop i = e1 :: ds.drop (i + 1) := drop_next he1
      have e3 : PyData.bulkAll ds = PyData.bulkAll (ds.take i) + PyData.bulkAll (ds.drop i) := by rw [← bulkAll_app, List.take_append_drop]
      have b1 := hd.bk
      have b2 := s2.bk
      simp only [PyData.bulk] at b1 ⊢
      rw [bulkAll_app, bulkAll_app]
      rw [e3, e2] at b1
      simp only [PyData.bulkAll] at b1 ⊢
      omega
theorem part_it : ∀ (r : List Nat) {a b : Nat} {d : Dt}, Valid d r → It2 a b d → It2 a b (partD d r)
  | [], _, _, d, _, hd => by rw [part_nil]; exact hd
  | i :: r, a, b, d, hv, hd => by
    obtain ⟨ds, rfl⟩ : ∃ ds, d = .tuple ds := by
      cases d with
      | tuple ds => exact ⟨ds, rfl⟩
      | _ => exact False.elim hv
    obtain ⟨e1, he1, hv2⟩ := hv
    have e : partD (.tuple ds) (i :: r) = partD e1 r := by
      show (match ds[i]? with | some e => partD e r | none => .none) = _
      rw [he1]
    rw [e]
    exact part_it r hv2 ((hd.mem (List.mem_of_getElem? he1)).up (by omega) (Nat.le_refl _))
def odd1 : List Dt := [.none, .bool true, .int (-1), .int 0, .int 1, .int 2, .int 4, .int 5, .int 9, .str "s", .str "x", .str "ha", .str "main", .str "zz", .str "Up", .str "abcdefghi", .str "", .tuple [], .list [], .tuple [.str "back"]]
def odd2 : List Dt := [.tuple [.str "go", .tuple []], .tuple [.str "go", .tuple [.int 1, .int 0]], .tuple [.str "any"], .tuple [.str "on", .int 4], .tuple [.str "of", .str "s"], .tuple [.str "to", .int 1], .str "set", .str "wait", .tuple [.str "s", .int 2]]
theorem odd_ok : ((odd1 ++ odd2).all fun d => nice d && (decide (d.depth ≤ 2) && decide (d.bulk ≤ 50))) = true := by decide +kernel
theorem odd_it {d : Dt} (h : d ∈ odd1 ++ odd2) : It2 2 50 d := by
  have := List.all_eq_true.mp odd_ok d h
  simp only [Bool.and_eq_true, decide_eq_true_eq] at this
  exact ⟨this.1, sl_bulk d (nice_lay this.1) (Nat.le_trans this.2.2 (by decide)), this.2.1, this.2.2⟩
theorem cut_last (ys : List V) (v : V) : cutV (ys ++ [v]) none (some (-1)) = ys ∧ ¬ (HT.sIx (ys ++ [v]).length 0 none = 0 ∧ HT.sIx (ys ++ [v]).length (ys ++ [v]).length (some (-1)) = (ys ++ [v]).length) := by
  have e : HT.sIx (ys ++ [v]).length (ys ++ [v]).length (some (-1)) = ys.length := by
    simp only [HT.sIx, List.length_append, List.length_cons, List.length_nil]
    split <;> omega
  refine ⟨?_, fun z => ?_⟩
  · unfold cutV
    rw [e, HT.sIx_none, List.drop_zero, Nat.sub_zero, List.take_left]
  · rw [e, List.length_append] at z
    have := z.2
    simp at this
abbrev nBent : List Str := ["_law_pool_here", "_law_prog", "_law_roads_here", "_law_road", "_law_part", "_law_odd", "_law_new", "_law_way"]
theorem scBent : FnScope nBent ["_law_pool_here", "_law_prog"] (defScope s_law_bent) := ⟨rfl, rfl, rfl, by decide +kernel, rfl, by decide +kernel, by decide +kernel⟩
section
variable {P : Program} {w : World} {K : PySem.W.Frag} {mg : Str → Option Value} {base : Heap}
theorem view_pool (p : Addr) : View (off p) (fun (_ : L2.St) H => Pool H p) :=
  ⟨fun _ H t o pl nt => by rw [off_ne (pool_ne pl nt)]; exact upd_same, fun _ H t o pl nt => off_mono (same_new nt), fun _ H t o pl nt => pool_same pl (same_new nt)⟩
def spBent (K : PySem.W.Frag) : Sp := fun vs H Q _ => ∃ (p : Addr) (x : V) (d : Dt) (a b : Nat), vs = [.ref p, x] ∧ Pool H p ∧ Dq K (off p H) 4 x d ∧ It2 a b d ∧ a ≤ 20 ∧ b ≤ 100000 ∧
  ∀ H' u e, Pool H' p → Same (off p H) (off p H') → Dq K (off p H') 4 u e → It2 (a + (a + 4)) (b + (2 * b + 60)) e → Q u H'
theorem sl_newP {K : PySem.W.Frag} {G : Hp} {a : Addr} {ys : List V} {v : V} {T : VK} (h : SqT K G a (ys ++ [v])) (go : ∀ c G', PAt G' c ys → Same G G' → G c = none → T (.ref c) G') : rSlP K (.ref a) none (some (-1)) G T :=
  ⟨a, _, rfl, h, fun z => absurd z (cut_last ys v).2, fun _ q o nq no => go q _ ⟨o, by rw [upd_same, (cut_last ys v).1], no⟩ (same_new nq) nq⟩
theorem cat_newP {K : PySem.W.Frag} {G : Hp} {a b : Addr} {xs ys : List V} {T : VK} (h1 : SqT K G a xs) (h2 : SqT K G b ys) (nx : xs ≠ []) (ny : ys ≠ []) (l : xs.length + ys.length ≤ 1000000) (go : ∀ c G', PAt G' c (xs ++ ys) → Same G G' → G c = none → T (.ref c) G') : rCatP K (.ref a) (.ref b) G T :=
  ⟨a, b, xs, ys, rfl, rfl, h1, h2, Nat.le_of_lt (LC.small_line l), fun e => absurd e nx, fun _ e => absurd e ny, fun _ _ q o nq no => go q _ ⟨o, upd_same, no⟩ (same_new nq) nq⟩
set_option maxHeartbeats 32000000 in
theorem ok_bent {f : Addr} {fd : FuncData} (F : Fun K "_law_bent" "_law_bent" s_law_bent f fd) (T : Def P w K mg base CX0 1 "_law_take" ["_law_pool_here", "_law_many"] spTake) (DR : Def P w K mg base CX0 21 "_law_roads" ["_law_item"] (spRoads K 20)) (DP : Def P w K mg base CX0 1 "_law_part_at" ["_law_item", "_law_road"] (spPartAt K)) (DC : Def P w K mg base CX0 21 "_law_changed_at" ["_law_item", "_law_road", "_law_new"] (spChAt K 20))
    (m_isinstance : mg "isinstance" = none) (m_tuple : mg "tuple" = none) (m_list : mg "list" = none) (m_len : mg "len" = none) : FnOk P w K mg base CX0 22 f fd ["_law_pool_here", "_law_prog"] (spBent K) := by
  refine F.ok scBent (fun vs H Q E h => ?_) (fun cdv A outer s H vs Q E hr h => ?_)
  · obtain ⟨p, x, d, a, b, rfl, _⟩ := h
    rfl
  obtain ⟨p, x, d, a, b, rfl, pl, hx, it, a20, b5, q⟩ := h
  have nd := scBent.nd
  have vw := view_pool p
  refine ⟨_, (pss_cons (ps_set (i := 2) nd rfl (.inl rfl) (pe_call DR.ok hr (by rfl) DR.g DR.kp DR.b .nil pass0 (pa_cons (pv 1) pa_nil)))
    (pss_cons (ps_set (i := 3) nd rfl (.inl rfl) (pe_ix ix_list (pv 2) (pe_call T.ok (hr.mono (by omega)) (by rfl) T.g T.kp T.b .nil pass0 (pa_cons (pv 0) (pa_cons (pe_callB call_len_seq (by rfl) m_len PySem.boot_len (pa_cons (pv 2) pa_nil)) pa_nil))) (fun _ _ => rfl)))
    (pss_cons (ps_set (i := 4) nd rfl (.inl rfl) (pe_call DP.ok (hr.mono (by omega)) (by rfl) DP.g DP.kp DP.b .nil pass0 (pa_cons (pv 1) (pa_cons (pv 3) pa_nil))))
    (pss_cons (ps_set (i := 5) nd rfl (.inl rfl) (pe_lst (dts_cons (dt_leaf pe_non (fun n _ => .non n)) (dts_cons (dt_leaf pe_bl (fun n _ => .bl n _)) (dts_cons (dt_neg pe_int) (dts_cons (dt_leaf pe_int (fun n _ => .int n _)) (dts_cons (dt_leaf pe_int (fun n _ => .int n _)) (dts_cons (dt_leaf pe_int (fun n _ => .int n _)) (dts_cons (dt_leaf pe_int (fun n _ => .int n _)) (dts_cons (dt_leaf pe_int (fun n _ => .int n _)) (dts_cons (dt_leaf pe_int (fun n _ => .int n _)) (dts_cons (dt_leaf pe_str (fun n _ => .str n _)) (dts_cons (dt_leaf pe_str (fun n _ => .str n _)) (dts_cons (dt_leaf pe_str (fun n _ => .str n _)) (dts_cons (dt_leaf pe_str (fun n _ => .str n _)) (dts_cons (dt_leaf pe_str (fun n _ => .str n _)) (dts_cons (dt_leaf pe_str (fun n _ => .str n _)) (dts_cons (dt_leaf pe_str (fun n _ => .str n _)) (dts_cons (dt_leaf pe_str (fun n _ => .str n _)) (dts_cons (dt_tup vw dts_nil (by decide)) (dts_cons (dt_lst vw dts_nil (by decide)) (dts_cons (dt_tup vw (dts_cons (dt_leaf pe_str (fun n _ => .str n _)) dts_nil) (by decide)) dts_nil))))))))))))))))))))))
    (pss_cons (ps_set (i := 5) nd rfl (.inl rfl) (pe_op op_cat (pv 5) (pe_lst (dts_cons (dt_tup vw (dts_cons (dt_leaf pe_str (fun n _ => .str n _)) (dts_cons (dt_tup vw dts_nil (by decide)) dts_nil)) (by decide)) (dts_cons (dt_tup vw (dts_cons (dt_leaf pe_str (fun n _ => .str n _)) (dts_cons (dt_tup vw (dts_cons (dt_leaf pe_int (fun n _ => .int n _)) (dts_cons (dt_leaf pe_int (fun n _ => .int n _)) dts_nil)) (by decide)) dts_nil)) (by decide)) (dts_cons (dt_tup vw (dts_cons (dt_leaf pe_str (fun n _ => .str n _)) dts_nil) (by decide)) (dts_cons (dt_tup vw (dts_cons (dt_leaf pe_str (fun n _ => .str n _)) (dts_cons (dt_leaf pe_int (fun n _ => .int n _)) dts_nil)) (by decide)) (dts_cons (dt_tup vw (dts_cons (dt_leaf pe_str (fun n _ => .str n _)) (dts_cons (dt_leaf pe_str (fun n _ => .str n _)) dts_nil)) (by decide)) (dts_cons (dt_tup vw (dts_cons (dt_leaf pe_str (fun n _ => .str n _)) (dts_cons (dt_leaf pe_int (fun n _ => .int n _)) dts_nil)) (by decide)) (dts_cons (dt_leaf pe_str (fun n _ => .str n _)) (dts_cons (dt_leaf pe_str (fun n _ => .str n _)) (dts_cons (dt_tup vw (dts_cons (dt_leaf pe_str (fun n _ => .str n _)) (dts_cons (dt_leaf pe_int (fun n _ => .int n _)) dts_nil)) (by decide)) dts_nil))))))))))))
    (pss_cons (ps_set (i := 6) nd rfl (.inl rfl) (pe_ix ix_list (pv 5) (pe_call T.ok (hr.mono (by omega)) (by rfl) T.g T.kp T.b .nil pass0 (pa_cons (pv 0) (pa_cons pe_int pa_nil))) (fun _ _ => rfl)))
    (pss_cons (ps_set (i := 7) nd rfl (.inl rfl) (pe_call T.ok (hr.mono (by omega)) (by rfl) T.g T.kp T.b .nil pass0 (pa_cons (pv 0) (pa_cons pe_int pa_nil))))
    (pss_cons (ps_if (PW.pt (pw_and (pt_val (pe_callB call_isi (by rfl) m_isinstance PyProof.Rows.boot_isinstance (pa_cons (pv 4) (pa_cons (pe_bltn (by rfl) m_tuple (u := .type "tuple") (by decide +kernel) (show RelV (.ty "tuple") (.type "tuple") from rfl)) pa_nil)))) (pw_and (pt_cmpR (op_neD hr.units) (pv 4) (pe_tupP pa_nil) (nomark _)) (pw_and1 (pt_cmpR op_gt (pv 7) pe_int (nomark _)))))) (pss_one (ps_set (i := 6) nd rfl (.inl rfl) (pe_ix ix_list (pe_lst (pa_cons (pe_slice sl_tupP (pv 4) po_none (po_some (pe_un un_neg pe_int))) (pa_cons (pe_op op_catP (pv 4) (pe_tupP (pa_cons (pe_ix ix_tup (pv 4) (pe_un un_neg pe_int) (fun _ _ => rfl)) pa_nil))) (pa_cons (pe_op op_catP (pv 4) (pe_tupP (pa_cons (pv 6) pa_nil))) (pa_cons (pe_callTy (T := "list") call_list_of (by rfl) m_list (by decide +kernel) (pa_cons (pv 4) pa_nil)) pa_nil))))) (pe_op op_sub (pv 7) pe_int) (fun _ _ => rfl)))) pss_nil)
    (pss_one (ps_ret (pe_call DC.ok hr (by rfl) DC.g DC.kp DC.b .nil pass0 (pa_cons (pv 1) (pa_cons (pv 3) (pa_cons (pv 6) pa_nil)))))))))))))), ?_⟩
  have hx0 := dq_dp _ _ (dq_same off_sub _ _ hx)
  refine ⟨_, rfl, x, d, rfl, hx0, Nat.le_trans it.dp a20, by decide, Nat.le_trans it.bk b5, fun H1 L as rs s1 nL hL hR hA hV one few => ?_⟩
  have pl1 := pool_same pl s1
  have Lp := pool_ne pl nL
  have sp1 : Same (off p H) (off p H1) := off_mono s1
  have al := hR.len
  have bk := it.bk
  refine ⟨_, rfl, _, rfl, _, rfl, L, _, rfl, .inl (SqL.of hL), p, _, rfl, pl1, by rw [List.length_map]; omega, by rw [List.length_map]; omega, fun H2 r2 pl2 o2 r20 r21 => ?_⟩
  rw [List.length_map] at r21
  have hi : r2.toNat < rs.length := by omega
  have er : rs[r2.toNat]? = some rs[r2.toNat] := List.getElem?_eq_getElem hi
  obtain ⟨vr, rl⟩ := hV _ (List.getElem_mem hi)
  obtain ⟨ar, ea, har⟩ := hR.get er
  have arp : ar ≠ p := pool_ne pl (hA ar (List.mem_of_getElem? ea))
  generalize rs[r2.toNat] = r at er vr rl har
  have hL2 : H2 L = some (.lst (as.map V.ref)) := off_sub _ _ (by rw [o2, off_ne Lp]; exact hL)
  have har2p : off p H2 ar = some (.lst (natsV r)) := by rw [o2, off_ne arp]; exact har
  have har2 := off_sub _ _ har2p
  have sp2 : Same (off p H) (off p H2) := by rw [o2]; exact sp1
  have hat : atI (as.map V.ref) r2 = some (.ref ar) := by
    have z := atI_nat (xs := as.map V.ref) (j := r2.toNat) (v := .ref ar) (by rw [List.getElem?_map, ea]; rfl)
    rwa [Int.toNat_of_nonneg r20] at z
  refine ⟨L, _, r2, _, rfl, rfl, SqL.of hL2, hat, ?_⟩
  refine ⟨_, rfl, _, rfl, off p H2, x, d, 4, ar, r, rfl, off_sub, dq_same sp2 _ _ hx, har2, vr, by omega, fun v hv => ?_⟩
  have pit := part_it r vr it
  -- what is odd
  refine ⟨pl2, fun vs1 H3 pl3 w3 e3 h3 => ⟨by rw [dqAll_len (h3 0)]; decide, fun l1 nl1 => ?_⟩⟩
  have l1p := pool_ne pl3 nl1
  have t4 : Same H3 (upd H3 l1 (.lst vs1)) := same_new nl1
  have pl4 := pool_same pl3 t4
  have hl1 : (upd H3 l1 (.lst vs1)) l1 = some (.lst vs1) := upd_same
  have w4 : Same (off p H2) (off p (upd H3 l1 (.lst vs1))) := w3.trans (off_mono t4)
  have h4 := fun n => dqAll_same (off_mono (p := p) t4) _ _ (h3 n)
  generalize upd H3 l1 (.lst vs1) = H4 at t4 pl4 hl1 w4 h4 ⊢
  refine ⟨_, rfl, pl4, fun vs2 H5 pl5 w5 e5 h5 => ⟨by rw [dqAll_len (h5 0)]; decide, fun l2 nl2 => ?_⟩⟩
  have t6 : Same H5 (upd H5 l2 (.lst vs2)) := same_new nl2
  have pl6 := pool_same pl5 t6
  have hl16 := t6 _ _ (e5 _ _ hl1)
  have hl26 : (upd H5 l2 (.lst vs2)) l2 = some (.lst vs2) := upd_same
  refine ⟨l1, l2, vs1, vs2, rfl, rfl, hl16, hl26, by rw [dqAll_len (h5 0), dqAll_len (h4 0)]; decide, fun l3 nl3 => ?_⟩
  have l3p := pool_ne pl6 nl3
  have t7 : Same (upd H5 l2 (.lst vs2)) (upd (upd H5 l2 (.lst vs2)) l3 (.lst (vs1 ++ vs2))) := same_new nl3
  have pl7 := pool_same pl6 t7
  have t57 := t6.trans t7
  have hodd : ∀ n, DqAll K (off p (upd (upd H5 l2 (.lst vs2)) l3 (.lst (vs1 ++ vs2)))) n (vs1 ++ vs2) (odd1 ++ odd2) := fun n => dqAll_app (dqAll_same (w5.trans (off_mono t57)) _ _ (h4 n)) (dqAll_same (off_mono t57) _ _ (h5 n))
  have hl3 : off p (upd (upd H5 l2 (.lst vs2)) l3 (.lst (vs1 ++ vs2))) l3 = some (.lst (vs1 ++ vs2)) := by rw [off_ne l3p]; exact upd_same
  have w7 : Same (off p H2) (off p (upd (upd H5 l2 (.lst vs2)) l3 (.lst (vs1 ++ vs2)))) := (w4.trans w5).trans (off_mono t57)
  have vlen : (vs1 ++ vs2).length = 29 := by rw [dqAll_len (hodd 0)]; decide
  generalize upd (upd H5 l2 (.lst vs2)) l3 (.lst (vs1 ++ vs2)) = H7 at pl7 hodd hl3 w7 ⊢
  clear t4 t6 t7 t57 hl16 hl26 hl1 h3 h4 h5 w3 w4 w5 e3 e5 nl1 nl2 nl3 pl3 pl4 pl5 pl6
  refine ⟨_, rfl, _, rfl, p, 29, rfl, pl7, by decide, by decide, fun H8 r8 pl8 o8 r80 r81 => ?_⟩
  have hi8 : r8.toNat < (vs1 ++ vs2).length := by omega
  have eo : (vs1 ++ vs2)[r8.toNat]? = some (vs1 ++ vs2)[r8.toNat] := List.getElem?_eq_getElem hi8
  generalize (vs1 ++ vs2)[r8.toNat] = vo at eo
  obtain ⟨dn, hdn, _⟩ := dqAll_get (hodd 0) eo
  have hon : ∀ n, Dq K (off p H8) n vo dn := fun n => by
    obtain ⟨dn', e', h'⟩ := dqAll_get (hodd n) eo
    rw [hdn] at e'
    cases e'
    rw [o8]
    exact h'
  have oit := odd_it (List.mem_of_getElem? hdn)
  have hat8 : atI (vs1 ++ vs2) r8 = some vo := by
    have z := atI_nat eo
    rwa [Int.toNat_of_nonneg r80] at z
  have w8 : Same (off p H2) (off p H8) := by rw [o8]; exact w7
  refine ⟨l3, _, r8, _, rfl, rfl, SqL.of (off_sub _ _ (by rw [o8]; exact hl3)), hat8, ?_⟩
  refine ⟨_, rfl, p, 7, rfl, pl8, by decide, by decide, fun H9 way pl9 o9 w0 w7' => ?_⟩
  rw [← o9] at w8 hon
  clear hodd hl3 hat8 o8 o9 pl7 pl8
  -- what is put there
  have fin : ∀ G nv e', Pool G p → Same (off p H9) (off p G) → Dq K (off p G) (4 - r.length) nv e' → It2 (a + 4) (2 * b + 60) e' →
      tCall (spChAt K 20) [] E0 (tCons (tVar 1) (tCons (tVar 3) (tCons (tVar 6) tNil))) [some (.ref p), some x, some (.ref L), some (.ref ar), some v, some (.ref l3), some nv, some (.int way)] G Q := by
    intro G nv e' plG sG hn ie
    obtain ⟨x1, y1, hp, _⟩ := plG
    have wG := w8.trans sG
    refine ⟨_, rfl, _, rfl, _, rfl, p, _, x, nv, d, e', 4, ar, r, rfl, hp, dq_same (sp2.trans wG) _ _ hx, off_sub _ _ (wG _ _ har2p), vr, by omega, by omega, hn, by omega, fun H' u s' hu => ?_⟩
    exact q _ _ _ (pool_same ⟨x1, y1, hp, ‹_›⟩ s') ((sp2.trans wG).trans (off_mono s')) hu (set_it r vr it ie)
  have keepNew : ∀ G, Pool G p → Same (off p H9) (off p G) → tCall (spChAt K 20) [] E0 (tCons (tVar 1) (tCons (tVar 3) (tCons (tVar 6) tNil))) [some (.ref p), some x, some (.ref L), some (.ref ar), some v, some (.ref l3), some vo, some (.int way)] G Q :=
    fun G plG sG => fin G vo dn plG sG (dq_same sG _ _ (hon _)) (oit.up (by omega) (by omega))
  have hv9 := dq_same w8 _ _ hv
  have hv9d := dq_dp _ _ (dq_same off_sub _ _ hv9)
  refine ⟨_, rfl, _, _, _, _, _, rfl, .ty "tuple", dp_ty hv9d, kit_tup K hv9d, _, rfl, ?_⟩
  by_cases pt : isTup (partD d r) = true
  rotate_left
  · rw [show isTup (partD d r) = false by simpa using pt]
    exact iteF (keepNew H9 pl9 (Same.refl _))
  obtain ⟨ps, eps⟩ := isT_tup _ pt
  rw [eps] at hv9 hv9d pit pt
  rw [eps]
  refine iteT ⟨_, rfl, Nat.zero_le _, fun u ou nu no => ?_⟩
  have tu : Same H9 (upd H9 u (.frz ou (.tup []))) := same_new nu
  have hu : Dp K (upd H9 u (.frz ou (.tup []))) (.ref u) (.tuple []) := .tup (PAt.sq ⟨ou, upd_same, no⟩) .nil
  have plA := pool_same pl9 tu
  generalize upd H9 u (.frz ou (.tup [])) = GA at tu hu plA ⊢
  have sA : Same (off p H9) (off p GA) := off_mono tu
  have hvA := dq_same sA _ _ hv9
  have tkp := tk_of _ (nice_lay pit.nc)
  refine ⟨_, _, dq_dp _ _ (dq_same off_sub _ _ hvA), hu, tkp.shaped (by have := pit.dp; omega), nilT_shaped, _, rfl, ?_⟩
  rw [eqv_nilT]
  obtain ⟨pa, xs, rfl, hpa, hall, hxl⟩ := dq_tup0 hvA
  rcases List.eq_nil_or_concat xs with rfl | ⟨ys, vl, rfl⟩
  · have e0 : ps = [] := List.eq_nil_of_length_eq_zero hxl.symm
    subst e0
    exact iteF (keepNew GA plA sA)
  rw [List.concat_eq_append] at *
  have ne : ps.isEmpty = false := by
    cases ps with
    | nil => simp at hxl
    | cons _ _ => rfl
  rw [ne]
  refine iteT ⟨_, rfl, _, _, rfl, rfl, _, rfl, ite2 (fun w3 => ?_) (fun _ => keepNew GA plA sA)⟩
  have w3' : (3 : Int) ≤ way := by
    have := of_decide_eq_true w3
    omega
  have hpl : ps.length = ys.length + 1 := by rw [← hxl]; simp
  have epd : ps[ys.length]? = some (ps[ys.length]'(by omega)) := List.getElem?_eq_getElem (by omega)
  generalize ps[ys.length]'(by omega) = pd at epd
  have mpd := List.mem_of_getElem? epd
  have hvl : Dq K (off p GA) (4 - r.length - 1) vl pd := by
    obtain ⟨d', h1, h2⟩ := dqAll_get hall (show (ys ++ [vl])[ys.length]? = some vl by simp)
    rw [epd] at h1
    cases h1
    exact h2
  have hys : DqAll K (off p GA) (4 - r.length - 1) ys (ps.take ys.length) := by
    have z := dqAll_take ys.length hall
    rwa [List.take_left] at z
  have hpaS := same_tup off_sub hpa
  have big : (ys ++ [vl]).length ≤ 200000 := by
    rw [hxl]
    have := len_bulk (ds := ps)
    have := pit.bk
    omega
  have mk : ∀ G c zs es, Same GA G → PAt G c zs → Pool G p → DqAll K (off p GA) (4 - r.length - 1) zs es → Dq K (off p G) (4 - r.length) (.ref c) (.tuple es) := fun G c zs es s h plG ha => by
    obtain ⟨x1, y1, hp, _⟩ := plG
    exact dq_mk (pat_hide hp h) (dqAll_same (off_mono s) _ _ ha)
  -- the first
  refine ⟨_, rfl, 1, rfl, -1, rfl, ?_⟩
  refine sl_newP hpaS fun c1 G1 hc1 t1 nc1 => ?_
  have q1 := mk G1 c1 ys _ t1 hc1 (pool_same plA t1) hys
  -- the second
  refine ⟨_, rfl, _, rfl, 1, rfl, pa, _, -1, vl, rfl, rfl, same_tup t1 hpaS, atI_last ys vl, lz1, fun c2 o2 nc2 no2 => ?_⟩
  have t2 : Same G1 (upd G1 c2 (.frz o2 (.tup [vl]))) := same_new nc2
  have h2 : SqT K (upd G1 c2 (.frz o2 (.tup [vl]))) c2 [vl] := PAt.sq ⟨o2, upd_same, no2⟩
  generalize upd G1 c2 (.frz o2 (.tup [vl])) = G2 at t2 h2 ⊢
  refine cat_newP (same_tup (t1.trans t2) hpaS) h2 (by simp) (by simp) (by simp at big ⊢; omega) fun c3 G3' hc3 t3 nc3 => ?_
  have t13 := (t1.trans t2).trans t3
  have q3 := mk G3' c3 _ (ps ++ [pd]) t13 hc3 (pool_same plA t13) (dqAll_app hall (.cons hvl (.nil _)))
  -- the third
  refine ⟨_, rfl, _, rfl, lz1, fun c4 o4 nc4 no4 => ?_⟩
  have t4 : Same G3' (upd G3' c4 (.frz o4 (.tup [vo]))) := same_new nc4
  have h4 : SqT K (upd G3' c4 (.frz o4 (.tup [vo]))) c4 [vo] := PAt.sq ⟨o4, upd_same, no4⟩
  generalize upd G3' c4 (.frz o4 (.tup [vo])) = G4' at t4 h4 ⊢
  refine cat_newP (same_tup (t13.trans t4) hpaS) h4 (by simp) (by simp) (by simp at big ⊢; omega) fun c5 G5 hc5 t5 nc5 => ?_
  have t15 := (t13.trans t4).trans t5
  have q5 := mk G5 c5 _ (ps ++ [dn]) t15 hc5 (pool_same plA t15) (dqAll_app hall (.cons (dq_same sA _ _ (hon _)) (.nil _)))
  -- the fourth
  refine ⟨_, rfl, pa, _, rfl, .inr (same_tup t15 hpaS), fun c6 nc6 => ?_⟩
  have t6 : Same G5 (upd G5 c6 (.lst (ys ++ [vl]))) := same_new nc6
  have c6p := pool_ne (pool_same plA t15) nc6
  have h6 : off p (upd G5 c6 (.lst (ys ++ [vl]))) c6 = some (.lst (ys ++ [vl])) := by rw [off_ne c6p]; exact upd_same
  have t16 := t15.trans t6
  generalize upd G5 c6 (.lst (ys ++ [vl])) = G6 at t6 h6 t16 ⊢
  have q6 : Dq K (off p G6) (4 - r.length) (.ref c6) (.list ps) := by
    have ha := dqAll_same (off_mono (p := p) t16) _ _ hall
    generalize 4 - r.length = m at ha
    cases m with
    | zero => exact .any (.lst (SqL.of h6) (dqAll_dp _ _ ha))
    | succ m => exact .lst (SqL.of h6) ha
  refine ⟨by show 4 ≤ sizeLine; decide, fun c7 nc7 => ?_⟩
  have t7 : Same G6 (upd G6 c7 (.lst [.ref c1, .ref c3, .ref c5, .ref c6])) := same_new nc7
  have h7 : (upd G6 c7 (.lst [.ref c1, .ref c3, .ref c5, .ref c6])) c7 = some (.lst [.ref c1, .ref c3, .ref c5, .ref c6]) := upd_same
  generalize upd G6 c7 (.lst [.ref c1, .ref c3, .ref c5, .ref c6]) = G7 at t7 h7 ⊢
  have t17 := t16.trans t7
  have plG := pool_same plA t17
  have s97 := sA.trans (off_mono (p := p) t17)
  have ext : ∀ {x : Dt} {k b' : Nat}, It2 k b (.tuple ps) → It2 (k - 1) b' x → 1 ≤ k → It2 k (b + b' + 1) (.tuple (ps ++ [x])) := fun {x k b'} h hx k1 => by
    have mem : ∀ y ∈ ps ++ [x], y ∈ ps ∨ y = x := fun y hy => (List.mem_append.mp hy).elim .inl fun z => .inr (List.mem_singleton.mp z)
    refine ⟨nice_tuple fun y hy => ?_, .tup fun y hy => ?_, depth_tup_le (fun y hy => ?_) k1, ?_⟩
    · rcases mem y hy with h' | rfl
      · exact nice_mem h.nc y h'
      · exact hx.nc
    · rcases mem y hy with h' | rfl
      · exact h.sl.of_tup y h'
      · exact hx.sl
    · rcases mem y hy with h' | rfl
      · exact Nat.le_trans (depth_lt h') h.dp
      · have := hx.dp; omega
    · have b1 := h.bk
      have b2 := hx.bk
      simp only [PyData.bulk] at b1 ⊢
      rw [bulkAll_app]
      simp only [PyData.bulkAll]
      omega
  have a1 : 1 ≤ a := Nat.le_trans (Nat.le_trans (Nat.le_add_left 1 _) (depth_lt mpd)) pit.dp
  have i1 : It2 (a + 4) (2 * b + 60) (.tuple (ps.take ys.length)) := ⟨nice_tuple fun y hy => nice_mem pit.nc y (List.mem_of_mem_take hy), .tup fun y hy => pit.sl.of_tup y (List.mem_of_mem_take hy),
    depth_tup_le (fun y hy => Nat.le_trans (depth_lt (List.mem_of_mem_take hy)) (Nat.le_trans pit.dp (by omega))) (by omega), Nat.le_trans (bulk_le_take _) (Nat.le_trans pit.bk (by omega))⟩
  have i3 : It2 (a + 4) (2 * b + 60) (.tuple (ps ++ [pd])) := (ext pit (pit.mem mpd) a1).up (by omega) (by omega)
  have i5 : It2 (a + 4) (2 * b + 60) (.tuple (ps ++ [dn])) := (ext (pit.up (Nat.le_add_right a 4) (Nat.le_refl _)) (oit.up (by omega) (Nat.le_refl _)) (by omega)).up (Nat.le_refl _) (by omega)
  have i6 : It2 (a + 4) (2 * b + 60) (.list ps) := by
    refine ⟨nice_list (nice_mem pit.nc), .lst pit.sl.of_tup, ?_, ?_⟩
    · have := pit.dp
      simp only [PyData.depth] at this ⊢
      omega
    · have := pit.bk
      simp only [PyData.bulk] at this ⊢
      omega
  have s1' := off_mono (p := p) ((((t2.trans t3).trans (t4.trans t5)).trans t6).trans t7)
  have s3' := off_mono (p := p) (((t4.trans t5).trans t6).trans t7)
  have s5' := off_mono (p := p) (t6.trans t7)
  have s6' := off_mono (p := p) t7
  have ways : way = 3 ∨ way = 4 ∨ way = 5 ∨ way = 6 := by omega
  rcases ways with rfl | rfl | rfl | rfl
  · exact ⟨_, rfl, _, _, rfl, rfl, c7, _, 0, _, rfl, rfl, SqL.of h7, atI_nat (j := 0) rfl, fin _ _ _ plG s97 (dq_same s1' _ _ q1) i1⟩
  · exact ⟨_, rfl, _, _, rfl, rfl, c7, _, 1, _, rfl, rfl, SqL.of h7, atI_nat (j := 1) rfl, fin _ _ _ plG s97 (dq_same s3' _ _ q3) i3⟩
  · exact ⟨_, rfl, _, _, rfl, rfl, c7, _, 2, _, rfl, rfl, SqL.of h7, atI_nat (j := 2) rfl, fin _ _ _ plG s97 (dq_same s5' _ _ q5) i5⟩
  · exact ⟨_, rfl, _, _, rfl, rfl, c7, _, 3, _, rfl, rfl, SqL.of h7, atI_nat (j := 3) rfl, fin _ _ _ plG s97 (dq_same s6' _ _ q6) i6⟩
end
end PP

set_option maxHeartbeats 4000000
/-! values of some data that is small -/
namespace PP
open PySem PySem.Spec PyProof.Rows L2 G0 G3 G4 G5 M0 PA EE QA LC SX PT EN SA LT
def Gd (K : PySem.W.Frag) (H : Hp) (a b : Nat) (v : V) : Prop := ∃ d, (∀ n, Dq K H n v d) ∧ It2 a b d ∧ TupOnly d
theorem Gd.same {K : PySem.W.Frag} {H H' : Hp} {a b : Nat} {v : V} (h : Gd K H a b v) (s : Same H H') : Gd K H' a b v := by
  obtain ⟨d, h1, h2⟩ := h
  exact ⟨d, fun n => dq_same s _ _ (h1 n), h2⟩
theorem Gd.hide {K : PySem.W.Frag} {H : Hp} {D : Addr} {us : List V} {a b : Nat} {v : V} (h : Gd K H a b v) (hD : H D = some (.lst us)) : Gd K (off D H) a b v := by
  obtain ⟨d, h1, h2, h3⟩ := h
  exact ⟨d, fun n => dq_hide hD _ _ h3 (h1 n), h2, h3⟩
theorem Gd.up {K : PySem.W.Frag} {H : Hp} {a b a' b' : Nat} {v : V} (h : Gd K H a b v) (l1 : a ≤ a') (l2 : b ≤ b') : Gd K H a' b' v := by
  obtain ⟨d, h1, h2, h3⟩ := h
  exact ⟨d, h1, h2.up l1 l2, h3⟩
theorem gd_all {K : PySem.W.Frag} {H : Hp} {a b : Nat} : ∀ {vs : List V}, (∀ v ∈ vs, Gd K H a b v) → ∃ ds, ds.length = vs.length ∧ (∀ n, DqAll K H n vs ds) ∧ ∀ d ∈ ds, It2 a b d ∧ TupOnly d
  | [], _ => ⟨[], rfl, fun n => .nil n, fun _ z => nomatch z⟩
  | v :: vs, h => by
    obtain ⟨d, h1, h2⟩ := h v List.mem_cons_self
    obtain ⟨ds, l, g1, g2⟩ := gd_all fun u hu => h u (List.mem_cons_of_mem _ hu)
    refine ⟨d :: ds, by rw [List.length_cons, List.length_cons, l], fun n => .cons (h1 n) (g1 n), fun x hx => ?_⟩
    rcases List.mem_cons.mp hx with rfl | hx
    · exact h2
    · exact g2 x hx
theorem tup_it {a b m : Nat} {ds : List Dt} (h : ∀ d ∈ ds, It2 a b d) (l : ds.length ≤ m) : It2 (a + 1) ((b + 1) * m) (.tuple ds) :=
  ⟨nice_tuple fun x hx => (h x hx).nc, .tup fun x hx => (h x hx).sl, depth_tuple fun x hx => (h x hx).dp, bulk_tuple (fun x hx => (h x hx).bk) l⟩
theorem Gd.tup {K : PySem.W.Frag} {H : Hp} {a b m : Nat} {c : Addr} {vs : List V} (hc : PAt H c vs) (h : ∀ v ∈ vs, Gd K H a b v) (l : vs.length ≤ m) : Gd K H (a + 1) ((b + 1) * m) (.ref c) := by
  obtain ⟨ds, e, g1, g2⟩ := gd_all h
  exact ⟨_, dq_every hc g1, tup_it (fun d hd => (g2 d hd).1) (by omega), .tup fun d hd => (g2 d hd).2⟩
structure View2 (W : L2.St → Hp → Hp) (S : L2.St → Hp → Prop) : Prop where
  seen : ∀ σ H t o, S σ H → H t = none → W σ (upd H t o) t = some o
  more : ∀ σ H t o, S σ H → H t = none → Same (W σ H) (W σ (upd H t o))
  keep : ∀ σ H t o, S σ H → H t = none → S σ (upd H t o)
def tGd (K : PySem.W.Frag) (W : L2.St → Hp → Hp) (S : L2.St → Hp → Prop) (a b : Nat) : TE := fun σ H Q => S σ H ∧ ∀ v H', S σ H' → Same (W σ H) (W σ H') → Same H H' → Gd K (W σ H') a b v → Q v H'
def tGds (K : PySem.W.Frag) (W : L2.St → Hp → Hp) (S : L2.St → Hp → Prop) (a b m : Nat) : TA := fun σ H Q => S σ H ∧ ∀ vs H', S σ H' → Same (W σ H) (W σ H') → Same H H' → (∀ v ∈ vs, Gd K (W σ H') a b v) → vs.length = m → Q vs H'
section
variable {X : Cx} {W : L2.St → Hp → Hp} {S : L2.St → Hp → Prop} {e : Expr} {es : List Expr} {a b m : Nat}
theorem gd_leaf {v : V} (he : PE X e (tC v)) (hd : ∀ H, Gd X.K H a b v) : PE X e (tGd X.K W S a b) := pe_weak he fun σ H Q ⟨s, q⟩ => q v H s (Same.refl _) (Same.refl _) (hd _)
theorem gd_var {i : Nat} (he : PE X e (tVar i)) (h : ∀ σ H, S σ H → ∃ v, σ[i]? = some (some v) ∧ Gd X.K (W σ H) a b v) : PE X e (tGd X.K W S a b) := pe_weak he fun σ H Q ⟨s, q⟩ => let ⟨v, ev, hd⟩ := h σ H s; ⟨v, ev, q v H s (Same.refl _) (Same.refl _) hd⟩
theorem gd_up {a' b' : Nat} (he : PE X e (tGd X.K W S a b)) (l1 : a ≤ a') (l2 : b ≤ b') : PE X e (tGd X.K W S a' b') := pe_weak he fun σ H Q ⟨s, q⟩ => ⟨s, fun v H' s' w' e' h => q v H' s' w' e' (h.up l1 l2)⟩
theorem gds_nil : PA X [] (tGds X.K W S a b 0) := pa_weak pa_nil fun σ H Q ⟨s, q⟩ => q [] H s (Same.refl _) (Same.refl _) (fun _ z => nomatch z) rfl
theorem gds_cons (ha : PE X e (tGd X.K W S a b)) (hr : PA X es (tGds X.K W S a b m)) (hs : starEach (e :: es) X.env = (false, eval e X.env) :: starEach es X.env := by rfl) : PA X (e :: es) (tGds X.K W S a b (m + 1)) :=
  pa_weak (pa_cons ha hr hs) fun σ H Q ⟨s, q⟩ => ⟨s, fun v H1 s1 w1 e1 h1 => ⟨s1, fun vs H2 s2 w2 e2 h2 l => q (v :: vs) H2 s2 (w1.trans w2) (e1.trans e2) (fun u hu => by
    rcases List.mem_cons.mp hu with rfl | hu
    · exact h1.same w2
    · exact h2 u hu) (by rw [List.length_cons, l])⟩⟩
theorem gd_tup {k : Nat} {pos : Pos} (vw : View2 W S) (h : PA X es (tGds X.K W S a b m)) (l : m ≤ 100000) : PE X (.Tuple es k pos) (tGd X.K W S (a + 1) ((b + 1) * m)) :=
  pe_weak (pe_tupP h) fun σ H Q ⟨s, q⟩ => ⟨s, fun vs H1 s1 w1 e1 h1 lv => ⟨by rw [lv]; exact Nat.le_of_lt (LC.small_line (by omega)), fun p o np no => by
    have w2 := vw.more σ H1 p (.frz o (.tup vs)) s1 np
    exact q _ _ (vw.keep σ H1 p _ s1 np) (w1.trans w2) (e1.trans (same_new np)) (Gd.tup ⟨o, vw.seen σ H1 p _ s1 np, no⟩ (fun v hv => (h1 v hv).same w2) (Nat.le_of_eq lv))⟩⟩
end
def dok (z : Str) : Bool := nice (.str z) && decide ((PyData.str z).bulk ≤ 10)
theorem gd_str {K : PySem.W.Frag} {H : Hp} {z : Str} (h : dok z = true) : Gd K H 0 10 (.str z) := by
  unfold dok at h
  rw [Bool.and_eq_true, decide_eq_true_eq] at h
  exact ⟨.str z, fun n => .str n z, ⟨h.1, sl_bulk _ (nice_lay h.1) (Nat.le_trans h.2 (by decide)), by simp [PyData.depth], h.2⟩, .str z⟩
theorem gd_int {K : PySem.W.Frag} {H : Hp} {i : Int} (h : -100 ≤ i) (h2 : i < 100) : Gd K H 0 10 (.int i) := ⟨.int i, fun n => .int n i, ⟨nice_int h h2, .int i, by simp [PyData.depth], by simp [PyData.bulk]⟩, .int i⟩
abbrev nBounds : List Str := ["_law_line", "_law_names", "_law_titles", "_law_first", "_law_second", "_law_texts_here", "_law_title", "_law_some", "_law_many", "_law_name", "_law_own", "_law_rows"]
theorem scBounds : FnScope nBounds [] (defScope s_law_bounds) := ⟨rfl, rfl, rfl, by decide +kernel, rfl, by decide +kernel, by decide +kernel⟩
/-! comprehensions whose items are small data, new -/
section
variable {K : PySem.W.Frag} {J : It} {Gs : Hp → Prop} {xs : List V} {g : TG} {te : TE} {vs : List Nat} {σ : L2.St} {H1 : Hp} {D sl : Addr} {Qd : Hp → Prop} {a b : Nat}
theorem comp_gd (w : Walk J xs.length Gs (YAt xs)) (hG : ∀ H, Same H1 H → Gs H) (len : xs.length ≤ 100000) (nD : H1 D = none)
    (turn : ∀ (i : Nat) (x : V) (H : Hp) (R : V → Hp → Prop), xs[i]? = some x → Same H1 H → (∃ us, H D = some (.lst us)) → (∀ y H', Same H H' → Gd K (off D (off sl H')) a b y → R y H') → g x (wipe σ vs) H fun σ2 H2 => wipe σ2 vs = wipe σ vs ∧ te σ2 H2 R)
    (fin : ∀ H' us, Same H1 H' → H' D = some (.lst us) → us.length = xs.length → (∀ u ∈ us, Gd K (off D (off sl H')) a b u) → Qd H') :
    ∃ W : Nat → Nat → Hp → Prop, (∃ m, W 0 m (upd H1 D (.lst []))) ∧ ∀ i m H, W i m H →
      (J.stop i H ∧ Qd H) ∨ (J.go i H ∧ ∃ Nx : Hp → Prop, (∀ H', Nx H' → ∃ m', m' < m ∧ W (i + 1) m' H') ∧ ∀ x H', J.yld i H x H' → g x (wipe σ vs) H' fun σ2 H2 => wipe σ2 vs = wipe σ vs ∧ tYes σ2 H2 fun b H3 =>
        if b = true then te σ2 H3 fun y H4 => ∃ acc, H4 D = some (.lst acc) ∧ acc.length < sizeLine ∧ Nx (upd H4 D (.lst (acc ++ [y]))) else Nx H3) := by
  refine lc_it w (fun i H => Same H1 H ∧ ∃ us, H D = some (.lst us) ∧ us.length = i ∧ ∀ u ∈ us, Gd K (off D (off sl H)) a b u) ⟨same_new nD, [], upd_same, rfl, fun _ z => nomatch z⟩ (fun i H _ h => hG H h.1) (fun i x H H' hi h y => ?_) (fun H h => ?_)
  · obtain ⟨rfl, ex⟩ := y
    obtain ⟨s1, us, hD, ul, hu⟩ := h
    dsimp only [tYes]
    simp only [if_true]
    refine turn i x H' _ ex s1 ⟨us, hD⟩ fun y H5 s hy => ⟨us, s _ _ hD, LC.small_line (by omega), same_put (s1.trans s) nD, us ++ [y], upd_same, by rw [List.length_append, ul]; rfl, fun u hu' => ?_⟩
    have e : off D (off sl (upd H5 D (.lst (us ++ [y])))) = off D (off sl H5) := by
      funext c
      unfold off
      by_cases c1 : c = D
      · rw [if_pos c1, if_pos c1]
      · rw [if_neg c1, if_neg c1, upd_ne c1]
    rw [e]
    rcases List.mem_append.mp hu' with z | z
    · exact (hu u z).same (off_mono (off_mono s))
    · rw [List.mem_singleton.mp z]
      exact hy
  · obtain ⟨s1, us, hD, ul, hu⟩ := h
    exact fin H us s1 hD ul hu
end
def Wb : L2.St → Hp → Hp := fun σ H => match (σ[7]? : Option (Option V)) with
  | some (some (V.ref sl)) => off sl H
  | _ => H
def Sb (K : PySem.W.Frag) : L2.St → Hp → Prop := fun σ H => (∃ v, σ[0]? = some (some v) ∧ Gd K (Wb σ H) 1 11 v) ∧ ∃ sl acc, σ[7]? = some (some (.ref sl)) ∧ H sl = some (.lst acc)
theorem wb_at {σ : L2.St} {H : Hp} {sl : Addr} (h : σ[7]? = some (some (.ref sl))) : Wb σ H = off sl H := by
  unfold Wb
  rw [h]
theorem view_b (K : PySem.W.Frag) : View2 Wb (Sb K) := by
  have nt : ∀ σ H t, Sb K σ H → H t = none → ∃ sl acc, σ[7]? = some (some (.ref sl)) ∧ H sl = some (.lst acc) ∧ t ≠ sl := fun σ H t h n => by
    obtain ⟨_, sl, acc, h1, h2⟩ := h
    exact ⟨sl, acc, h1, h2, fun e => by rw [e, h2] at n; cases n⟩
  refine ⟨fun σ H t o h n => ?_, fun σ H t o h n => ?_, fun σ H t o h n => ?_⟩
  · obtain ⟨sl, acc, h1, h2, ne⟩ := nt σ H t h n
    rw [wb_at h1, off_ne ne]
    exact upd_same
  · obtain ⟨sl, acc, h1, h2, ne⟩ := nt σ H t h n
    rw [wb_at h1, wb_at h1]
    exact off_mono (same_new n)
  · obtain ⟨sl, acc, h1, h2, ne⟩ := nt σ H t h n
    obtain ⟨⟨v, e, hv⟩, _⟩ := h
    rw [wb_at h1] at hv
    refine ⟨⟨v, e, ?_⟩, sl, acc, h1, same_new n _ _ h2⟩
    rw [wb_at h1]
    exact hv.same (off_mono (same_new n))
structure BI (K : PySem.W.Frag) (B : Hp) (sl : Addr) (G : Hp) (acc : List V) : Prop where
  sb : Same B (off sl G)
  h : G sl = some (.lst acc)
  ok : ∀ v ∈ acc, Gd K (off sl G) 12 300000 v
theorem BI.same {K : PySem.W.Frag} {B G G' : Hp} {sl : Addr} {acc : List V} (h : BI K B sl G acc) (s : Same G G') : BI K B sl G' acc := ⟨h.sb.trans (off_mono s), s _ _ h.h, fun v hv => (h.ok v hv).same (off_mono s)⟩
theorem BI.put {K : PySem.W.Frag} {B G : Hp} {sl : Addr} {acc : List V} {v : V} (h : BI K B sl G acc) (hv : Gd K (off sl G) 12 300000 v) : BI K B sl (upd G sl (.lst (acc ++ [v]))) (acc ++ [v]) := by
  refine ⟨by rw [off_upd]; exact h.sb, upd_same, fun u hu => ?_⟩
  rw [off_upd]
  rcases List.mem_append.mp hu with z | z
  · exact h.ok u z
  · rw [List.mem_singleton.mp z]
    exact hv
theorem BI.base {K : PySem.W.Frag} {B G : Hp} {sl : Addr} {acc : List V} (h : BI K B sl G acc) : BI K (off sl G) sl G acc := ⟨Same.refl _, h.h, h.ok⟩
section
variable {P : Program} {w : World} {K : PySem.W.Frag} {mg : Str → Option Value} {base : Heap}
theorem sl_gd {G : Hp} {tt sl : Addr} {us : List V} {m : Nat} {T : VK} (h : PAt (off sl G) tt us ∧ SqT K G tt us) (hu : ∀ u ∈ us, Gd K (off sl G) 3 26 u) (ul : us.length = 40) (ne : ∀ t, G t = none → t ≠ sl) (go : ∀ c G', Same G G' → Gd K (off sl G') 4 1080 (.ref c) → T (.ref c) G') : rSlP K (.ref tt) none (some ((m : Nat) : Int)) G T := by
  refine ⟨tt, us, rfl, h.2, fun _ => go tt G (Same.refl _) (Gd.tup (a := 3) (b := 26) (m := 40) h.1 hu (by omega)), fun _ p o np no => ?_⟩
  have s : Same G (upd G p (.frz o (.tup (cutV us none (some ((m : Nat) : Int)))))) := same_new np
  refine go p _ s (Gd.tup (a := 3) (b := 26) (m := 40) ⟨o, by rw [off_ne (ne p np)]; exact upd_same, no⟩ (fun v hv => ?_) ?_)
  · rw [cut_take] at hv
    exact (hu v (List.mem_of_mem_take hv)).same (off_mono s)
  · rw [cut_take, List.length_take]
    omega
def nmB : List Str := ["a", "b", "c", "d", "e", "f", "g", "h", "i"]
theorem nmB_ok : (nmB.all dok) = true := by decide +kernel
theorem lit_go {σ : L2.St} {G : Hp} {sl : Addr} {acc : List V} {a b : Nat} {v0 : V} {T : VK} (h7 : σ[7]? = some (some (.ref sl))) (h0 : σ[0]? = some (some v0)) (hv : Gd K (off sl G) 1 11 v0) (hs : G sl = some (.lst acc)) (go : ∀ v G', Same G G' → Gd K (off sl G') a b v → T v G') : tGd K Wb (Sb K) a b σ G T :=
  ⟨⟨⟨v0, h0, by rw [wb_at h7]; exact hv⟩, sl, acc, h7, hs⟩, fun v G' _ _ e hg => go v G' e (by rw [wb_at h7] at hg; exact hg)⟩
theorem off_skip {A G : Hp} {D : Addr} (s : Same A G) (n : A D = none) : Same A (off D G) := fun b o e => by
  rw [off_ne (ne_of_none e n)]
  exact s b o e
theorem two_sign : ∀ c ∈ ("abcdefgh" : Str).cps.toList, ∀ c2 ∈ ("abcdi" : Str).cps.toList, dok ((⟨#[c]⟩ : Str) ++ ⟨#[c2]⟩) = true := by decide +kernel
section
variable {J : It} {Gs : Hp → Prop} {xs : List V} {g : TG} {te : TE} {vs : List Nat} {σ : L2.St} {H1 : Hp} {D sl : Addr} {Qd : Hp → Prop}
theorem comp_pr (Pr : Hp → V → Prop) (mono : ∀ {H H' : Hp}, Same H H' → ∀ v, Pr H v → Pr H' v) (w : Walk J xs.length Gs (YAt xs)) (hG : ∀ H, Same H1 H → Gs H) (len : xs.length ≤ 100000) (nD : H1 D = none)
    (turn : ∀ (i : Nat) (x : V) (H : Hp) (R : V → Hp → Prop), xs[i]? = some x → Same H1 H → (∃ us, H D = some (.lst us)) → (∀ y H', Same H H' → Pr (off D (off sl H')) y → R y H') → g x (wipe σ vs) H fun σ2 H2 => wipe σ2 vs = wipe σ vs ∧ te σ2 H2 R)
    (fin : ∀ H' us, Same H1 H' → H' D = some (.lst us) → us.length = xs.length → (∀ u ∈ us, Pr (off D (off sl H')) u) → Qd H') :
    ∃ W : Nat → Nat → Hp → Prop, (∃ m, W 0 m (upd H1 D (.lst []))) ∧ ∀ i m H, W i m H →
      (J.stop i H ∧ Qd H) ∨ (J.go i H ∧ ∃ Nx : Hp → Prop, (∀ H', Nx H' → ∃ m', m' < m ∧ W (i + 1) m' H') ∧ ∀ x H', J.yld i H x H' → g x (wipe σ vs) H' fun σ2 H2 => wipe σ2 vs = wipe σ vs ∧ tYes σ2 H2 fun b H3 =>
        if b = true then te σ2 H3 fun y H4 => ∃ acc, H4 D = some (.lst acc) ∧ acc.length < sizeLine ∧ Nx (upd H4 D (.lst (acc ++ [y]))) else Nx H3) := by
  refine lc_it w (fun i H => Same H1 H ∧ ∃ us, H D = some (.lst us) ∧ us.length = i ∧ ∀ u ∈ us, Pr (off D (off sl H)) u) ⟨same_new nD, [], upd_same, rfl, fun _ z => nomatch z⟩ (fun i H _ h => hG H h.1) (fun i x H H' hi h y => ?_) (fun H h => ?_)
  · obtain ⟨rfl, ex⟩ := y
    obtain ⟨s1, us, hD, ul, hu⟩ := h
    dsimp only [tYes]
    simp only [if_true]
    refine turn i x H' _ ex s1 ⟨us, hD⟩ fun y H5 s hy => ⟨us, s _ _ hD, LC.small_line (by omega), same_put (s1.trans s) nD, us ++ [y], upd_same, by rw [List.length_append, ul]; rfl, fun u hu' => ?_⟩
    have e : off D (off sl (upd H5 D (.lst (us ++ [y])))) = off D (off sl H5) := by
      funext c
      unfold off
      by_cases c1 : c = D
      · rw [if_pos c1, if_pos c1]
      · rw [if_neg c1, if_neg c1, upd_ne c1]
    rw [e]
    rcases List.mem_append.mp hu' with z | z
    · exact mono (off_mono (off_mono s)) u (hu u z)
    · rw [List.mem_singleton.mp z]
      exact hy
  · obtain ⟨s1, us, hD, ul, hu⟩ := h
    exact fin H us s1 hD ul hu
end
def addS (c : Nat) : V → V
  | .str z => .str ((⟨#[c]⟩ : Str) ++ z)
  | v => v
def spBounds (K : PySem.W.Frag) : Sp := fun vs H Q _ => vs = [] ∧ ∀ H' L us, Same H H' → H L = none → H' L = some (.lst us) → us.length ≤ 100 → (∀ u ∈ us, Gd K H' 12 300000 u) → Q (.ref L) H'
set_option maxHeartbeats 32000000 in
theorem ok_bounds {f : Addr} {fd : FuncData} {k : Nat} (F : Fun K "_law_bounds" "_law_bounds" s_law_bounds f fd) (m_tuple : mg "tuple" = none) : FnOk P w K mg base CX0 (k + 1) f fd [] (spBounds K) := by
  refine F.ok scBounds (fun vs H Q E h => ?_) (fun cdv A outer s H vs Q E hr h => ?_)
  · obtain ⟨rfl, _⟩ := h
    rfl
  obtain ⟨rfl, q⟩ := h
  have nd := scBounds.nd
  have vw := view_b K
  have hln : ∀ σ H, Sb K σ H → ∃ v, σ[0]? = some (some v) ∧ Gd K (Wb σ H) 1 11 v := fun σ H h => h.1
  refine ⟨_, (pss_cons (ps_set (i := 0) nd rfl (.inr rfl) (pe_tupP (pa_cons pe_str pa_nil)))
    (pss_cons (ps_set (i := 1) nd rfl (.inl rfl) (pe_lst (pa_cons pe_str (pa_cons pe_str (pa_cons pe_str (pa_cons pe_str (pa_cons pe_str (pa_cons pe_str (pa_cons pe_str (pa_cons pe_str (pa_cons pe_str pa_nil)))))))))))
    (pss_cons (ps_set (i := 2) nd rfl (.inl rfl) (pe_lst pa_nil))
    (pss_cons (ps_for PassesOwn.never rfl (pi_str pe_str) (pg_name (i := 3) nd rfl (.inr rfl))
      (pss_one (ps_set (i := 2) nd rfl (.inl rfl) (pe_op op_cat (pv 2) (pe_lc (own := [("_law_second", 4)]) (g := (gName 4)) (tt := tYes) (by rfl) nd (pi_str pe_str) (blkOk_by (N := nBounds) (sc := defScope s_law_bounds) (by decide +kernel)) (fun _ _ _ _ _ => (pg_name (i := 4) nd rfl (.inl rfl))) (fun _ _ _ _ _ => pts_nil) (fun _ _ _ _ _ => (pe_op op_add_str (pv 3) (pv 4))))))))
    (pss_cons (ps_set (i := 5) nd rfl (.inl rfl) (pe_callTy (T := "tuple") call_tupP (by rfl) m_tuple (by decide +kernel) (pa_cons (pe_lc (own := [("_law_title", 6)]) (g := (gName 6)) (tt := tYes) (by rfl) nd (pi_list (pv 2)) (blkOk_by (N := nBounds) (sc := defScope s_law_bounds) (by decide +kernel)) (fun _ _ _ _ _ => (pg_name (i := 6) nd rfl (.inl rfl))) (fun _ _ _ _ _ => pts_nil) (fun _ _ _ _ _ => (pe_tupP (pa_cons (pv 6) (pa_cons (pe_tupP (pa_cons (pv 0) pa_nil)) pa_nil))))) pa_nil)))
    (pss_cons (ps_set (i := 7) nd rfl (.inl rfl) (pe_lst pa_nil))
    (pss_cons (ps_for PassesOwn.never rfl (pi_list (pe_lst (pa_cons pe_int (pa_cons pe_int pa_nil)))) (pg_name (i := 8) nd rfl (.inl rfl))
      (pss_one (ps_expr (pe_bm PySem.F.plainAttrs_list PySem.F.slot_list_append PySem.F.type_list_append mt_append (pv 7) (pa_cons (pe_tupP (pa_cons (pe_callTy (T := "tuple") call_tupP (by rfl) m_tuple (by decide +kernel) (pa_cons (pe_lc (own := [("_law_name", 9)]) (g := (gName 9)) (tt := tYes) (by rfl) nd (pi_list (pe_slice sl_list (pv 1) po_none (po_some (pv 8)))) (blkOk_by (N := nBounds) (sc := defScope s_law_bounds) (by decide +kernel)) (fun _ _ _ _ _ => (pg_name (i := 9) nd rfl (.inl rfl))) (fun _ _ _ _ _ => pts_nil) (fun _ _ _ _ _ => (pe_tupP (pa_cons (pv 9) (pa_cons pe_int pa_nil))))) pa_nil)) (pa_cons (gd_tup vw (gds_cons (gd_up (a' := 5) (b' := 84) (gd_tup vw (gds_cons (gd_up (a' := 4) (b' := 27) (gd_leaf pe_str (fun _ => gd_str (z := "a") (by decide +kernel))) (by decide) (by decide)) (gds_cons (gd_up (a' := 4) (b' := 27) (gd_tup vw (gds_nil (a := 0) (b := 0)) (by decide)) (by decide) (by decide)) (gds_cons (gd_up (a' := 4) (b' := 27) (gd_tup vw (gds_cons (gd_up (a' := 3) (b' := 26) (gd_tup vw (gds_cons (gd_up (a' := 2) (b' := 12) (gd_leaf pe_str (fun _ => gd_str (z := "m") (by decide +kernel))) (by decide) (by decide)) (gds_cons (gd_up (a' := 2) (b' := 12) (gd_tup vw (gds_cons (gd_up (a' := 1) (b' := 11) (gd_var (pv 0) hln) (by decide) (by decide)) (gds_nil (a := 1) (b := 11))) (by decide)) (by decide) (by decide)) (gds_nil (a := 2) (b := 12)))) (by decide)) (by decide) (by decide)) (gds_nil (a := 3) (b := 26))) (by decide)) (by decide) (by decide)) (gds_nil (a := 4) (b := 27))))) (by decide)) (by decide) (by decide)) (gds_nil (a := 5) (b := 84))) (by decide)) pa_nil))) pa_nil)))))
    (pss_cons (ps_for PassesOwn.never rfl (pi_list (pe_lst (pa_cons pe_int (pa_cons pe_int pa_nil)))) (pg_name (i := 8) nd rfl (.inl rfl))
      (pss_one (ps_expr (pe_bm PySem.F.plainAttrs_list PySem.F.slot_list_append PySem.F.type_list_append mt_append (pv 7) (pa_cons (pe_tupP (pa_cons (pe_tupP pa_nil) (pa_cons (pe_callTy (T := "tuple") call_tupP (by rfl) m_tuple (by decide +kernel) (pa_cons (pe_lc (own := [("_law_name", 9)]) (g := (gName 9)) (tt := tYes) (te := tTupP (tCons (tVar 9) (tCons (tTupP tNil) (tCons (tGd K Wb (Sb K) 4 27) tNil)))) (by rfl) nd (pi_list (pe_slice sl_list (pv 1) po_none (po_some (pv 8)))) (blkOk_by (N := nBounds) (sc := defScope s_law_bounds) (by decide +kernel)) (fun _ _ _ _ _ => (pg_name (i := 9) nd rfl (.inl rfl))) (fun _ _ _ _ _ => pts_nil) (fun _ _ _ _ _ => (pe_tupP (pa_cons (pv 9) (pa_cons (pe_tupP pa_nil) (pa_cons (gd_tup vw (gds_cons (gd_up (a' := 3) (b' := 26) (gd_tup vw (gds_cons (gd_up (a' := 2) (b' := 12) (gd_leaf pe_str (fun _ => gd_str (z := "m") (by decide +kernel))) (by decide) (by decide)) (gds_cons (gd_up (a' := 2) (b' := 12) (gd_tup vw (gds_cons (gd_up (a' := 1) (b' := 11) (gd_var (pv 0) hln) (by decide) (by decide)) (gds_nil (a := 1) (b := 11))) (by decide)) (by decide) (by decide)) (gds_nil (a := 2) (b := 12)))) (by decide)) (by decide) (by decide)) (gds_nil (a := 3) (b := 26))) (by decide)) pa_nil)))))) pa_nil)) pa_nil))) pa_nil)))))
    (pss_cons (ps_for PassesOwn.never rfl (pi_list (pe_lst (pa_cons pe_int (pa_cons pe_int pa_nil)))) (pg_name (i := 8) nd rfl (.inl rfl))
      (pss_one (ps_expr (pe_bm PySem.F.plainAttrs_list PySem.F.slot_list_append PySem.F.type_list_append mt_append (pv 7) (pa_cons (pe_tupP (pa_cons (pe_tupP pa_nil) (pa_cons (pe_tupP (pa_cons (pe_tupP (pa_cons pe_str (pa_cons (pe_tupP pa_nil) (pa_cons (pe_slice sl_tupP (pv 5) po_none (po_some (pv 8))) pa_nil)))) pa_nil)) pa_nil))) pa_nil)))))
    (pss_cons (ps_for PassesOwn.never rfl (pi_list (pe_lst (pa_cons pe_int (pa_cons pe_int pa_nil)))) (pg_name (i := 8) nd rfl (.inl rfl))
      (pss_cons (ps_set (i := 10) nd rfl (.inl rfl) (pe_callTy (T := "tuple") call_tupP (by rfl) m_tuple (by decide +kernel) (pa_cons (pe_lc (own := [("_law_title", 6), ("_law_rows", 11)]) (g := (gTup K 2 (gCons (gName 6) (gCons (gName 11) gNil)))) (tt := tYes) (by rfl) nd (pi_tup (pe_slice sl_tupP (pv 5) po_none (po_some (pv 8)))) (blkOk_by (N := nBounds) (sc := defScope s_law_bounds) (by decide +kernel)) (fun _ _ _ _ _ => (pg_tup rfl (pgs_cons (pg_name (i := 6) nd rfl (.inl rfl)) (pgs_cons (pg_name (i := 11) nd rfl (.inl rfl)) pgs_nil)))) (fun _ _ _ _ _ => pts_nil) (fun _ _ _ _ _ => (pe_tupP (pa_cons (pv 6) (pa_cons pe_int pa_nil))))) pa_nil)))
    (pss_one (ps_expr (pe_bm PySem.F.plainAttrs_list PySem.F.slot_list_append PySem.F.type_list_append mt_append (pv 7) (pa_cons (pe_tupP (pa_cons (pe_tupP pa_nil) (pa_cons (pe_tupP (pa_cons (pe_tupP (pa_cons pe_str (pa_cons (pv 10) (pa_cons (gd_tup vw (gds_cons (gd_up (a' := 3) (b' := 26) (gd_tup vw (gds_cons (gd_up (a' := 2) (b' := 12) (gd_leaf pe_str (fun _ => gd_str (z := "m") (by decide +kernel))) (by decide) (by decide)) (gds_cons (gd_up (a' := 2) (b' := 12) (gd_tup vw (gds_cons (gd_up (a' := 1) (b' := 11) (gd_var (pv 0) hln) (by decide) (by decide)) (gds_nil (a := 1) (b := 11))) (by decide)) (by decide) (by decide)) (gds_nil (a := 2) (b := 12)))) (by decide)) (by decide) (by decide)) (gds_nil (a := 3) (b := 26))) (by decide)) pa_nil)))) pa_nil)) pa_nil))) pa_nil))))))
    (pss_cons (ps_for PassesOwn.never rfl (pi_list (pe_lst (pa_cons pe_int (pa_cons pe_int pa_nil)))) (pg_name (i := 8) nd rfl (.inl rfl))
      (pss_one (ps_expr (pe_bm PySem.F.plainAttrs_list PySem.F.slot_list_append PySem.F.type_list_append mt_append (pv 7) (pa_cons (pe_tupP (pa_cons (pe_tupP pa_nil) (pa_cons (pe_tupP (pa_cons (pe_tupP (pa_cons pe_str (pa_cons (pe_tupP pa_nil) (pa_cons (pe_tupP (pa_cons (pe_tupP (pa_cons pe_str (pa_cons (pe_op op_repP (pe_tupP (pa_cons (pv 0) pa_nil)) (pv 8)) pa_nil))) pa_nil)) pa_nil)))) pa_nil)) pa_nil))) pa_nil)))))
    (pss_one (ps_ret (pe_op op_cat (pv 7) (pe_lst (pa_cons (gd_tup vw (gds_cons (gd_up (a' := 6) (b' := 85) (gd_tup vw (gds_nil (a := 0) (b := 0)) (by decide)) (by decide) (by decide)) (gds_cons (gd_up (a' := 6) (b' := 85) (gd_tup vw (gds_cons (gd_up (a' := 5) (b' := 84) (gd_tup vw (gds_cons (gd_up (a' := 4) (b' := 27) (gd_leaf pe_str (fun _ => gd_str (z := "a") (by decide +kernel))) (by decide) (by decide)) (gds_cons (gd_up (a' := 4) (b' := 27) (gd_tup vw (gds_cons (gd_up (a' := 1) (b' := 22) (gd_tup vw (gds_cons (gd_up (a' := 0) (b' := 10) (gd_leaf pe_str (fun _ => gd_str (z := "x") (by decide +kernel))) (by decide) (by decide)) (gds_cons (gd_up (a' := 0) (b' := 10) (gd_leaf pe_int (fun _ => gd_int (i := 9) (by decide) (by decide))) (by decide) (by decide)) (gds_nil (a := 0) (b := 10)))) (by decide)) (by decide) (by decide)) (gds_nil (a := 1) (b := 22))) (by decide)) (by decide) (by decide)) (gds_cons (gd_up (a' := 4) (b' := 27) (gd_tup vw (gds_cons (gd_up (a' := 3) (b' := 26) (gd_tup vw (gds_cons (gd_up (a' := 2) (b' := 12) (gd_leaf pe_str (fun _ => gd_str (z := "m") (by decide +kernel))) (by decide) (by decide)) (gds_cons (gd_up (a' := 2) (b' := 12) (gd_tup vw (gds_cons (gd_up (a' := 1) (b' := 11) (gd_var (pv 0) hln) (by decide) (by decide)) (gds_nil (a := 1) (b := 11))) (by decide)) (by decide) (by decide)) (gds_nil (a := 2) (b := 12)))) (by decide)) (by decide) (by decide)) (gds_nil (a := 3) (b := 26))) (by decide)) (by decide) (by decide)) (gds_nil (a := 4) (b := 27))))) (by decide)) (by decide) (by decide)) (gds_nil (a := 5) (b := 84))) (by decide)) (by decide) (by decide)) (gds_nil (a := 6) (b := 85)))) (by decide)) (pa_cons (gd_tup vw (gds_cons (gd_up (a' := 6) (b' := 85) (gd_tup vw (gds_cons (gd_up (a' := 1) (b' := 22) (gd_tup vw (gds_cons (gd_up (a' := 0) (b' := 10) (gd_leaf pe_str (fun _ => gd_str (z := "x") (by decide +kernel))) (by decide) (by decide)) (gds_cons (gd_up (a' := 0) (b' := 10) (gd_leaf pe_int (fun _ => gd_int (i := 5) (by decide) (by decide))) (by decide) (by decide)) (gds_nil (a := 0) (b := 10)))) (by decide)) (by decide) (by decide)) (gds_nil (a := 1) (b := 22))) (by decide)) (by decide) (by decide)) (gds_cons (gd_up (a' := 6) (b' := 85) (gd_tup vw (gds_cons (gd_up (a' := 5) (b' := 84) (gd_tup vw (gds_cons (gd_up (a' := 4) (b' := 27) (gd_leaf pe_str (fun _ => gd_str (z := "a") (by decide +kernel))) (by decide) (by decide)) (gds_cons (gd_up (a' := 4) (b' := 27) (gd_tup vw (gds_nil (a := 0) (b := 0)) (by decide)) (by decide) (by decide)) (gds_cons (gd_up (a' := 4) (b' := 27) (gd_tup vw (gds_cons (gd_up (a' := 3) (b' := 26) (gd_tup vw (gds_cons (gd_up (a' := 2) (b' := 12) (gd_leaf pe_str (fun _ => gd_str (z := "m") (by decide +kernel))) (by decide) (by decide)) (gds_cons (gd_up (a' := 2) (b' := 12) (gd_tup vw (gds_cons (gd_up (a' := 1) (b' := 11) (gd_var (pv 0) hln) (by decide) (by decide)) (gds_nil (a := 1) (b := 11))) (by decide)) (by decide) (by decide)) (gds_nil (a := 2) (b := 12)))) (by decide)) (by decide) (by decide)) (gds_nil (a := 3) (b := 26))) (by decide)) (by decide) (by decide)) (gds_nil (a := 4) (b := 27))))) (by decide)) (by decide) (by decide)) (gds_nil (a := 5) (b := 84))) (by decide)) (by decide) (by decide)) (gds_nil (a := 6) (b := 85)))) (by decide)) pa_nil))))))))))))))))), ?_⟩
  refine ⟨lz1, fun l0 o0 n0 q0 => ?_⟩
  have s1 : Same H (upd H l0 (.frz o0 (.tup [.str "back"]))) := same_new n0
  have h0 : PAt (upd H l0 (.frz o0 (.tup [.str "back"]))) l0 [.str "back"] := ⟨o0, upd_same, q0⟩
  generalize upd H l0 (.frz o0 (.tup [.str "back"])) = H1 at s1 h0 ⊢
  refine ⟨by show 9 ≤ sizeLine; decide, fun nm nnm => ?_⟩
  have s2 : Same H1 (upd H1 nm (.lst (nmB.map V.str))) := same_new nnm
  have hnm : (upd H1 nm (.lst (nmB.map V.str))) nm = some (.lst (nmB.map V.str)) := upd_same
  have h02 := h0.same s2
  have s12 := s1.trans s2
  show tSeq _ _ _ _ (upd H1 nm (.lst (nmB.map V.str)))
  generalize upd H1 nm (.lst (nmB.map V.str)) = H2 at s12 hnm h02 ⊢
  refine ⟨Nat.zero_le _, fun t0 nt0 => ?_⟩
  have s3 : Same H2 (upd H2 t0 (.lst [])) := same_new nt0
  have ht0 : (upd H2 t0 (.lst [])) t0 = some (.lst []) := upd_same
  have s13 := s12.trans s3
  have hnm3 := s3 _ _ hnm
  have h03 := h02.same s3
  generalize upd H2 t0 (.lst []) = H3 at s13 ht0 hnm3 h03 ⊢
  clear s1 s2 s3 s12 h0 h02 hnm n0 nnm nt0
  have line3 : Gd K H3 1 11 (.ref l0) := Gd.tup (a := 0) (b := 10) (m := 1) h03 (fun v hv => by rw [List.mem_singleton.mp hv]; exact gd_str (by decide +kernel)) (by decide)
  refine ⟨_, rfl, for_it (walk_sgn "abcdefgh") (fun i σ G => ∃ tl ts y3 y4, σ = [some (.ref l0), some (.ref nm), some (.ref tl), y3, y4, none, none, none, none, none, none, none] ∧ Same H3 G ∧ G tl = some (.lst ((ts : List Str).map V.str)) ∧ ts.length = 5 * i ∧ ∀ z ∈ ts, dok z = true)
    ⟨t0, [], none, none, rfl, Same.refl _, ht0, rfl, fun _ z => nomatch z⟩ (fun i σ G _ h => trivial) (fun i y σ G G' hi h hy => ?_) (fun σ G h => ?_)⟩
  · obtain ⟨tl, ts, y3, y4, rfl, sG, htl, lt, okt⟩ := h
    obtain ⟨rfl, ey⟩ := hy
    obtain ⟨c, hc, rfl⟩ := List.mem_map.mp (List.mem_of_getElem? ey)
    have i8 : i < 8 := by
      have := (List.getElem?_eq_some_iff.mp ey).1
      exact this
    refine ⟨_, rfl, _, rfl, fun D nD => ?_⟩
    refine LC.lc_map (walk_sgn "abcdi") (fun _ _ => trivial) (by decide) nD (addS c) (fun x H' R hx s fin => ?_) (fun H' s hD => ?_)
    · obtain ⟨c2, hc2, rfl⟩ := List.mem_map.mp hx
      exact ⟨rfl, _, rfl, _, rfl, _, _, rfl, rfl, by show 1 + 1 ≤ sizeLine; decide, fin _ (Same.refl _)⟩
    · refine ⟨tl, D, _, _, rfl, rfl, s _ _ htl, hD, ?_, fun p np => ?_⟩
      · rw [List.length_map, List.length_map, lt]
        exact Nat.le_of_lt (LC.small_line (by have : (sgn "abcdi").length = 5 := by decide +kernel
                                              omega))
      · have ep : (sgn "abcdi").map (addS c) = (("abcdi" : Str).cps.toList.map fun c2 => (⟨#[c]⟩ : Str) ++ ⟨#[c2]⟩).map V.str := by
          unfold sgn
          rw [List.map_map, List.map_map]
          rfl
        refine ⟨p, ts ++ (("abcdi" : Str).cps.toList.map fun c2 => (⟨#[c]⟩ : Str) ++ ⟨#[c2]⟩), _, _, rfl, (sG.trans s).trans (same_new np), by rw [upd_same, ep, List.map_append], ?_, fun z hz => ?_⟩
        · rw [List.length_append, List.length_map, lt]
          have : ("abcdi" : Str).cps.toList.length = 5 := by decide +kernel
          omega
        · rcases List.mem_append.mp hz with hz | hz
          · exact okt z hz
          · obtain ⟨c2, hc2, rfl⟩ := List.mem_map.mp hz
            exact two_sign c hc c2 hc2
  obtain ⟨tl, ts, y3, y4, rfl, sG, htl, lt, okt⟩ := h
  have l40 : ts.length = 40 := by
    rw [lt]
    have : (sgn "abcdefgh").length = 8 := by decide +kernel
    omega
  have hnm4 := sG _ _ hnm3
  have line4 := line3.same sG
  have s14 := s13.trans sG
  clear lt s13 sG hnm3 line3 ht0 h03
  refine ⟨_, rfl, tl, rfl, ⟨_, SqL.of htl⟩, fun D nD => ?_⟩
  refine comp_pr (sl := D) (fun H v => Gd K H 3 26 v ∧ ∃ c z y, v = .ref c ∧ PAt H c [.str z, y] ∧ dok z = true) (fun {H H'} s v h => ⟨h.1.same s, by obtain ⟨c, z, y, e, p, k⟩ := h.2; exact ⟨c, z, y, e, p.same s, k⟩⟩) (walk_list (a := tl) (xs := ts.map V.str) (K := K)) (fun H s => SqL.of (s _ _ htl)) (by rw [List.length_map]; omega) nD (fun i x H' R hx s hDu fin => ?_) (fun H' us s' hD ul hu => ?_)
  · obtain ⟨us, hD⟩ := hDu
    obtain ⟨z, hz, rfl⟩ := List.mem_map.mp (List.mem_of_getElem? hx)
    refine ⟨rfl, _, rfl, _, rfl, lz1, fun t ot nt no => ?_⟩
    have tD : t ≠ D := fun e => by rw [e, hD] at nt; cases nt
    have r1 : Same H' (upd H' t (.frz ot (.tup [.ref l0]))) := same_new nt
    refine ⟨lz2, fun t2 ot2 nt2 no2 => ?_⟩
    have t2D : t2 ≠ D := fun e => by rw [e, r1 _ _ hD] at nt2; cases nt2
    have r2 : Same (upd H' t (.frz ot (.tup [.ref l0]))) (upd (upd H' t (.frz ot (.tup [.ref l0]))) t2 (.frz ot2 (.tup [.str z, .ref t]))) := same_new nt2
    refine fin _ _ (r1.trans r2) ?_
    have view : ∀ {b : Addr} {ob : HO}, b ≠ D → (upd (upd H' t (.frz ot (.tup [.ref l0]))) t2 (.frz ot2 (.tup [.str z, .ref t]))) b = some ob → off D (off D (upd (upd H' t (.frz ot (.tup [.ref l0]))) t2 (.frz ot2 (.tup [.str z, .ref t])))) b = some ob := fun n e => by rw [off_ne n, off_ne n]; exact e
    have ln : Gd K (off D (off D (upd (upd H' t (.frz ot (.tup [.ref l0]))) t2 (.frz ot2 (.tup [.str z, .ref t]))))) 1 11 (.ref l0) := line4.same (off_skip (off_skip ((s.trans r1).trans r2) nD) nD)
    refine ⟨?_, t2, z, _, rfl, ⟨ot2, view t2D upd_same, no2⟩, okt z hz⟩
    refine Gd.tup (a := 2) (b := 12) (m := 2) ⟨ot2, view t2D upd_same, no2⟩ (fun v hv => ?_) (Nat.le_refl _)
    rcases List.mem_cons.mp hv with rfl | hv
    · exact (gd_str (okt z hz)).up (by decide) (by decide)
    · rw [List.mem_singleton.mp hv]
      exact Gd.tup (a := 1) (b := 11) (m := 1) ⟨ot, view tD (r2 _ _ upd_same), no⟩ (fun v hv => by rw [List.mem_singleton.mp hv]; exact ln) (Nat.le_refl _)
  refine ⟨D, _, rfl, .inl ⟨SqL.of hD, fun tt ott ntt nott => ?_⟩⟩
  have r3 : Same H' (upd H' tt (.frz ott (.tup us))) := same_new ntt
  have htt : PAt (upd H' tt (.frz ott (.tup us))) tt us := ⟨ott, upd_same, nott⟩
  have gtt : ∀ u ∈ us, Gd K (upd H' tt (.frz ott (.tup us))) 3 26 u := fun u h => (hu u h).1.same ((off_sub.trans off_sub).trans r3)
  have gtp : ∀ u ∈ us, ∃ c z y, u = .ref c ∧ PAt (upd H' tt (.frz ott (.tup us))) c [.str z, y] ∧ dok z = true := fun u h => by
    obtain ⟨c, z, y, e, p, k⟩ := (hu u h).2
    exact ⟨c, z, y, e, p.same ((off_sub.trans off_sub).trans r3), k⟩
  have s4 := s'.trans r3
  have hnm5 := s4 _ _ hnm4
  have line5 := line4.same s4
  have s15 := s14.trans s4
  rw [List.length_map, l40] at ul
  generalize upd H' tt (.frz ott (.tup us)) = B at htt gtt gtp hnm5 line5 s15 ⊢
  clear r3 s4 hu hD nD s' hnm4 line4 htl s14 ntt
  refine ⟨Nat.zero_le _, fun sl nsl => ?_⟩
  have b0 : BI K B sl (upd B sl (.lst [])) [] := ⟨by rw [off_upd]; exact off_skip (Same.refl _) nsl, upd_same, fun _ z => nomatch z⟩
  have pat_off : ∀ {G : Hp} {c : Addr} {xs : List V}, Same B (off sl G) → PAt B c xs → SqT K G c xs := fun s h => (PAt.same (h.same s) off_sub).sq
  generalize upd B sl (.lst []) = G0 at b0 ⊢
  have start0 : ∃ acc, BI K B sl G0 acc ∧ acc.length = 0 := ⟨[], b0, rfl⟩
  clear b0
  obtain ⟨acc0, bi0, al0⟩ := start0
  refine ⟨lz2, fun m0 nm0 => ?_⟩
  have ms0 : Same _ (upd G0 m0 (.lst [.int 8, .int 9])) := same_new nm0
  have mne0 : m0 ≠ sl := fun e => by rw [e, bi0.h] at nm0; cases nm0
  have mh0 : off sl (upd G0 m0 (.lst [.int 8, .int 9])) m0 = some (.lst [.int 8, .int 9]) := by rw [off_ne mne0]; exact upd_same
  have bj0 := bi0.same ms0
  generalize upd G0 m0 (.lst [.int 8, .int 9]) = M0 at mh0 bj0 ⊢
  refine ⟨m0, rfl, ⟨_, SqL.of (off_sub _ _ mh0)⟩, for_list (xs := [.int 8, .int 9]) (fun i σ G => ∃ acc y3 y4 y6 y8 y9 y10 y11, σ = [some (.ref l0), some (.ref nm), some (.ref tl), y3, y4, some (.ref tt), y6, some (.ref sl), y8, y9, y10, y11] ∧ BI K B sl G acc ∧ Same (off sl M0) (off sl G) ∧ acc.length = 0 + i)
    ⟨acc0, _, _, _, _, _, _, _, rfl, bj0, Same.refl _, al0⟩ (fun i σ G _ h => ?_) (fun i x σ G hx h => ?_) (fun σ G1 h => ?_)⟩
  · obtain ⟨_, _, _, _, _, _, _, _, _, _, sm, _⟩ := h
    exact SqL.of (off_sub _ _ (sm _ _ mh0))
  · obtain ⟨ac, y3, y4, y6, y8, y9, y10, y11, rfl, bg, sm, al⟩ := h
    obtain ⟨m, rfl, hm⟩ : ∃ m : Nat, x = .int (m : Nat) ∧ 8 ≤ m ∧ m ≤ 9 := by
      have := List.mem_of_getElem? hx
      simp only [List.mem_cons, List.not_mem_nil, or_false] at this
      rcases this with rfl | rfl
      · exact ⟨8, rfl, by decide, by decide⟩
      · exact ⟨9, rfl, by decide, by decide⟩
    have i2 : i < 2 := (List.getElem?_eq_some_iff.mp hx).1
    have line : ∀ {G' : Hp}, Same G G' → Gd K (off sl G') 1 11 (.ref l0) := fun s => line5.same (bg.sb.trans (off_mono s))
    have new_ne : ∀ {G' : Hp} {t : Addr}, Same G G' → G' t = none → t ≠ sl := fun s n e => by rw [e, s _ _ bg.h] at n; cases n
    have put : ∀ (G' : Hp) (v : V) (z3 z4 z6 z8 z9 z10 z11 : Option V), Same G G' → Gd K (off sl G') 12 300000 v → ∃ acc y3 y4 y6 y8 y9 y10 y11, [some (.ref l0), some (.ref nm), some (.ref tl), z3, z4, some (.ref tt), z6, some (.ref sl), z8, z9, z10, z11] = [some (.ref l0), some (.ref nm), some (.ref tl), y3, y4, some (.ref tt), y6, some (.ref sl), y8, y9, y10, y11] ∧ BI K B sl (upd G' sl (.lst (ac ++ [v]))) acc ∧ Same (off sl M0) (off sl (upd G' sl (.lst (ac ++ [v])))) ∧ acc.length = 0 + (i + 1) := fun G' v z3 z4 z6 z8 z9 z10 z11 s hv =>
      ⟨_, _, _, _, _, _, _, _, rfl, (bg.same s).put hv, by rw [off_upd]; exact sm.trans (off_mono s), by rw [List.length_append, al]; rfl⟩
    have pat_sl : ∀ {G' : Hp}, Same G G' → PAt (off sl G') tt us ∧ SqT K G' tt us := fun s => ⟨htt.same (bg.sb.trans (off_mono s)), ((htt.same (bg.sb.trans (off_mono s))).same off_sub).sq⟩
    have gu_sl : ∀ {G' : Hp}, Same G G' → ∀ u ∈ us, Gd K (off sl G') 3 26 u := fun s u hu => (gtt u hu).same (bg.sb.trans (off_mono s))
    have cut : cutV (nmB.map V.str) none (some ((m : Nat) : Int)) = (nmB.take m).map V.str := by rw [cut_take, List.map_take]
    refine ⟨_, rfl, .inl ⟨rfl, _, SqL.of bg.h⟩, _, rfl, _, rfl, _, rfl, nm, _, rfl, SqL.of (off_sub _ _ (off_mono (p := sl) (Same.refl G) _ _ (bg.sb _ _ hnm5))), fun c1 nc1 => ?_⟩
    rw [cut]
    have r1c : Same G (upd G c1 (.lst ((nmB.take m).map V.str))) := same_new nc1
    have hc1 : (upd G c1 (.lst ((nmB.take m).map V.str))) c1 = some (.lst ((nmB.take m).map V.str)) := upd_same
    generalize upd G c1 (.lst ((nmB.take m).map V.str)) = KC at r1c hc1 ⊢
    have rq1 : Same G KC := r1c
    have rs2 : Same G KC := r1c
    refine ⟨c1, rfl, ⟨_, SqL.of hc1⟩, fun D nD => ?_⟩
    have Dsl := new_ne rs2 nD
    refine comp_gd (K := K) (sl := sl) (a := 1) (b := 22) (walk_list (a := c1) (xs := (nmB.take m).map V.str) (K := K)) (fun H s => SqL.of (s _ _ hc1)) (by rw [List.length_map, List.length_take]; omega) nD (fun j x H2 R hx2 s2 hDu fin => ?_) (fun H2 us2 s2 hD ul2 hu2 => ?_)
    · obtain ⟨us2, hD⟩ := hDu
      obtain ⟨z, hz, rfl⟩ := List.mem_map.mp (List.mem_of_getElem? hx2)
      have rs101 : Same G H2 := rs2.trans s2
      refine ⟨rfl, _, rfl, lz2, fun t102 ot103 nt104 no105 => ?_⟩
      have r107 : Same H2 (upd H2 t102 (.frz ot103 (.tup [.str z, .int 4]))) := same_new nt104
      have ne108 : t102 ≠ sl := new_ne rs101 nt104
      have g109 : Gd K (off sl (upd H2 t102 (.frz ot103 (.tup [.str z, .int 4])))) 1 22 (.ref t102) := (Gd.tup (a := 0) (b := 10) (m := 2) ⟨ot103, by rw [off_ne ne108]; exact upd_same, no105⟩ (fun v hv => by
        simp only [List.mem_cons, List.not_mem_nil, or_false] at hv
        rcases hv with rfl | rfl
        · exact ((gd_str (List.all_eq_true.mp nmB_ok z (List.mem_of_mem_take hz)))).up (by decide) (by decide)
        · exact ((gd_int (by decide) (by decide))).up (by decide) (by decide)) (Nat.le_refl _)).up (by decide) (by decide)
      generalize (upd H2 t102 (.frz ot103 (.tup [.str z, .int 4]))) = K106 at r107 g109 ⊢
      have rq110 : Same H2 K106 := r107
      have rs111 : Same G K106 := rs101.trans r107
      exact fin _ _ rq110 (g109.hide (by rw [off_ne Dsl]; exact rq110 _ _ hD))
    rw [List.length_map, List.length_take] at ul2
    have rq3 : Same G H2 := rq1.trans s2
    have rs4 : Same G H2 := rs2.trans s2
    refine ⟨D, _, rfl, .inl ⟨SqL.of hD, fun t5 ot6 nt7 no8 => ?_⟩⟩
    have r9 : Same H2 (upd H2 t5 (.frz ot6 (.tup us2))) := same_new nt7
    have ne12 : t5 ≠ sl := new_ne rs4 nt7
    have g10 : Gd K (off sl (upd H2 t5 (.frz ot6 (.tup us2)))) 2 207 (.ref t5) := (Gd.tup (a := 1) (b := 22) (m := 9) ⟨ot6, by rw [off_ne ne12]; exact upd_same, no8⟩ (fun u h => (hu2 u h).same (off_sub.trans (off_mono r9))) (by omega)).up (by decide) (by decide)
    generalize (upd H2 t5 (.frz ot6 (.tup us2))) = K11 at r9 g10 ⊢
    have rq13 : Same G K11 := rq3.trans r9
    have rs14 : Same G K11 := rs4.trans r9
    refine lit_go (sl := sl) (acc := ac) (v0 := .ref l0) rfl rfl (line rs14) (rs14 _ _ bg.h) fun v15 K16 r17 g18 => ?_
    replace g10 := g10.same (off_mono (p := sl) r17)
    have rq19 : Same G K16 := rq13.trans r17
    have rs20 : Same G K16 := rs14.trans r17
    refine ⟨lz2, fun t21 ot22 nt23 no24 => ?_⟩
    have r26 : Same K16 (upd K16 t21 (.frz ot22 (.tup [.ref t5, v15]))) := same_new nt23
    have ne27 : t21 ≠ sl := new_ne rs20 nt23
    have g28 : Gd K (off sl (upd K16 t21 (.frz ot22 (.tup [.ref t5, v15])))) 7 416 (.ref t21) := (Gd.tup (a := 6) (b := 207) (m := 2) ⟨ot22, by rw [off_ne ne27]; exact upd_same, no24⟩ (fun v hv => by
      simp only [List.mem_cons, List.not_mem_nil, or_false] at hv
      rcases hv with rfl | rfl
      · exact (g10.same (off_mono (p := sl) r26)).up (by decide) (by decide)
      · exact (g18.same (off_mono (p := sl) r26)).up (by decide) (by decide)) (Nat.le_refl _)).up (by decide) (by decide)
    generalize (upd K16 t21 (.frz ot22 (.tup [.ref t5, v15]))) = K25 at r26 g28 ⊢
    replace g10 := g10.same (off_mono (p := sl) r26)
    replace g18 := g18.same (off_mono (p := sl) r26)
    have rq29 : Same G K25 := rq19.trans r26
    have rs30 : Same G K25 := rs20.trans r26
    exact ⟨sl, _, _, rfl, rfl, rs30 _ _ bg.h, LC.small_line (by omega), put _ _ _ _ _ _ _ _ _ rs30 (g28.up (by decide) (by decide))⟩
  obtain ⟨acc1, y30, y40, y60, y80, y90, y100, y110, rfl, bi1, _, al1⟩ := h
  refine ⟨lz2, fun m1 nm1 => ?_⟩
  have ms1 : Same _ (upd G1 m1 (.lst [.int 4, .int 5])) := same_new nm1
  have mne1 : m1 ≠ sl := fun e => by rw [e, bi1.h] at nm1; cases nm1
  have mh1 : off sl (upd G1 m1 (.lst [.int 4, .int 5])) m1 = some (.lst [.int 4, .int 5]) := by rw [off_ne mne1]; exact upd_same
  have bj1 := bi1.same ms1
  generalize upd G1 m1 (.lst [.int 4, .int 5]) = M1 at mh1 bj1 ⊢
  refine ⟨m1, rfl, ⟨_, SqL.of (off_sub _ _ mh1)⟩, for_list (xs := [.int 4, .int 5]) (fun i σ G => ∃ acc y3 y4 y6 y8 y9 y10 y11, σ = [some (.ref l0), some (.ref nm), some (.ref tl), y3, y4, some (.ref tt), y6, some (.ref sl), y8, y9, y10, y11] ∧ BI K B sl G acc ∧ Same (off sl M1) (off sl G) ∧ acc.length = 2 + i)
    ⟨acc1, _, _, _, _, _, _, _, rfl, bj1, Same.refl _, al1⟩ (fun i σ G _ h => ?_) (fun i x σ G hx h => ?_) (fun σ G2 h => ?_)⟩
  · obtain ⟨_, _, _, _, _, _, _, _, _, _, sm, _⟩ := h
    exact SqL.of (off_sub _ _ (sm _ _ mh1))
  · obtain ⟨ac, y3, y4, y6, y8, y9, y10, y11, rfl, bg, sm, al⟩ := h
    obtain ⟨m, rfl, hm⟩ : ∃ m : Nat, x = .int (m : Nat) ∧ 4 ≤ m ∧ m ≤ 5 := by
      have := List.mem_of_getElem? hx
      simp only [List.mem_cons, List.not_mem_nil, or_false] at this
      rcases this with rfl | rfl
      · exact ⟨4, rfl, by decide, by decide⟩
      · exact ⟨5, rfl, by decide, by decide⟩
    have i2 : i < 2 := (List.getElem?_eq_some_iff.mp hx).1
    have line : ∀ {G' : Hp}, Same G G' → Gd K (off sl G') 1 11 (.ref l0) := fun s => line5.same (bg.sb.trans (off_mono s))
    have new_ne : ∀ {G' : Hp} {t : Addr}, Same G G' → G' t = none → t ≠ sl := fun s n e => by rw [e, s _ _ bg.h] at n; cases n
    have put : ∀ (G' : Hp) (v : V) (z3 z4 z6 z8 z9 z10 z11 : Option V), Same G G' → Gd K (off sl G') 12 300000 v → ∃ acc y3 y4 y6 y8 y9 y10 y11, [some (.ref l0), some (.ref nm), some (.ref tl), z3, z4, some (.ref tt), z6, some (.ref sl), z8, z9, z10, z11] = [some (.ref l0), some (.ref nm), some (.ref tl), y3, y4, some (.ref tt), y6, some (.ref sl), y8, y9, y10, y11] ∧ BI K B sl (upd G' sl (.lst (ac ++ [v]))) acc ∧ Same (off sl M1) (off sl (upd G' sl (.lst (ac ++ [v])))) ∧ acc.length = 2 + (i + 1) := fun G' v z3 z4 z6 z8 z9 z10 z11 s hv =>
      ⟨_, _, _, _, _, _, _, _, rfl, (bg.same s).put hv, by rw [off_upd]; exact sm.trans (off_mono s), by rw [List.length_append, al]; rfl⟩
    have pat_sl : ∀ {G' : Hp}, Same G G' → PAt (off sl G') tt us ∧ SqT K G' tt us := fun s => ⟨htt.same (bg.sb.trans (off_mono s)), ((htt.same (bg.sb.trans (off_mono s))).same off_sub).sq⟩
    have gu_sl : ∀ {G' : Hp}, Same G G' → ∀ u ∈ us, Gd K (off sl G') 3 26 u := fun s u hu => (gtt u hu).same (bg.sb.trans (off_mono s))
    refine ⟨_, rfl, .inl ⟨rfl, _, SqL.of bg.h⟩, Nat.zero_le _, fun t1 ot2 nt3 no4 => ?_⟩
    have r6 : Same G (upd G t1 (.frz ot2 (.tup []))) := same_new nt3
    have ne7 : t1 ≠ sl := new_ne (Same.refl _) nt3
    have g8 : Gd K (off sl (upd G t1 (.frz ot2 (.tup [])))) 1 0 (.ref t1) := (Gd.tup (a := 0) (b := 0) (m := 0) ⟨ot2, by rw [off_ne ne7]; exact upd_same, no4⟩ (fun v hv => by
      simp only [List.mem_cons, List.not_mem_nil, or_false] at hv) (Nat.le_refl _)).up (by decide) (by decide)
    generalize (upd G t1 (.frz ot2 (.tup []))) = K5 at r6 g8 ⊢
    have rq9 : Same G K5 := r6
    have rs10 : Same G K5 := r6
    have cut : cutV (nmB.map V.str) none (some ((m : Nat) : Int)) = (nmB.take m).map V.str := by rw [cut_take, List.map_take]
    refine ⟨_, rfl, _, rfl, _, rfl, nm, _, rfl, SqL.of (off_sub _ _ (off_mono (p := sl) rs10 _ _ (bg.sb _ _ hnm5))), fun c1 nc1 => ?_⟩
    rw [cut]
    have r1c : Same K5 (upd K5 c1 (.lst ((nmB.take m).map V.str))) := same_new nc1
    have hc1 : (upd K5 c1 (.lst ((nmB.take m).map V.str))) c1 = some (.lst ((nmB.take m).map V.str)) := upd_same
    generalize upd K5 c1 (.lst ((nmB.take m).map V.str)) = KC at r1c hc1 ⊢
    replace g8 := g8.same (off_mono (p := sl) r1c)
    have rq11 : Same G KC := rq9.trans r1c
    have rs12 : Same G KC := rs10.trans r1c
    refine ⟨c1, rfl, ⟨_, SqL.of hc1⟩, fun D nD => ?_⟩
    have Dsl := new_ne rs12 nD
    refine comp_gd (K := K) (sl := sl) (a := 5) (b := 84) (walk_list (a := c1) (xs := (nmB.take m).map V.str) (K := K)) (fun H s => SqL.of (s _ _ hc1)) (by rw [List.length_map, List.length_take]; omega) nD (fun j x H2 R hx2 s2 hDu fin => ?_) (fun H2 us2 s2 hD ul2 hu2 => ?_)
    · obtain ⟨us2, hD⟩ := hDu
      obtain ⟨z, hz, rfl⟩ := List.mem_map.mp (List.mem_of_getElem? hx2)
      have rs101 : Same G H2 := rs12.trans s2
      refine ⟨rfl, _, rfl, Nat.zero_le _, fun t102 ot103 nt104 no105 => ?_⟩
      have r107 : Same H2 (upd H2 t102 (.frz ot103 (.tup []))) := same_new nt104
      have ne108 : t102 ≠ sl := new_ne rs101 nt104
      have g109 : Gd K (off sl (upd H2 t102 (.frz ot103 (.tup [])))) 1 0 (.ref t102) := (Gd.tup (a := 0) (b := 0) (m := 0) ⟨ot103, by rw [off_ne ne108]; exact upd_same, no105⟩ (fun v hv => by
        simp only [List.mem_cons, List.not_mem_nil, or_false] at hv) (Nat.le_refl _)).up (by decide) (by decide)
      generalize (upd H2 t102 (.frz ot103 (.tup []))) = K106 at r107 g109 ⊢
      have rq110 : Same H2 K106 := r107
      have rs111 : Same G K106 := rs101.trans r107
      refine lit_go (sl := sl) (acc := ac) (v0 := .ref l0) rfl rfl (line rs111) (rs111 _ _ bg.h) fun v112 K113 r114 g115 => ?_
      replace g109 := g109.same (off_mono (p := sl) r114)
      have rq116 : Same H2 K113 := rq110.trans r114
      have rs117 : Same G K113 := rs111.trans r114
      refine ⟨lz3, fun t118 ot119 nt120 no121 => ?_⟩
      have r123 : Same K113 (upd K113 t118 (.frz ot119 (.tup [.str z, .ref t102, v112]))) := same_new nt120
      have ne124 : t118 ≠ sl := new_ne rs117 nt120
      have g125 : Gd K (off sl (upd K113 t118 (.frz ot119 (.tup [.str z, .ref t102, v112])))) 5 84 (.ref t118) := (Gd.tup (a := 4) (b := 27) (m := 3) ⟨ot119, by rw [off_ne ne124]; exact upd_same, no121⟩ (fun v hv => by
        simp only [List.mem_cons, List.not_mem_nil, or_false] at hv
        rcases hv with rfl | rfl | rfl
        · exact ((gd_str (List.all_eq_true.mp nmB_ok z (List.mem_of_mem_take hz)))).up (by decide) (by decide)
        · exact (g109.same (off_mono (p := sl) r123)).up (by decide) (by decide)
        · exact (g115.same (off_mono (p := sl) r123)).up (by decide) (by decide)) (Nat.le_refl _)).up (by decide) (by decide)
      generalize (upd K113 t118 (.frz ot119 (.tup [.str z, .ref t102, v112]))) = K122 at r123 g125 ⊢
      replace g109 := g109.same (off_mono (p := sl) r123)
      replace g115 := g115.same (off_mono (p := sl) r123)
      have rq126 : Same H2 K122 := rq116.trans r123
      have rs127 : Same G K122 := rs117.trans r123
      exact fin _ _ rq126 (g125.hide (by rw [off_ne Dsl]; exact rq126 _ _ hD))
    rw [List.length_map, List.length_take] at ul2
    replace g8 := g8.same (off_mono (p := sl) s2)
    have rq13 : Same G H2 := rq11.trans s2
    have rs14 : Same G H2 := rs12.trans s2
    refine ⟨D, _, rfl, .inl ⟨SqL.of hD, fun t15 ot16 nt17 no18 => ?_⟩⟩
    have r19 : Same H2 (upd H2 t15 (.frz ot16 (.tup us2))) := same_new nt17
    have ne22 : t15 ≠ sl := new_ne rs14 nt17
    have g20 : Gd K (off sl (upd H2 t15 (.frz ot16 (.tup us2)))) 6 765 (.ref t15) := (Gd.tup (a := 5) (b := 84) (m := 9) ⟨ot16, by rw [off_ne ne22]; exact upd_same, no18⟩ (fun u h => (hu2 u h).same (off_sub.trans (off_mono r19))) (by omega)).up (by decide) (by decide)
    generalize (upd H2 t15 (.frz ot16 (.tup us2))) = K21 at r19 g20 ⊢
    replace g8 := g8.same (off_mono (p := sl) r19)
    have rq23 : Same G K21 := rq13.trans r19
    have rs24 : Same G K21 := rs14.trans r19
    refine ⟨lz2, fun t25 ot26 nt27 no28 => ?_⟩
    have r30 : Same K21 (upd K21 t25 (.frz ot26 (.tup [.ref t1, .ref t15]))) := same_new nt27
    have ne31 : t25 ≠ sl := new_ne rs24 nt27
    have g32 : Gd K (off sl (upd K21 t25 (.frz ot26 (.tup [.ref t1, .ref t15])))) 7 1532 (.ref t25) := (Gd.tup (a := 6) (b := 765) (m := 2) ⟨ot26, by rw [off_ne ne31]; exact upd_same, no28⟩ (fun v hv => by
      simp only [List.mem_cons, List.not_mem_nil, or_false] at hv
      rcases hv with rfl | rfl
      · exact (g8.same (off_mono (p := sl) r30)).up (by decide) (by decide)
      · exact (g20.same (off_mono (p := sl) r30)).up (by decide) (by decide)) (Nat.le_refl _)).up (by decide) (by decide)
    generalize (upd K21 t25 (.frz ot26 (.tup [.ref t1, .ref t15]))) = K29 at r30 g32 ⊢
    replace g8 := g8.same (off_mono (p := sl) r30)
    replace g20 := g20.same (off_mono (p := sl) r30)
    have rq33 : Same G K29 := rq23.trans r30
    have rs34 : Same G K29 := rs24.trans r30
    exact ⟨sl, _, _, rfl, rfl, rs34 _ _ bg.h, LC.small_line (by omega), put _ _ _ _ _ _ _ _ _ rs34 (g32.up (by decide) (by decide))⟩
  obtain ⟨acc2, y31, y41, y61, y81, y91, y101, y111, rfl, bi2, _, al2⟩ := h
  refine ⟨lz2, fun m2 nm2 => ?_⟩
  have ms2 : Same _ (upd G2 m2 (.lst [.int 32, .int 33])) := same_new nm2
  have mne2 : m2 ≠ sl := fun e => by rw [e, bi2.h] at nm2; cases nm2
  have mh2 : off sl (upd G2 m2 (.lst [.int 32, .int 33])) m2 = some (.lst [.int 32, .int 33]) := by rw [off_ne mne2]; exact upd_same
  have bj2 := bi2.same ms2
  generalize upd G2 m2 (.lst [.int 32, .int 33]) = M2 at mh2 bj2 ⊢
  refine ⟨m2, rfl, ⟨_, SqL.of (off_sub _ _ mh2)⟩, for_list (xs := [.int 32, .int 33]) (fun i σ G => ∃ acc y3 y4 y6 y8 y9 y10 y11, σ = [some (.ref l0), some (.ref nm), some (.ref tl), y3, y4, some (.ref tt), y6, some (.ref sl), y8, y9, y10, y11] ∧ BI K B sl G acc ∧ Same (off sl M2) (off sl G) ∧ acc.length = 4 + i)
    ⟨acc2, _, _, _, _, _, _, _, rfl, bj2, Same.refl _, al2⟩ (fun i σ G _ h => ?_) (fun i x σ G hx h => ?_) (fun σ G3 h => ?_)⟩
  · obtain ⟨_, _, _, _, _, _, _, _, _, _, sm, _⟩ := h
    exact SqL.of (off_sub _ _ (sm _ _ mh2))
  · obtain ⟨ac, y3, y4, y6, y8, y9, y10, y11, rfl, bg, sm, al⟩ := h
    obtain ⟨m, rfl, hm⟩ : ∃ m : Nat, x = .int (m : Nat) ∧ 32 ≤ m ∧ m ≤ 33 := by
      have := List.mem_of_getElem? hx
      simp only [List.mem_cons, List.not_mem_nil, or_false] at this
      rcases this with rfl | rfl
      · exact ⟨32, rfl, by decide, by decide⟩
      · exact ⟨33, rfl, by decide, by decide⟩
    have i2 : i < 2 := (List.getElem?_eq_some_iff.mp hx).1
    have line : ∀ {G' : Hp}, Same G G' → Gd K (off sl G') 1 11 (.ref l0) := fun s => line5.same (bg.sb.trans (off_mono s))
    have new_ne : ∀ {G' : Hp} {t : Addr}, Same G G' → G' t = none → t ≠ sl := fun s n e => by rw [e, s _ _ bg.h] at n; cases n
    have put : ∀ (G' : Hp) (v : V) (z3 z4 z6 z8 z9 z10 z11 : Option V), Same G G' → Gd K (off sl G') 12 300000 v → ∃ acc y3 y4 y6 y8 y9 y10 y11, [some (.ref l0), some (.ref nm), some (.ref tl), z3, z4, some (.ref tt), z6, some (.ref sl), z8, z9, z10, z11] = [some (.ref l0), some (.ref nm), some (.ref tl), y3, y4, some (.ref tt), y6, some (.ref sl), y8, y9, y10, y11] ∧ BI K B sl (upd G' sl (.lst (ac ++ [v]))) acc ∧ Same (off sl M2) (off sl (upd G' sl (.lst (ac ++ [v])))) ∧ acc.length = 4 + (i + 1) := fun G' v z3 z4 z6 z8 z9 z10 z11 s hv =>
      ⟨_, _, _, _, _, _, _, _, rfl, (bg.same s).put hv, by rw [off_upd]; exact sm.trans (off_mono s), by rw [List.length_append, al]; rfl⟩
    have pat_sl : ∀ {G' : Hp}, Same G G' → PAt (off sl G') tt us ∧ SqT K G' tt us := fun s => ⟨htt.same (bg.sb.trans (off_mono s)), ((htt.same (bg.sb.trans (off_mono s))).same off_sub).sq⟩
    have gu_sl : ∀ {G' : Hp}, Same G G' → ∀ u ∈ us, Gd K (off sl G') 3 26 u := fun s u hu => (gtt u hu).same (bg.sb.trans (off_mono s))
    refine ⟨_, rfl, .inl ⟨rfl, _, SqL.of bg.h⟩, Nat.zero_le _, fun t1 ot2 nt3 no4 => ?_⟩
    have r6 : Same G (upd G t1 (.frz ot2 (.tup []))) := same_new nt3
    have ne7 : t1 ≠ sl := new_ne (Same.refl _) nt3
    have g8 : Gd K (off sl (upd G t1 (.frz ot2 (.tup [])))) 1 0 (.ref t1) := (Gd.tup (a := 0) (b := 0) (m := 0) ⟨ot2, by rw [off_ne ne7]; exact upd_same, no4⟩ (fun v hv => by
      simp only [List.mem_cons, List.not_mem_nil, or_false] at hv) (Nat.le_refl _)).up (by decide) (by decide)
    generalize (upd G t1 (.frz ot2 (.tup []))) = K5 at r6 g8 ⊢
    have rq9 : Same G K5 := r6
    have rs10 : Same G K5 := r6
    refine ⟨Nat.zero_le _, fun t11 ot12 nt13 no14 => ?_⟩
    have r16 : Same K5 (upd K5 t11 (.frz ot12 (.tup []))) := same_new nt13
    have ne17 : t11 ≠ sl := new_ne rs10 nt13
    have g18 : Gd K (off sl (upd K5 t11 (.frz ot12 (.tup [])))) 1 0 (.ref t11) := (Gd.tup (a := 0) (b := 0) (m := 0) ⟨ot12, by rw [off_ne ne17]; exact upd_same, no14⟩ (fun v hv => by
      simp only [List.mem_cons, List.not_mem_nil, or_false] at hv) (Nat.le_refl _)).up (by decide) (by decide)
    generalize (upd K5 t11 (.frz ot12 (.tup []))) = K15 at r16 g18 ⊢
    replace g8 := g8.same (off_mono (p := sl) r16)
    have rq19 : Same G K15 := rq9.trans r16
    have rs20 : Same G K15 := rs10.trans r16
    refine ⟨_, rfl, _, rfl, _, rfl, ?_⟩
    refine sl_gd (K := K) (sl := sl) (m := m) (pat_sl rs20) (fun u hu => gu_sl rs20 u hu) ul (fun t nt => new_ne rs20 nt) fun cs KS rsl gsl => ?_
    replace g8 := g8.same (off_mono (p := sl) rsl)
    replace g18 := g18.same (off_mono (p := sl) rsl)
    have rq21 : Same G KS := rq19.trans rsl
    have rs22 : Same G KS := rs20.trans rsl
    refine ⟨lz3, fun t23 ot24 nt25 no26 => ?_⟩
    have r28 : Same KS (upd KS t23 (.frz ot24 (.tup [.str "a", .ref t11, .ref cs]))) := same_new nt25
    have ne29 : t23 ≠ sl := new_ne rs22 nt25
    have g30 : Gd K (off sl (upd KS t23 (.frz ot24 (.tup [.str "a", .ref t11, .ref cs])))) 5 3243 (.ref t23) := (Gd.tup (a := 4) (b := 1080) (m := 3) ⟨ot24, by rw [off_ne ne29]; exact upd_same, no26⟩ (fun v hv => by
      simp only [List.mem_cons, List.not_mem_nil, or_false] at hv
      rcases hv with rfl | rfl | rfl
      · exact ((gd_str (by decide +kernel))).up (by decide) (by decide)
      · exact (g18.same (off_mono (p := sl) r28)).up (by decide) (by decide)
      · exact (gsl.same (off_mono (p := sl) r28)).up (by decide) (by decide)) (Nat.le_refl _)).up (by decide) (by decide)
    generalize (upd KS t23 (.frz ot24 (.tup [.str "a", .ref t11, .ref cs]))) = K27 at r28 g30 ⊢
    replace g8 := g8.same (off_mono (p := sl) r28)
    replace g18 := g18.same (off_mono (p := sl) r28)
    replace gsl := gsl.same (off_mono (p := sl) r28)
    have rq31 : Same G K27 := rq21.trans r28
    have rs32 : Same G K27 := rs22.trans r28
    refine ⟨lz1, fun t33 ot34 nt35 no36 => ?_⟩
    have r38 : Same K27 (upd K27 t33 (.frz ot34 (.tup [.ref t23]))) := same_new nt35
    have ne39 : t33 ≠ sl := new_ne rs32 nt35
    have g40 : Gd K (off sl (upd K27 t33 (.frz ot34 (.tup [.ref t23])))) 6 3244 (.ref t33) := (Gd.tup (a := 5) (b := 3243) (m := 1) ⟨ot34, by rw [off_ne ne39]; exact upd_same, no36⟩ (fun v hv => by
      simp only [List.mem_cons, List.not_mem_nil, or_false] at hv
      rcases hv with rfl
      · exact (g30.same (off_mono (p := sl) r38)).up (by decide) (by decide)) (Nat.le_refl _)).up (by decide) (by decide)
    generalize (upd K27 t33 (.frz ot34 (.tup [.ref t23]))) = K37 at r38 g40 ⊢
    replace g8 := g8.same (off_mono (p := sl) r38)
    replace g18 := g18.same (off_mono (p := sl) r38)
    replace gsl := gsl.same (off_mono (p := sl) r38)
    replace g30 := g30.same (off_mono (p := sl) r38)
    have rq41 : Same G K37 := rq31.trans r38
    have rs42 : Same G K37 := rs32.trans r38
    refine ⟨lz2, fun t43 ot44 nt45 no46 => ?_⟩
    have r48 : Same K37 (upd K37 t43 (.frz ot44 (.tup [.ref t1, .ref t33]))) := same_new nt45
    have ne49 : t43 ≠ sl := new_ne rs42 nt45
    have g50 : Gd K (off sl (upd K37 t43 (.frz ot44 (.tup [.ref t1, .ref t33])))) 7 6490 (.ref t43) := (Gd.tup (a := 6) (b := 3244) (m := 2) ⟨ot44, by rw [off_ne ne49]; exact upd_same, no46⟩ (fun v hv => by
      simp only [List.mem_cons, List.not_mem_nil, or_false] at hv
      rcases hv with rfl | rfl
      · exact (g8.same (off_mono (p := sl) r48)).up (by decide) (by decide)
      · exact (g40.same (off_mono (p := sl) r48)).up (by decide) (by decide)) (Nat.le_refl _)).up (by decide) (by decide)
    generalize (upd K37 t43 (.frz ot44 (.tup [.ref t1, .ref t33]))) = K47 at r48 g50 ⊢
    replace g8 := g8.same (off_mono (p := sl) r48)
    replace g18 := g18.same (off_mono (p := sl) r48)
    replace gsl := gsl.same (off_mono (p := sl) r48)
    replace g30 := g30.same (off_mono (p := sl) r48)
    replace g40 := g40.same (off_mono (p := sl) r48)
    have rq51 : Same G K47 := rq41.trans r48
    have rs52 : Same G K47 := rs42.trans r48
    exact ⟨sl, _, _, rfl, rfl, rs52 _ _ bg.h, LC.small_line (by omega), put _ _ _ _ _ _ _ _ _ rs52 (g50.up (by decide) (by decide))⟩
  obtain ⟨acc3, y32, y42, y62, y82, y92, y102, y112, rfl, bi3, _, al3⟩ := h
  refine ⟨lz2, fun m3 nm3 => ?_⟩
  have ms3 : Same _ (upd G3 m3 (.lst [.int 24, .int 25])) := same_new nm3
  have mne3 : m3 ≠ sl := fun e => by rw [e, bi3.h] at nm3; cases nm3
  have mh3 : off sl (upd G3 m3 (.lst [.int 24, .int 25])) m3 = some (.lst [.int 24, .int 25]) := by rw [off_ne mne3]; exact upd_same
  have bj3 := bi3.same ms3
  generalize upd G3 m3 (.lst [.int 24, .int 25]) = M3 at mh3 bj3 ⊢
  refine ⟨m3, rfl, ⟨_, SqL.of (off_sub _ _ mh3)⟩, for_list (xs := [.int 24, .int 25]) (fun i σ G => ∃ acc y3 y4 y6 y8 y9 y10 y11, σ = [some (.ref l0), some (.ref nm), some (.ref tl), y3, y4, some (.ref tt), y6, some (.ref sl), y8, y9, y10, y11] ∧ BI K B sl G acc ∧ Same (off sl M3) (off sl G) ∧ acc.length = 6 + i)
    ⟨acc3, _, _, _, _, _, _, _, rfl, bj3, Same.refl _, al3⟩ (fun i σ G _ h => ?_) (fun i x σ G hx h => ?_) (fun σ G4 h => ?_)⟩
  · obtain ⟨_, _, _, _, _, _, _, _, _, _, sm, _⟩ := h
    exact SqL.of (off_sub _ _ (sm _ _ mh3))
  · obtain ⟨ac, y3, y4, y6, y8, y9, y10, y11, rfl, bg, sm, al⟩ := h
    obtain ⟨m, rfl, hm⟩ : ∃ m : Nat, x = .int (m : Nat) ∧ 24 ≤ m ∧ m ≤ 25 := by
      have := List.mem_of_getElem? hx
      simp only [List.mem_cons, List.not_mem_nil, or_false] at this
      rcases this with rfl | rfl
      · exact ⟨24, rfl, by decide, by decide⟩
      · exact ⟨25, rfl, by decide, by decide⟩
    have i2 : i < 2 := (List.getElem?_eq_some_iff.mp hx).1
    have line : ∀ {G' : Hp}, Same G G' → Gd K (off sl G') 1 11 (.ref l0) := fun s => line5.same (bg.sb.trans (off_mono s))
    have new_ne : ∀ {G' : Hp} {t : Addr}, Same G G' → G' t = none → t ≠ sl := fun s n e => by rw [e, s _ _ bg.h] at n; cases n
    have put : ∀ (G' : Hp) (v : V) (z3 z4 z6 z8 z9 z10 z11 : Option V), Same G G' → Gd K (off sl G') 12 300000 v → ∃ acc y3 y4 y6 y8 y9 y10 y11, [some (.ref l0), some (.ref nm), some (.ref tl), z3, z4, some (.ref tt), z6, some (.ref sl), z8, z9, z10, z11] = [some (.ref l0), some (.ref nm), some (.ref tl), y3, y4, some (.ref tt), y6, some (.ref sl), y8, y9, y10, y11] ∧ BI K B sl (upd G' sl (.lst (ac ++ [v]))) acc ∧ Same (off sl M3) (off sl (upd G' sl (.lst (ac ++ [v])))) ∧ acc.length = 6 + (i + 1) := fun G' v z3 z4 z6 z8 z9 z10 z11 s hv =>
      ⟨_, _, _, _, _, _, _, _, rfl, (bg.same s).put hv, by rw [off_upd]; exact sm.trans (off_mono s), by rw [List.length_append, al]; rfl⟩
    have pat_sl : ∀ {G' : Hp}, Same G G' → PAt (off sl G') tt us ∧ SqT K G' tt us := fun s => ⟨htt.same (bg.sb.trans (off_mono s)), ((htt.same (bg.sb.trans (off_mono s))).same off_sub).sq⟩
    have gu_sl : ∀ {G' : Hp}, Same G G' → ∀ u ∈ us, Gd K (off sl G') 3 26 u := fun s u hu => (gtt u hu).same (bg.sb.trans (off_mono s))
    refine ⟨_, rfl, _, rfl, _, rfl, ?_⟩
    refine sl_anyP (pat_sl (Same.refl _)).2 fun cs KS hcs rsl => ?_
    have rq1 : Same G KS := rsl
    have rs2 : Same G KS := rsl
    rw [cut_take] at hcs
    refine ⟨cs, rfl, ⟨_, hcs⟩, fun D nD => ?_⟩
    have Dsl := new_ne rs2 nD
    refine comp_gd (K := K) (sl := sl) (a := 1) (b := 22) (walk_tup (a := cs) (xs := us.take m) (K := K)) (fun H s => same_tup s hcs) (by rw [List.length_take]; omega) nD (fun j x H2 R hx2 s2 hDu fin => ?_) (fun H2 us2 s2 hD ul2 hu2 => ?_)
    · obtain ⟨us2, hD⟩ := hDu
      have rs101 : Same G H2 := rs2.trans s2
      obtain ⟨cz, z, y, rfl, pz, kz⟩ := gtp x (List.mem_of_mem_take (List.mem_of_getElem? hx2))
      refine ⟨cz, _, rfl, (((pz.same bg.sb).same off_sub).same rs101).sq, rfl, _, _, rfl, _, _, rfl, rfl, rfl, _, rfl, lz2, fun t102 ot103 nt104 no105 => ?_⟩
      have r107 : Same H2 (upd H2 t102 (.frz ot103 (.tup [.str z, .int 8]))) := same_new nt104
      have ne108 : t102 ≠ sl := new_ne rs101 nt104
      have g109 : Gd K (off sl (upd H2 t102 (.frz ot103 (.tup [.str z, .int 8])))) 1 22 (.ref t102) := (Gd.tup (a := 0) (b := 10) (m := 2) ⟨ot103, by rw [off_ne ne108]; exact upd_same, no105⟩ (fun v hv => by
        simp only [List.mem_cons, List.not_mem_nil, or_false] at hv
        rcases hv with rfl | rfl
        · exact ((gd_str kz)).up (by decide) (by decide)
        · exact ((gd_int (by decide) (by decide))).up (by decide) (by decide)) (Nat.le_refl _)).up (by decide) (by decide)
      generalize (upd H2 t102 (.frz ot103 (.tup [.str z, .int 8]))) = K106 at r107 g109 ⊢
      have rq110 : Same H2 K106 := r107
      have rs111 : Same G K106 := rs101.trans r107
      exact fin _ _ rq110 (g109.hide (by rw [off_ne Dsl]; exact rq110 _ _ hD))
    rw [List.length_take] at ul2
    have rq3 : Same G H2 := rq1.trans s2
    have rs4 : Same G H2 := rs2.trans s2
    refine ⟨D, _, rfl, .inl ⟨SqL.of hD, fun t5 ot6 nt7 no8 => ?_⟩⟩
    have r9 : Same H2 (upd H2 t5 (.frz ot6 (.tup us2))) := same_new nt7
    have ne12 : t5 ≠ sl := new_ne rs4 nt7
    have g10 : Gd K (off sl (upd H2 t5 (.frz ot6 (.tup us2)))) 2 920 (.ref t5) := (Gd.tup (a := 1) (b := 22) (m := 40) ⟨ot6, by rw [off_ne ne12]; exact upd_same, no8⟩ (fun u h => (hu2 u h).same (off_sub.trans (off_mono r9))) (by omega)).up (by decide) (by decide)
    generalize (upd H2 t5 (.frz ot6 (.tup us2))) = K11 at r9 g10 ⊢
    have rq13 : Same G K11 := rq3.trans r9
    have rs14 : Same G K11 := rs4.trans r9
    refine ⟨_, rfl, .inl ⟨rfl, _, SqL.of (rs14 _ _ bg.h)⟩, Nat.zero_le _, fun t15 ot16 nt17 no18 => ?_⟩
    have r20 : Same K11 (upd K11 t15 (.frz ot16 (.tup []))) := same_new nt17
    have ne21 : t15 ≠ sl := new_ne rs14 nt17
    have g22 : Gd K (off sl (upd K11 t15 (.frz ot16 (.tup [])))) 1 0 (.ref t15) := (Gd.tup (a := 0) (b := 0) (m := 0) ⟨ot16, by rw [off_ne ne21]; exact upd_same, no18⟩ (fun v hv => by
      simp only [List.mem_cons, List.not_mem_nil, or_false] at hv) (Nat.le_refl _)).up (by decide) (by decide)
    generalize (upd K11 t15 (.frz ot16 (.tup []))) = K19 at r20 g22 ⊢
    replace g10 := g10.same (off_mono (p := sl) r20)
    have rq23 : Same G K19 := rq13.trans r20
    have rs24 : Same G K19 := rs14.trans r20
    refine ⟨_, rfl, ?_⟩
    refine lit_go (sl := sl) (acc := ac) (v0 := .ref l0) rfl rfl (line rs24) (rs24 _ _ bg.h) fun v25 K26 r27 g28 => ?_
    replace g10 := g10.same (off_mono (p := sl) r27)
    replace g22 := g22.same (off_mono (p := sl) r27)
    have rq29 : Same G K26 := rq23.trans r27
    have rs30 : Same G K26 := rs24.trans r27
    refine ⟨lz3, fun t31 ot32 nt33 no34 => ?_⟩
    have r36 : Same K26 (upd K26 t31 (.frz ot32 (.tup [.str "a", .ref t5, v25]))) := same_new nt33
    have ne37 : t31 ≠ sl := new_ne rs30 nt33
    have g38 : Gd K (off sl (upd K26 t31 (.frz ot32 (.tup [.str "a", .ref t5, v25])))) 5 2763 (.ref t31) := (Gd.tup (a := 4) (b := 920) (m := 3) ⟨ot32, by rw [off_ne ne37]; exact upd_same, no34⟩ (fun v hv => by
      simp only [List.mem_cons, List.not_mem_nil, or_false] at hv
      rcases hv with rfl | rfl | rfl
      · exact ((gd_str (by decide +kernel))).up (by decide) (by decide)
      · exact (g10.same (off_mono (p := sl) r36)).up (by decide) (by decide)
      · exact (g28.same (off_mono (p := sl) r36)).up (by decide) (by decide)) (Nat.le_refl _)).up (by decide) (by decide)
    generalize (upd K26 t31 (.frz ot32 (.tup [.str "a", .ref t5, v25]))) = K35 at r36 g38 ⊢
    replace g10 := g10.same (off_mono (p := sl) r36)
    replace g22 := g22.same (off_mono (p := sl) r36)
    replace g28 := g28.same (off_mono (p := sl) r36)
    have rq39 : Same G K35 := rq29.trans r36
    have rs40 : Same G K35 := rs30.trans r36
    refine ⟨lz1, fun t41 ot42 nt43 no44 => ?_⟩
    have r46 : Same K35 (upd K35 t41 (.frz ot42 (.tup [.ref t31]))) := same_new nt43
    have ne47 : t41 ≠ sl := new_ne rs40 nt43
    have g48 : Gd K (off sl (upd K35 t41 (.frz ot42 (.tup [.ref t31])))) 6 2764 (.ref t41) := (Gd.tup (a := 5) (b := 2763) (m := 1) ⟨ot42, by rw [off_ne ne47]; exact upd_same, no44⟩ (fun v hv => by
      simp only [List.mem_cons, List.not_mem_nil, or_false] at hv
      rcases hv with rfl
      · exact (g38.same (off_mono (p := sl) r46)).up (by decide) (by decide)) (Nat.le_refl _)).up (by decide) (by decide)
    generalize (upd K35 t41 (.frz ot42 (.tup [.ref t31]))) = K45 at r46 g48 ⊢
    replace g10 := g10.same (off_mono (p := sl) r46)
    replace g22 := g22.same (off_mono (p := sl) r46)
    replace g28 := g28.same (off_mono (p := sl) r46)
    replace g38 := g38.same (off_mono (p := sl) r46)
    have rq49 : Same G K45 := rq39.trans r46
    have rs50 : Same G K45 := rs40.trans r46
    refine ⟨lz2, fun t51 ot52 nt53 no54 => ?_⟩
    have r56 : Same K45 (upd K45 t51 (.frz ot52 (.tup [.ref t15, .ref t41]))) := same_new nt53
    have ne57 : t51 ≠ sl := new_ne rs50 nt53
    have g58 : Gd K (off sl (upd K45 t51 (.frz ot52 (.tup [.ref t15, .ref t41])))) 7 5530 (.ref t51) := (Gd.tup (a := 6) (b := 2764) (m := 2) ⟨ot52, by rw [off_ne ne57]; exact upd_same, no54⟩ (fun v hv => by
      simp only [List.mem_cons, List.not_mem_nil, or_false] at hv
      rcases hv with rfl | rfl
      · exact (g22.same (off_mono (p := sl) r56)).up (by decide) (by decide)
      · exact (g48.same (off_mono (p := sl) r56)).up (by decide) (by decide)) (Nat.le_refl _)).up (by decide) (by decide)
    generalize (upd K45 t51 (.frz ot52 (.tup [.ref t15, .ref t41]))) = K55 at r56 g58 ⊢
    replace g10 := g10.same (off_mono (p := sl) r56)
    replace g22 := g22.same (off_mono (p := sl) r56)
    replace g28 := g28.same (off_mono (p := sl) r56)
    replace g38 := g38.same (off_mono (p := sl) r56)
    replace g48 := g48.same (off_mono (p := sl) r56)
    have rq59 : Same G K55 := rq49.trans r56
    have rs60 : Same G K55 := rs50.trans r56
    exact ⟨sl, _, _, rfl, rfl, rs60 _ _ bg.h, LC.small_line (by omega), put _ _ _ _ _ _ _ _ _ rs60 (g58.up (by decide) (by decide))⟩
  obtain ⟨acc4, y33, y43, y63, y83, y93, y103, y113, rfl, bi4, _, al4⟩ := h
  refine ⟨lz2, fun m4 nm4 => ?_⟩
  have ms4 : Same _ (upd G4 m4 (.lst [.int 2000, .int 2001])) := same_new nm4
  have mne4 : m4 ≠ sl := fun e => by rw [e, bi4.h] at nm4; cases nm4
  have mh4 : off sl (upd G4 m4 (.lst [.int 2000, .int 2001])) m4 = some (.lst [.int 2000, .int 2001]) := by rw [off_ne mne4]; exact upd_same
  have bj4 := bi4.same ms4
  generalize upd G4 m4 (.lst [.int 2000, .int 2001]) = M4 at mh4 bj4 ⊢
  refine ⟨m4, rfl, ⟨_, SqL.of (off_sub _ _ mh4)⟩, for_list (xs := [.int 2000, .int 2001]) (fun i σ G => ∃ acc y3 y4 y6 y8 y9 y10 y11, σ = [some (.ref l0), some (.ref nm), some (.ref tl), y3, y4, some (.ref tt), y6, some (.ref sl), y8, y9, y10, y11] ∧ BI K B sl G acc ∧ Same (off sl M4) (off sl G) ∧ acc.length = 8 + i)
    ⟨acc4, _, _, _, _, _, _, _, rfl, bj4, Same.refl _, al4⟩ (fun i σ G _ h => ?_) (fun i x σ G hx h => ?_) (fun σ G5 h => ?_)⟩
  · obtain ⟨_, _, _, _, _, _, _, _, _, _, sm, _⟩ := h
    exact SqL.of (off_sub _ _ (sm _ _ mh4))
  · obtain ⟨ac, y3, y4, y6, y8, y9, y10, y11, rfl, bg, sm, al⟩ := h
    obtain ⟨m, rfl, hm⟩ : ∃ m : Nat, x = .int (m : Nat) ∧ 2000 ≤ m ∧ m ≤ 2001 := by
      have := List.mem_of_getElem? hx
      simp only [List.mem_cons, List.not_mem_nil, or_false] at this
      rcases this with rfl | rfl
      · exact ⟨2000, rfl, by decide, by decide⟩
      · exact ⟨2001, rfl, by decide, by decide⟩
    have i2 : i < 2 := (List.getElem?_eq_some_iff.mp hx).1
    have line : ∀ {G' : Hp}, Same G G' → Gd K (off sl G') 1 11 (.ref l0) := fun s => line5.same (bg.sb.trans (off_mono s))
    have new_ne : ∀ {G' : Hp} {t : Addr}, Same G G' → G' t = none → t ≠ sl := fun s n e => by rw [e, s _ _ bg.h] at n; cases n
    have put : ∀ (G' : Hp) (v : V) (z3 z4 z6 z8 z9 z10 z11 : Option V), Same G G' → Gd K (off sl G') 12 300000 v → ∃ acc y3 y4 y6 y8 y9 y10 y11, [some (.ref l0), some (.ref nm), some (.ref tl), z3, z4, some (.ref tt), z6, some (.ref sl), z8, z9, z10, z11] = [some (.ref l0), some (.ref nm), some (.ref tl), y3, y4, some (.ref tt), y6, some (.ref sl), y8, y9, y10, y11] ∧ BI K B sl (upd G' sl (.lst (ac ++ [v]))) acc ∧ Same (off sl M4) (off sl (upd G' sl (.lst (ac ++ [v])))) ∧ acc.length = 8 + (i + 1) := fun G' v z3 z4 z6 z8 z9 z10 z11 s hv =>
      ⟨_, _, _, _, _, _, _, _, rfl, (bg.same s).put hv, by rw [off_upd]; exact sm.trans (off_mono s), by rw [List.length_append, al]; rfl⟩
    have pat_sl : ∀ {G' : Hp}, Same G G' → PAt (off sl G') tt us ∧ SqT K G' tt us := fun s => ⟨htt.same (bg.sb.trans (off_mono s)), ((htt.same (bg.sb.trans (off_mono s))).same off_sub).sq⟩
    have gu_sl : ∀ {G' : Hp}, Same G G' → ∀ u ∈ us, Gd K (off sl G') 3 26 u := fun s u hu => (gtt u hu).same (bg.sb.trans (off_mono s))
    refine ⟨_, rfl, .inl ⟨rfl, _, SqL.of bg.h⟩, Nat.zero_le _, fun t1 ot2 nt3 no4 => ?_⟩
    have r6 : Same G (upd G t1 (.frz ot2 (.tup []))) := same_new nt3
    have ne7 : t1 ≠ sl := new_ne (Same.refl _) nt3
    have g8 : Gd K (off sl (upd G t1 (.frz ot2 (.tup [])))) 1 0 (.ref t1) := (Gd.tup (a := 0) (b := 0) (m := 0) ⟨ot2, by rw [off_ne ne7]; exact upd_same, no4⟩ (fun v hv => by
      simp only [List.mem_cons, List.not_mem_nil, or_false] at hv) (Nat.le_refl _)).up (by decide) (by decide)
    generalize (upd G t1 (.frz ot2 (.tup []))) = K5 at r6 g8 ⊢
    have rq9 : Same G K5 := r6
    have rs10 : Same G K5 := r6
    refine ⟨Nat.zero_le _, fun t11 ot12 nt13 no14 => ?_⟩
    have r16 : Same K5 (upd K5 t11 (.frz ot12 (.tup []))) := same_new nt13
    have ne17 : t11 ≠ sl := new_ne rs10 nt13
    have g18 : Gd K (off sl (upd K5 t11 (.frz ot12 (.tup [])))) 1 0 (.ref t11) := (Gd.tup (a := 0) (b := 0) (m := 0) ⟨ot12, by rw [off_ne ne17]; exact upd_same, no14⟩ (fun v hv => by
      simp only [List.mem_cons, List.not_mem_nil, or_false] at hv) (Nat.le_refl _)).up (by decide) (by decide)
    generalize (upd K5 t11 (.frz ot12 (.tup []))) = K15 at r16 g18 ⊢
    replace g8 := g8.same (off_mono (p := sl) r16)
    have rq19 : Same G K15 := rq9.trans r16
    have rs20 : Same G K15 := rs10.trans r16
    have ln0 : Gd K (off sl K15) 1 11 (.ref l0) := line rs20
    refine ⟨_, rfl, lz1, fun t21 ot22 nt23 no24 => ?_⟩
    have r26 : Same K15 (upd K15 t21 (.frz ot22 (.tup [.ref l0]))) := same_new nt23
    have ne27 : t21 ≠ sl := new_ne rs20 nt23
    have g28 : Gd K (off sl (upd K15 t21 (.frz ot22 (.tup [.ref l0])))) 2 12 (.ref t21) := (Gd.tup (a := 1) (b := 11) (m := 1) ⟨ot22, by rw [off_ne ne27]; exact upd_same, no24⟩ (fun v hv => by
      simp only [List.mem_cons, List.not_mem_nil, or_false] at hv
      rcases hv with rfl
      · exact (ln0.same (off_mono (p := sl) r26)).up (by decide) (by decide)) (Nat.le_refl _)).up (by decide) (by decide)
    have sqL : SqT K (upd K15 t21 (.frz ot22 (.tup [.ref l0]))) t21 [.ref l0] := PAt.sq ⟨ot22, upd_same, no24⟩
    generalize (upd K15 t21 (.frz ot22 (.tup [.ref l0]))) = K25 at r26 g28 sqL ⊢
    replace g8 := g8.same (off_mono (p := sl) r26)
    replace g18 := g18.same (off_mono (p := sl) r26)
    replace ln0 := ln0.same (off_mono (p := sl) r26)
    have rq29 : Same G K25 := rq19.trans r26
    have rs30 : Same G K25 := rs20.trans r26
    refine ⟨_, rfl, t21, m, _, rfl, rfl, sqL, by simp, by omega, by simp; omega, by simp, fun e => absurd e (by omega), fun _ t31 ot32 nt33 no34 => ?_⟩
    have r35 : Same K25 (upd K25 t31 (.frz ot32 (.tup (List.replicate m [V.ref l0]).flatten))) := same_new nt33
    have ne38 : t31 ≠ sl := new_ne rs30 nt33
    have flat : (List.replicate m [V.ref l0]).flatten = List.replicate m (V.ref l0) := by rw [List.flatten_replicate_singleton]
    have g36 : Gd K (off sl (upd K25 t31 (.frz ot32 (.tup (List.replicate m [V.ref l0]).flatten)))) 2 24012 (.ref t31) := (Gd.tup (a := 1) (b := 11) (m := 2001) ⟨ot32, by rw [off_ne ne38]; exact upd_same, no34⟩ (fun u h => by
      rw [flat] at h
      rw [(List.mem_replicate.mp h).2]
      exact ln0.same (off_mono r35)) (by rw [flat, List.length_replicate]; omega)).up (by decide) (by decide)
    generalize (upd K25 t31 (.frz ot32 (.tup (List.replicate m [V.ref l0]).flatten))) = K37 at r35 g36 ⊢
    replace g8 := g8.same (off_mono (p := sl) r35)
    replace g18 := g18.same (off_mono (p := sl) r35)
    replace ln0 := ln0.same (off_mono (p := sl) r35)
    replace g28 := g28.same (off_mono (p := sl) r35)
    have rq39 : Same G K37 := rq29.trans r35
    have rs40 : Same G K37 := rs30.trans r35
    refine ⟨lz2, fun t41 ot42 nt43 no44 => ?_⟩
    have r46 : Same K37 (upd K37 t41 (.frz ot42 (.tup [.str "m", .ref t31]))) := same_new nt43
    have ne47 : t41 ≠ sl := new_ne rs40 nt43
    have g48 : Gd K (off sl (upd K37 t41 (.frz ot42 (.tup [.str "m", .ref t31])))) 3 48026 (.ref t41) := (Gd.tup (a := 2) (b := 24012) (m := 2) ⟨ot42, by rw [off_ne ne47]; exact upd_same, no44⟩ (fun v hv => by
      simp only [List.mem_cons, List.not_mem_nil, or_false] at hv
      rcases hv with rfl | rfl
      · exact ((gd_str (by decide +kernel))).up (by decide) (by decide)
      · exact (g36.same (off_mono (p := sl) r46)).up (by decide) (by decide)) (Nat.le_refl _)).up (by decide) (by decide)
    generalize (upd K37 t41 (.frz ot42 (.tup [.str "m", .ref t31]))) = K45 at r46 g48 ⊢
    replace g8 := g8.same (off_mono (p := sl) r46)
    replace g18 := g18.same (off_mono (p := sl) r46)
    replace ln0 := ln0.same (off_mono (p := sl) r46)
    replace g28 := g28.same (off_mono (p := sl) r46)
    replace g36 := g36.same (off_mono (p := sl) r46)
    have rq49 : Same G K45 := rq39.trans r46
    have rs50 : Same G K45 := rs40.trans r46
    refine ⟨lz1, fun t51 ot52 nt53 no54 => ?_⟩
    have r56 : Same K45 (upd K45 t51 (.frz ot52 (.tup [.ref t41]))) := same_new nt53
    have ne57 : t51 ≠ sl := new_ne rs50 nt53
    have g58 : Gd K (off sl (upd K45 t51 (.frz ot52 (.tup [.ref t41])))) 4 48027 (.ref t51) := (Gd.tup (a := 3) (b := 48026) (m := 1) ⟨ot52, by rw [off_ne ne57]; exact upd_same, no54⟩ (fun v hv => by
      simp only [List.mem_cons, List.not_mem_nil, or_false] at hv
      rcases hv with rfl
      · exact (g48.same (off_mono (p := sl) r56)).up (by decide) (by decide)) (Nat.le_refl _)).up (by decide) (by decide)
    generalize (upd K45 t51 (.frz ot52 (.tup [.ref t41]))) = K55 at r56 g58 ⊢
    replace g8 := g8.same (off_mono (p := sl) r56)
    replace g18 := g18.same (off_mono (p := sl) r56)
    replace ln0 := ln0.same (off_mono (p := sl) r56)
    replace g28 := g28.same (off_mono (p := sl) r56)
    replace g36 := g36.same (off_mono (p := sl) r56)
    replace g48 := g48.same (off_mono (p := sl) r56)
    have rq59 : Same G K55 := rq49.trans r56
    have rs60 : Same G K55 := rs50.trans r56
    refine ⟨lz3, fun t61 ot62 nt63 no64 => ?_⟩
    have r66 : Same K55 (upd K55 t61 (.frz ot62 (.tup [.str "a", .ref t11, .ref t51]))) := same_new nt63
    have ne67 : t61 ≠ sl := new_ne rs60 nt63
    have g68 : Gd K (off sl (upd K55 t61 (.frz ot62 (.tup [.str "a", .ref t11, .ref t51])))) 5 144084 (.ref t61) := (Gd.tup (a := 4) (b := 48027) (m := 3) ⟨ot62, by rw [off_ne ne67]; exact upd_same, no64⟩ (fun v hv => by
      simp only [List.mem_cons, List.not_mem_nil, or_false] at hv
      rcases hv with rfl | rfl | rfl
      · exact ((gd_str (by decide +kernel))).up (by decide) (by decide)
      · exact (g18.same (off_mono (p := sl) r66)).up (by decide) (by decide)
      · exact (g58.same (off_mono (p := sl) r66)).up (by decide) (by decide)) (Nat.le_refl _)).up (by decide) (by decide)
    generalize (upd K55 t61 (.frz ot62 (.tup [.str "a", .ref t11, .ref t51]))) = K65 at r66 g68 ⊢
    replace g8 := g8.same (off_mono (p := sl) r66)
    replace g18 := g18.same (off_mono (p := sl) r66)
    replace ln0 := ln0.same (off_mono (p := sl) r66)
    replace g28 := g28.same (off_mono (p := sl) r66)
    replace g36 := g36.same (off_mono (p := sl) r66)
    replace g48 := g48.same (off_mono (p := sl) r66)
    replace g58 := g58.same (off_mono (p := sl) r66)
    have rq69 : Same G K65 := rq59.trans r66
    have rs70 : Same G K65 := rs60.trans r66
    refine ⟨lz1, fun t71 ot72 nt73 no74 => ?_⟩
    have r76 : Same K65 (upd K65 t71 (.frz ot72 (.tup [.ref t61]))) := same_new nt73
    have ne77 : t71 ≠ sl := new_ne rs70 nt73
    have g78 : Gd K (off sl (upd K65 t71 (.frz ot72 (.tup [.ref t61])))) 6 144085 (.ref t71) := (Gd.tup (a := 5) (b := 144084) (m := 1) ⟨ot72, by rw [off_ne ne77]; exact upd_same, no74⟩ (fun v hv => by
      simp only [List.mem_cons, List.not_mem_nil, or_false] at hv
      rcases hv with rfl
      · exact (g68.same (off_mono (p := sl) r76)).up (by decide) (by decide)) (Nat.le_refl _)).up (by decide) (by decide)
    generalize (upd K65 t71 (.frz ot72 (.tup [.ref t61]))) = K75 at r76 g78 ⊢
    replace g8 := g8.same (off_mono (p := sl) r76)
    replace g18 := g18.same (off_mono (p := sl) r76)
    replace ln0 := ln0.same (off_mono (p := sl) r76)
    replace g28 := g28.same (off_mono (p := sl) r76)
    replace g36 := g36.same (off_mono (p := sl) r76)
    replace g48 := g48.same (off_mono (p := sl) r76)
    replace g58 := g58.same (off_mono (p := sl) r76)
    replace g68 := g68.same (off_mono (p := sl) r76)
    have rq79 : Same G K75 := rq69.trans r76
    have rs80 : Same G K75 := rs70.trans r76
    refine ⟨lz2, fun t81 ot82 nt83 no84 => ?_⟩
    have r86 : Same K75 (upd K75 t81 (.frz ot82 (.tup [.ref t1, .ref t71]))) := same_new nt83
    have ne87 : t81 ≠ sl := new_ne rs80 nt83
    have g88 : Gd K (off sl (upd K75 t81 (.frz ot82 (.tup [.ref t1, .ref t71])))) 7 288172 (.ref t81) := (Gd.tup (a := 6) (b := 144085) (m := 2) ⟨ot82, by rw [off_ne ne87]; exact upd_same, no84⟩ (fun v hv => by
      simp only [List.mem_cons, List.not_mem_nil, or_false] at hv
      rcases hv with rfl | rfl
      · exact (g8.same (off_mono (p := sl) r86)).up (by decide) (by decide)
      · exact (g78.same (off_mono (p := sl) r86)).up (by decide) (by decide)) (Nat.le_refl _)).up (by decide) (by decide)
    generalize (upd K75 t81 (.frz ot82 (.tup [.ref t1, .ref t71]))) = K85 at r86 g88 ⊢
    replace g8 := g8.same (off_mono (p := sl) r86)
    replace g18 := g18.same (off_mono (p := sl) r86)
    replace ln0 := ln0.same (off_mono (p := sl) r86)
    replace g28 := g28.same (off_mono (p := sl) r86)
    replace g36 := g36.same (off_mono (p := sl) r86)
    replace g48 := g48.same (off_mono (p := sl) r86)
    replace g58 := g58.same (off_mono (p := sl) r86)
    replace g68 := g68.same (off_mono (p := sl) r86)
    replace g78 := g78.same (off_mono (p := sl) r86)
    have rq89 : Same G K85 := rq79.trans r86
    have rs90 : Same G K85 := rs80.trans r86
    exact ⟨sl, _, _, rfl, rfl, rs90 _ _ bg.h, LC.small_line (by omega), put _ _ _ _ _ _ _ _ _ rs90 (g88.up (by decide) (by decide))⟩
  obtain ⟨acc5, y34, y44, y64, y84, y94, y104, y114, rfl, bi5, _, al5⟩ := h
  have al10 : acc5.length = 10 := al5
  have lineF : Gd K (off sl G5) 1 11 (.ref l0) := line5.same bi5.sb
  refine ⟨_, rfl, lit_go (sl := sl) (acc := acc5) (v0 := .ref l0) rfl rfl lineF bi5.h fun v1 K1 r1 g1 => lit_go (sl := sl) (acc := acc5) (v0 := .ref l0) rfl rfl (lineF.same (off_mono r1)) (r1 _ _ bi5.h) fun v2 K2 r2 g2 => ⟨lz2, fun l2 nl2 => ?_⟩⟩
  have r3 : Same K2 (upd K2 l2 (.lst [v1, v2])) := same_new nl2
  have r13 := (r1.trans r2).trans r3
  refine ⟨sl, l2, _, _, rfl, rfl, r13 _ _ bi5.h, upd_same, ?_, fun L nL => ?_⟩
  · show acc5.length + 2 ≤ sizeLine
    exact Nat.le_of_lt (LC.small_line (by omega))
  · have r4 : Same (upd K2 l2 (.lst [v1, v2])) (upd (upd K2 l2 (.lst [v1, v2])) L (.lst (acc5 ++ [v1, v2]))) := same_new nL
    have sH : Same H G5 := s15.trans (bi5.sb.trans off_sub)
    refine q _ L _ ((sH.trans r13).trans r4) (same_none (sH.trans r13) nL) upd_same (by rw [List.length_append]; show acc5.length + 2 ≤ 100; omega) fun u hu => ?_
    rcases List.mem_append.mp hu with hu | hu
    · exact (bi5.ok u hu).same ((off_sub.trans r13).trans r4)
    · simp only [List.mem_cons, List.not_mem_nil, or_false] at hu
      rcases hu with rfl | rfl
      · exact (g1.same (off_sub.trans ((r2.trans r3).trans r4))).up (by decide) (by decide)
      · exact (g2.same (off_sub.trans (r3.trans r4))).up (by decide) (by decide)
end
end PP

set_option maxHeartbeats 4000000
namespace PP
open PySem PySem.Spec PyProof.Rows L2 G0 G3 G4 G5 M0 PA EE QA LC SX PT EN SA LT E8 EB EC
/-! an empty dict, looked at -/
theorem dict_ty {K : PySem.W.Frag} {H : Hp} {a : Addr} (h : H a = some (.dK [])) : TyX K H (.ref a) (.type "dict") := .base (.dK h)
theorem kit_dict (K : PySem.W.Frag) : PySem.W.kitOne K (.type "dict") (.type "tuple") = some false := by kernel_rfl
section
variable {X : Cx}
theorem call_reprE (gu : X.A.guards = some []) (ro : X.A.units + 64 < cLine) : CallR X (.builtin "repr") (fun xs H Q => ∃ a, xs = [.ref a] ∧ H a = some (.dK []) ∧ Q (.str (dictText [])) H) := by
  intro pins s σ H xs us Q I rel hyp
  obtain ⟨d, rfl, hd, fin⟩ := hyp
  obtain ⟨u, rfl, ru⟩ := vals1 rel
  obtain rfl : u = Value.ref d := ru
  obtain ⟨_, nsys, vs, kv, o, es, ep, eo, ex, dt, ks, prs, _⟩ := (show ObjOk X.prog X.w H s.heap d (.dK []) from I.hok d _ hd)
  cases kv
  have ent : ReprEntriesK X.prog X.w [] s.heap 0 es.toList [] := by
    generalize es.toList = l at prs
    cases prs
    exact .nil
  exact call_repr_slot (by omega) ⟨o, eo, ex.1⟩ F.slot_dict_repr (call_dict_reprK (d := 0) eo ex.1 dt nsys (by simp) ent gu (fun b _ => Clear.nil b) (by show X.A.units + 1 + 1 < cLine; omega) (fun _ _ e => e) (fun h' u tk k => ⟨_, _, rfl, .str _, H, I.kept k, ⟨_, rfl⟩, fin⟩) (by decide +kernel))
end
section
variable {P : Program} {w : World} {K : PySem.W.Frag} {mg : Str → Option Value} {base : Heap}
def spWrongE (K : PySem.W.Frag) : Sp := fun vs H Q _ => ∃ a, vs = [.ref a] ∧ H a = some (.dK []) ∧ ∀ t, H t = none → Q (.ref t) (upd H t (.tup [.non, .non, .non]))
theorem ok_wrongE {f : Addr} {fd : FuncData} {k : Nat} (F : Fun K "_law_wrong" "_law_wrong" s_law_wrong f fd) (DB : Def P w K mg base CX0 (k + 3) "_law_are_boxes" ["_law_item", "_law_most", "_law_size"] (spLBoxes K)) (DH : Def P w K mg base CX0 (k + 3) "_law_wrong_hand" ["_law_boxes", "_law_hands"] (spWHand K)) (DR : Def P w K mg base CX0 (k + 4) "_law_wrong_row" ["_law_boxes", "_law_hands"] (spWRow K))
    (m_isinstance : mg "isinstance" = none) (m_tuple : mg "tuple" = none) (m_len : mg "len" = none) : FnOk P w K mg base CX0 (k + 4 + 1) f fd ["_law_item"] (spWrongE K) := by
  refine F.ok scWrong (fun vs H Q E h => ?_) (fun cdv A outer s H vs Q E hr h => ?_)
  · obtain ⟨a, rfl, _⟩ := h
    rfl
  obtain ⟨a, rfl, ha, q⟩ := h
  have nd := scWrong.nd
  refine ⟨_, (pss_cons (ps_if (PW.pt (pw_or (pt_not (pt_val (pe_callB call_isi (by rfl) m_isinstance PyProof.Rows.boot_isinstance (pa_cons (pv 0) (pa_cons (pe_bltn (by rfl) m_tuple (u := .type "tuple") (by decide +kernel) (show RelV (.ty "tuple") (.type "tuple") from rfl)) pa_nil))))) (pw_or (pt_cmpR op_ne (pe_callB call_len_seq (by rfl) m_len PySem.boot_len (pa_cons (pv 0) pa_nil)) pe_int (nomark _)) (pw_or1 (pt_not (pt_val (pe_call DB.ok (hr.mono (by omega)) (by rfl) DB.g DB.kp DB.b .nil pass0 (pa_cons (pe_ix ix_tup (pv 0) pe_int (fun _ _ => rfl)) (pa_cons pe_int (pa_cons pe_int pa_nil)))))))))) (pss_one (ps_ret (pe_tup (pa_cons pe_non (pa_cons pe_non (pa_cons pe_non pa_nil)))))) pss_nil)
    (pss_cons (ps_if (PW.pt (pw_or (pt_not (pt_val (pe_callB call_isi (by rfl) m_isinstance PyProof.Rows.boot_isinstance (pa_cons (pe_ix ix_tup (pv 0) pe_int (fun _ _ => rfl)) (pa_cons (pe_bltn (by rfl) m_tuple (u := .type "tuple") (by decide +kernel) (show RelV (.ty "tuple") (.type "tuple") from rfl)) pa_nil))))) (pw_or1 (pt_not (pt_chain op_le op_le pe_int (pe_callB call_len_seq (by rfl) m_len PySem.boot_len (pa_cons (pe_ix ix_tup (pv 0) pe_int (fun _ _ => rfl)) pa_nil)) pe_int))))) (pss_one (ps_ret (pe_tup (pa_cons pe_non (pa_cons pe_non (pa_cons pe_non pa_nil)))))) pss_nil)
    (pss_one (ps_ret (pe_orT (pe_call DH.ok (hr.mono (by omega)) (by rfl) DH.g DH.kp DH.b .nil pass0 (pa_cons (pe_ix ix_tup (pv 0) pe_int (fun _ _ => rfl)) (pa_cons (pe_ix ix_tup (pv 0) pe_int (fun _ _ => rfl)) pa_nil))) (pe_one (pe_call DR.ok hr (by rfl) DR.g DR.kp DR.b .nil pass0 (pa_cons (pe_ix ix_tup (pv 0) pe_int (fun _ _ => rfl)) (pa_cons (pe_ix ix_tup (pv 0) pe_int (fun _ _ => rfl)) pa_nil))))))))), ?_⟩
  refine ⟨_, rfl, _, _, _, _, _, rfl, .ty "tuple", dict_ty ha, kit_dict K, _, rfl, ?_⟩
  exact iteT (iteT ⟨lz3, fun t nt => q t nt⟩)
def spLookE (K : PySem.W.Frag) (C : Addr) : Sp := fun vs H Q E => ∃ a, vs = [.ref a] ∧ H a = some (.dK []) ∧ ∀ dd H', H dd = none → Same H H' → H' dd = some (xNo .non .non .non) → E (.ref C) (some dd) H'
theorem ok_lookE {f : Addr} {fd : FuncData} {k : Nat} {t4 t8 t9 : Tok} (F : Fun K "look_at_program" "look_at_program" s_look_at_program f fd) (S : Err P w K mg base "NoProgram" ["hand", "text", "row"]) (DB : Def P w K mg base CX0 (k + 3) "are_boxes" ["thing", "most", "greatest", "sizes"] (spBoxesA K))
    (DC : Def P w K mg base (L2.CX P w) (k + 3) "scopes_of" ["common", "hands"] (spScopesA K S.C)) (DA : Def P w K mg base CX0 (k + 3) "are_all_rows" ["scopes"] (spAllA K)) (DX : Def P w K mg base (L2.CX P w) (k + 3) "refuse_first_wrong" ["scopes"] (spRefuse K S.C))
    (mi : mg "isinstance" = none) (mt : mg "tuple" = none) (ml : mg "len" = none) (m4 : mg "MOST_HANDS" = some (.int 4 t4)) (m8 : mg "MOST_COMMON" = some (.int 8 t8)) (m9 : mg "GREATEST_COMMON" = some (.int 4 t9)) :
    FnOk P w K mg base (L2.CX P w) (k + 3 + 1) f fd ["thing"] (spLookE K S.C) := by
  refine F.okX scLook (fun vs H Q E h => ?_) (fun cdv A outer s H vs Q E hr h => ?_)
  · obtain ⟨a, rfl, _⟩ := h
    rfl
  obtain ⟨a, rfl, ha, qt⟩ := h
  have nd := scLook.nd
  refine ⟨_, pss_cons (ps_if (PW.pt (pw_or (pt_not (pt_val (pe_callB call_isi (by rfl) mi PyProof.Rows.boot_isinstance (pa_cons (pv 0) (pa_cons (pe_bltn (by rfl) mt (u := .type "tuple") (by decide +kernel) (show RelV (.ty "tuple") (.type "tuple") from rfl)) pa_nil)))))
          (pw_or1 (pt_cmpR op_ne (pe_callB call_len_seq (by rfl) ml PySem.boot_len (pa_cons (pv 0) pa_nil)) pe_int (nomark _))))) (pss_one (ps_raiseN rfl (takes_of rfl rfl rfl rfl) S (hr.mono (by omega)) (by rfl) (pa_cons pe_non (pa_cons pe_non (pa_cons pe_non pa_nil))))) pss_nil)
    (pss_cons ps_dead (pss_cons ps_dead (pss_cons ps_dead (pss_cons ps_dead (pss_cons ps_dead (pss_one ps_dead)))))), ?_⟩
  refine ⟨_, rfl, _, _, _, _, _, rfl, .ty "tuple", dict_ty ha, kit_dict K, _, rfl, ?_⟩
  exact iteT (iteT ⟨by show 3 ≤ 1000; decide, rfl, by simp [E9.names], fun dd H' n1 s' h1 => qt dd H' n1 s' h1⟩)
def spToldE (K : PySem.W.Frag) : Sp := fun vs H Q _ => ∃ a, vs = [.ref a] ∧ H a = some (.dK []) ∧ ∀ H' u, Same H H' → Dp K H' u (toldD (tri .none .none .none)) → Q u H'
set_option maxHeartbeats 16000000 in
theorem ok_toldE {f : Addr} {fd : FuncData} {k : Nat} {cT : Addr} (F : Fun K "_law_told" "_law_told" s_law_told f fd) (S : Err P w K mg base "NoProgram" ["hand", "text", "row"]) (R : Def P w K mg base (L2.CX P w) (k + 4) "look_at_program" ["thing"] (spLookE K S.C))
    (gT : mg "TurnsError" = some (.ref cT)) (kt : PySem.W.kitOne K (.ref S.C) (.ref cT) = some true) (ex : PySem.W.exmOne K (.ref S.C) (.ref S.C) = some true) (m_isinstance : mg "isinstance" = none) : FnOk P w K mg base CX0 (k + 4 + 1) f fd ["_law_item"] (spToldE K) := by
  refine F.ok scTold (fun vs H Q E h => ?_) (fun cdv A outer s H vs Q E hr h => ?_)
  · obtain ⟨a, rfl, _⟩ := h
    rfl
  obtain ⟨a, rfl, ha, q⟩ := h
  have nd := scTold.nd
  refine ⟨_, pss_one (ps_try_as (i := 1) (c := .ref S.C) (tb := fun W => tRet (tCallS (spLookE K S.C) (WE W) (tCons (tVar 0) tNil))) (ts := fun a cls d => tRet (tLst (tCons (tCB (rIsS K S.C a cls d) (tCons (tVar 1) (tCons (tC (.ref cT)) tNil))) (tCons (tTup (tCons (tByE S.C a cls d "hand" (tVar 1)) (tCons (tByE S.C a cls d "text" (tVar 1)) (tCons (tByE S.C a cls d "row" (tVar 1)) tNil)))) tNil)))) rfl rfl nd rfl rfl ⟨by rfl, by decide, .inl S.g⟩ takes0
      (fun W pn xe tk po => pss_one (ps_ret (pe_callS R.ok hr (by rfl) R.g R.kp R.b (fun σ => passAt tk σ) (pa_cons (pv 0) pa_nil))))
      (fun a oe cls d pn hz hf => pss_one (ps_ret (pe_lst (pa_cons (pe_callB (call_isS S.E hz hf) (by rfl) m_isinstance PyProof.Rows.boot_isinstance (pa_cons (pv 1) (pa_cons (pe_glob (v := .ref cT) (by rfl) gT rfl) pa_nil))) (pa_cons (pe_tup (pa_cons (pe_byE S.E (S.fld "hand" (by simp)) hz hf (pv 1)) (pa_cons (pe_byE S.E (S.fld "text" (by simp)) hz hf (pv 1)) (pa_cons (pe_byE S.E (S.fld "row" (by simp)) hz hf (pv 1)) pa_nil)))) pa_nil)))))), ?_⟩
  refine ⟨_, rfl, a, rfl, ha, fun dd H' n1 s1 hdd => ⟨true, ex, fun _ e ne => ?_, fun z => nomatch z⟩⟩
  refine ⟨_, rfl, .ref cT, _, true, rfl, rfl, .inr ⟨dd, _, rfl, hdd⟩, .own cT, kt, _, rfl, rfl, rfl, dd, _, .non, rfl, hdd, rfl, _, rfl, rfl, rfl, dd, _, .non, rfl, hdd, rfl, _, rfl, rfl, rfl, dd, _, .non, rfl, hdd, rfl, lz3, fun t nt => ⟨lz2, fun l nl => ?_⟩⟩
  have st : Same H' (upd H' t (.tup [.non, .non, .non])) := same_new nt
  have sl2 : Same (upd H' t (.tup [.non, .non, .non])) (upd (upd H' t (.tup [.non, .non, .non])) l (.lst [.bl true, .ref t])) := same_new nl
  exact q _ _ (s1.trans (st.trans sl2)) (.lst (SqL.of upd_same) (.cons (.bl _) (.cons (.tup (SqT.of (sl2 _ _ upd_same)) (.cons .non (.cons .non (.cons .non .nil)))) .nil)))
def spRightE (K : PySem.W.Frag) : Sp := fun vs H Q _ => ∃ a, vs = [.ref a] ∧ H a = some (.dK []) ∧ ∀ H', Same H H' → Q (.bl true) H'
set_option maxHeartbeats 16000000 in
theorem ok_rightE {f : Addr} {fd : FuncData} {k : Nat} (F : Fun K "_law_right" "_law_right" s_law_right f fd) (DW : Def P w K mg base CX0 (k + 1) "_law_wrong" ["_law_item"] (spWrongE K)) (DT : Def P w K mg base CX0 (k + 1) "_law_told" ["_law_item"] (spToldE K)) (m_repr : mg "repr" = none) : FnG P w K mg base CX0 (k + 1 + 1) f fd ["_law_item"] (spRightE K) := by
  refine body_of0 F scRight (fun vs H Q E h => ?_) (fun cdv A outer s H vs Q E gu hr h => ?_)
  · obtain ⟨a, rfl, _⟩ := h
    rfl
  obtain ⟨a, rfl, ha, q⟩ := h
  have nd := scRight.nd
  refine ⟨_, (pss_cons (ps_set (i := 1) nd rfl (.inl rfl) (pe_call DW.ok hr (by rfl) DW.g DW.kp DW.b .nil pass0 (pa_cons (pv 0) pa_nil)))
    (pss_cons (ps_set (i := 2) nd rfl (.inl rfl) (pe_callB (call_reprE gu hr.units) (by rfl) m_repr (by decide +kernel) (pa_cons (pv 0) pa_nil)))
    (pss_one (ps_ret (pe_and (pe_cmpR op_eq (pe_callB (call_reprD gu hr.units) (by rfl) m_repr (by decide +kernel) (pa_cons (pe_call DT.ok hr (by rfl) DT.g DT.kp DT.b .nil pass0 (pa_cons (pv 0) pa_nil)) pa_nil)) (pe_callB (call_reprD gu hr.units) (by rfl) m_repr (by decide +kernel) (pa_cons (pe_ifExp (pt_cmpR op_isN (pv 1) pe_non (nomark _)) (pv 1) (pe_lst (pa_cons pe_bl (pa_cons (pv 1) pa_nil)))) pa_nil)) (nomark _)) (pe_one (pe_cmpR op_eq (pe_callB (call_reprE gu hr.units) (by rfl) m_repr (by decide +kernel) (pa_cons (pv 0) pa_nil)) (pv 2) (nomark _)))))))), ?_⟩
  have td : Told (tri .none .none .none) := tri_told non_ok non_ok non_ok
  have tdn : nice (toldD (tri .none .none .none)) = true ∧ (toldD (tri .none .none .none)).depth ≤ 60 ∧ (toldD (tri .none .none .none)).bulk ≤ 2 ^ 20 := by
    refine ⟨nice_list fun y hy => ?_, ?_, ?_⟩
    · simp only [List.mem_cons, List.not_mem_nil, or_false] at hy
      rcases hy with rfl | rfl
      · exact nice_bool true
      · exact td.nc
    · have := td.dp
      show (PyData.list [.bool true, tri .none .none .none]).depth ≤ 60
      simp only [PyData.depth, PyData.depthAll]
      omega
    · have := td.bk
      show (PyData.list [.bool true, tri .none .none .none]).bulk ≤ 2 ^ 20
      simp only [PyData.bulk, PyData.bulkAll]
      omega
  have fit2 : (toldD (tri .none .none .none)).shown.length ≤ sizeLine := nice_fits tdn.1 tdn.2.2
  refine ⟨_, rfl, a, rfl, ha, fun t nt => ?_⟩
  have s1 : Same H (upd H t (.tup [.non, .non, .non])) := same_new nt
  have ht : (upd H t (.tup [.non, .non, .non])) t = some (.tup [.non, .non, .non]) := upd_same
  generalize upd H t (.tup [.non, .non, .non]) = H1 at s1 ht ⊢
  have hu : Dp K H1 (.ref t) (tri .none .none .none) := .tup (SqT.of ht) (.cons .non (.cons .non (.cons .non .nil)))
  refine ⟨_, rfl, a, rfl, s1 _ _ ha, ?_⟩
  refine ⟨_, rfl, a, rfl, s1 _ _ ha, fun H2 u' s2 hu' => ?_⟩
  refine ⟨u', _, rfl, hu', nice_show tdn.1, tdn.2.1, fit2, ?_⟩
  refine ⟨_, rfl, rfl, _, rfl, ?_⟩
  rw [show decide (V.ref t = V.non) = false from decide_eq_false fun z => by cases z]
  refine iteF ⟨_, rfl, lz2, fun l nl => ?_⟩
  have sl : Same H2 (upd H2 l (.lst [.bl true, .ref t])) := same_new nl
  refine ⟨.ref l, .list [.bool true, tri .none .none .none], rfl, .lst (SqL.of upd_same) (.cons (.bl _) (.cons (dp_same (s2.trans sl) _ _ hu) .nil)), nice_show tdn.1, tdn.2.1, fit2, rfl, _, rfl, ?_⟩
  rw [show decide (V.str (toldD (tri .none .none .none)).shown = V.str (PyData.list [.bool true, tri .none .none .none]).shown) = true from decide_eq_true rfl]
  refine iteT ⟨_, rfl, a, rfl, sl _ _ (s2 _ _ (s1 _ _ ha)), _, rfl, rfl, ?_⟩
  rw [show decide (V.str (dictText []) = V.str (dictText [])) = true from decide_eq_true rfl]
  exact q _ ((s1.trans s2).trans sl)
theorem fnG_or {CX : CXT} {k : Nat} {f : Addr} {fd : FuncData} {ps : List Str} {sp sp2 : Sp} (F : FnG P w K mg base CX k f fd ps sp) (G : FnG P w K mg base CX k f fd ps sp2) : FnG P w K mg base CX k f fd ps (fun vs H Q E => sp vs H Q E ∨ sp2 vs H Q E) :=
  ⟨fun vs H Q E h => h.elim (F.len vs H Q E) (G.len vs H Q E), fun A outer s H args us vs Q E gu hr e0 b r h => h.elim (F.run A outer s H args us vs Q E gu hr e0 b r) (G.run A outer s H args us vs Q E gu hr e0 b r)⟩
end
end PP

set_option maxHeartbeats 4000000
namespace PP
open PySem PySem.Spec PyProof.Rows L2 G0 G1 G3 G4 G5 M0 PA EE QA LC SX PT EN SA LT
/-! ### the law's own body -/
def GI (K : PySem.W.Frag) (H : Hp) (v : V) : Prop := (∃ d, (∀ n, Dq K H n v d) ∧ Itm d) ∨ ∃ a, v = .ref a ∧ H a = some (.dK [])
theorem GI.same {K : PySem.W.Frag} {H H' : Hp} {v : V} (h : GI K H v) (s : Same H H') : GI K H' v := by
  rcases h with ⟨d, h1, h2⟩ | ⟨a, e, h⟩
  · exact .inl ⟨d, fun n => dq_same s _ _ (h1 n), h2⟩
  · exact .inr ⟨a, e, s _ _ h⟩
def tGi (K : PySem.W.Frag) : TE := fun σ H Q => ∀ v H', Same H H' → GI K H' v → Q v H'
def tGis (K : PySem.W.Frag) (m : Nat) : TA := fun σ H Q => ∀ vs H', Same H H' → (∀ v ∈ vs, GI K H' v) → vs.length = m → Q vs H'
def itmB (d : Dt) : Bool := nice d && (decide (d.depth ≤ 10) && decide (d.bulk ≤ 100))
theorem itm_by {d : Dt} (h : itmB d = true) : Itm d := by
  unfold itmB at h
  simp only [Bool.and_eq_true, decide_eq_true_eq] at h
  exact ⟨h.1, sl_bulk d (nice_lay h.1) (Nat.le_trans h.2.2 (by decide)), Nat.le_trans h.2.1 (by decide), Nat.le_trans h.2.2 (by decide)⟩
theorem It2.itm {a b : Nat} {d : Dt} (h : It2 a b d) (l1 : a ≤ 50) (l2 : b ≤ 2 ^ 20) : Itm d := ⟨h.nc, h.sl, Nat.le_trans h.dp l1, Nat.le_trans h.bk l2⟩
theorem view_id : View (fun H => H) (fun (_ : L2.St) _ => True) := ⟨fun _ _ _ _ _ _ => upd_same, fun _ _ _ _ _ n => same_new n, fun _ _ _ _ _ _ => trivial⟩
section
variable {X : Cx} {e : Expr} {es : List Expr} {d : Dt} {m : Nat}
theorem gi_of (he : PE X e (tDt X.K (fun H => H) (fun _ _ => True) d)) (hd : Itm d) : PE X e (tGi X.K) := pe_weak he fun σ H Q h => ⟨trivial, fun v H' _ w _ hv => h v H' w (.inl ⟨d, hv, hd⟩)⟩
theorem gi_new (he : PE X e (fun _ H Q => ∀ d, H d = none → Q (.ref d) (upd H d (.dK [])))) : PE X e (tGi X.K) := pe_weak he fun σ H Q h => fun d nd => h _ _ (same_new nd) (.inr ⟨d, rfl, upd_same⟩)
theorem gis_nil : PA X [] (tGis X.K 0) := pa_weak pa_nil fun σ H Q q => q [] H (Same.refl _) (fun _ z => nomatch z) rfl
theorem gis_cons (ha : PE X e (tGi X.K)) (hr : PA X es (tGis X.K m)) (hs : starEach (e :: es) X.env = (false, eval e X.env) :: starEach es X.env := by rfl) : PA X (e :: es) (tGis X.K (m + 1)) :=
  pa_weak (pa_cons ha hr hs) fun σ H Q q => fun v H1 s1 h1 vs H2 s2 h2 l => q (v :: vs) H2 (s1.trans s2) (fun u hu => by
    rcases List.mem_cons.mp hu with rfl | hu
    · exact h1.same s2
    · exact h2 u hu) (by rw [List.length_cons, l])
end
abbrev nLaw : List Str := ["_law_script", "_law_item", "_law_k", "_law_pool_here", "_law_prog", "_law_turn", "_law_bent_here"]
theorem scLaw : FnScope nLaw ["_law_script"] (defScope s_law) := ⟨rfl, rfl, rfl, by decide +kernel, rfl, by decide +kernel, by decide +kernel⟩
section
variable {P : Program} {w : World} {K : PySem.W.Frag} {mg : Str → Option Value} {base : Heap}
structure Facts (P : Program) (w : World) (K : PySem.W.Frag) (mg : Str → Option Value) (base : Heap) where
  dO : Def P w K mg base CX0 1 "_law_pool" ["_law_script", "_law_k"] (spPool K)
  dP : Def P w K mg base CX0 5 "_law_program" ["_law_pool_here", "_law_most", "_law_deep"] (spProg K)
  dB : Def P w K mg base CX0 1 "_law_bounds" [] (spBounds K)
  dR : DefG P w K mg base CX0 7 "_law_right" ["_law_item"] (fun vs H Q E => spRight K vs H Q E ∨ spRightE K vs H Q E)
  dT : Def P w K mg base CX0 22 "_law_bent" ["_law_pool_here", "_law_prog"] (spBent K)
  dL : Def P w K mg base CX0 5 "look_at_program" ["thing"] (spLook K)
  kL : KBinds K dL.d ["thing"] ["thing"] (fun us ws => us ++ ws) (fun vs zs => vs ++ zs)
  mlen : mg "len" = none
  mmax : mg "max" = none
  mmin : mg "min" = none
  mran : mg "range" = none
set_option maxHeartbeats 32000000 in
theorem law_body (X : Facts P w K mg base) {fa : Addr} {cdv : Value} {s : Shared} {H : Hp} {a : Addr} {ns : List Int} (hS : SqL K H a (ns.map V.int)) (hl : ns.length ≤ 63)
    (hr : Room 22 (callerA.deeper (envOfC "law" (defScope s_law) s.heap.objs.size fa cdv))) :
    ∃ t, PSs (cxOf CX0 P w K mg base nLaw "law" (defScope s_law) fa cdv callerA [] s H (fun _ _ _ => False)).nox (defBody s_law) t ∧ t { nx := fun _ _ => False, rt := fun v _ => v = .bl true } (start nLaw [.ref a]) H := by
  have nd := scLaw.nd
  have vw := view_id
  have m_len := X.mlen
  have m_range := X.mran
  refine ⟨_, (pss_cons (ps_for PassesOwn.never rfl (pi_list (pe_lst (gis_cons (gi_of (dt_leaf pe_non (fun n _ => .non n)) (itm_by (by decide +kernel))) (gis_cons (gi_of (dt_leaf pe_int (fun n _ => .int n _)) (itm_by (by decide +kernel))) (gis_cons (gi_of (dt_leaf pe_bl (fun n _ => .bl n _)) (itm_by (by decide +kernel))) (gis_cons (gi_of (dt_leaf pe_str (fun n _ => .str n _)) (itm_by (by decide +kernel))) (gis_cons (gi_of (dt_lst vw dts_nil (by decide)) (itm_by (by decide +kernel))) (gis_cons (gi_of (dt_tup vw dts_nil (by decide)) (itm_by (by decide +kernel))) (gis_cons (gi_of (dt_tup vw (dts_cons (dt_tup vw dts_nil (by decide)) (dts_cons (dt_tup vw dts_nil (by decide)) dts_nil)) (by decide)) (itm_by (by decide +kernel))) (gis_cons (gi_of (dt_tup vw (dts_cons (dt_tup vw dts_nil (by decide)) (dts_cons (dt_lst vw dts_nil (by decide)) (dts_cons (dt_tup vw dts_nil (by decide)) dts_nil))) (by decide)) (itm_by (by decide +kernel))) (gis_cons (gi_of (dt_tup vw (dts_cons (dt_tup vw dts_nil (by decide)) dts_nil) (by decide)) (itm_by (by decide +kernel))) (gis_cons (gi_new pe_dnewK) (gis_cons (gi_of (dt_tup vw (dts_cons (dt_lst vw dts_nil (by decide)) (dts_cons (dt_tup vw dts_nil (by decide)) dts_nil)) (by decide)) (itm_by (by decide +kernel))) (gis_cons (gi_of (dt_tup vw (dts_cons (dt_tup vw dts_nil (by decide)) (dts_cons (dt_tup vw (dts_cons (dt_leaf pe_str (fun n _ => .str n _)) dts_nil) (by decide)) dts_nil)) (by decide)) (itm_by (by decide +kernel))) gis_nil)))))))))))))) (pg_name (i := 1) nd rfl (.inl rfl))
      (pss_one (ps_if (pt_not (pt_val (pe_callG X.dR.ok rfl (hr.mono (by omega)) (by rfl) X.dR.g X.dR.kp X.dR.b pass0 (pa_cons (pv 1) pa_nil)))) (pss_one (ps_ret pe_bl)) pss_nil)))
    (pss_cons (ps_if (pt_cmpR (op_neD hr.units) (pe_lc (own := [("_law_item", 1)]) (g := (gName 1)) (te := tVar 1) (by rfl) nd (pi_list (pe_call0 X.dB.ok (hr.mono (by omega)) (by rfl) X.dB.g X.dB.kp X.dB.b .nil pass0)) (blkOk_by (N := nLaw) (sc := defScope s_law) (by decide +kernel)) (fun _ _ _ _ _ => (pg_name (i := 1) nd rfl (.inl rfl))) (fun _ _ _ _ _ => (pts_one  (pt_not (pt_val (pe_callG X.dR.ok rfl (hr.mono (by omega)) (by rfl) X.dR.g X.dR.kp X.dR.b pass0 (pa_cons (pv 1) pa_nil)))))) (fun _ _ _ _ _ => (pv 1))) (pe_lst pa_nil) (nomark _)) (pss_one (ps_ret pe_bl)) pss_nil)
    (pss_cons (ps_for PassesOwn.never rfl (pi_range1 (by rfl) X.mran (pa_cons (pe_callB (call_max2 rfl) (by rfl) X.mmax (by decide +kernel) (pa_cons pe_int (pa_cons (pe_callB (call_min2 rfl) (by rfl) X.mmin (by decide +kernel) (pa_cons (pe_callB call_len_seq (by rfl) X.mlen PySem.boot_len (pa_cons (pv 0) pa_nil)) (pa_cons pe_int pa_nil))) pa_nil))) pa_nil)) (pg_name (i := 2) nd rfl (.inl rfl))
      (pss_cons (ps_set (i := 3) nd rfl (.inl rfl) (pe_call X.dO.ok (hr.mono (by omega)) (by rfl) X.dO.g X.dO.kp X.dO.b .nil pass0 (pa_cons (pv 0) (pa_cons (pv 2) pa_nil))))
    (pss_cons (ps_set (i := 4) nd rfl (.inl rfl) (pe_call X.dP.ok (hr.mono (by omega)) (by rfl) X.dP.g X.dP.kp X.dP.b .nil pass0 (pa_cons (pv 3) (pa_cons pe_int (pa_cons pe_bl pa_nil)))))
    (pss_cons (ps_if (PW.pt (pw_or (pt_cmpR op_notN (pe_call X.dL.ok (hr.mono (by omega)) (by rfl) X.dL.g X.dL.kp X.dL.b .nil pass0 (pa_cons (pv 4) pa_nil)) pe_non (nomark _)) (pw_or1 (pt_cmpR op_notN (pe_named X.dL.ok (hr.mono (by omega)) (by rfl) X.dL.g X.dL.kp X.kL pass0 (pk_cons (pv 4) pk_nil)) pe_non (nomark _))))) (pss_one (ps_ret pe_bl)) pss_nil)
    (pss_one (ps_for PassesOwn.never rfl (pi_range1 (by rfl) m_range (pa_cons pe_int pa_nil)) (pg_name (i := 5) nd rfl (.inl rfl))
      (pss_cons (ps_set (i := 6) nd rfl (.inl rfl) (pe_call X.dT.ok hr (by rfl) X.dT.g X.dT.kp X.dT.b .nil pass0 (pa_cons (pv 3) (pa_cons (pv 4) pa_nil))))
    (pss_one (ps_if (PW.pt (pw_or (pt_not (pt_val (pe_callG X.dR.ok rfl (hr.mono (by omega)) (by rfl) X.dR.g X.dR.kp X.dR.b pass0 (pa_cons (pv 6) pa_nil)))) (pw_or1 (pt_not (pt_val (pe_callG X.dR.ok rfl (hr.mono (by omega)) (by rfl) X.dR.g X.dR.kp X.dR.b pass0 (pa_cons (pe_call X.dT.ok hr (by rfl) X.dT.g X.dT.kp X.dT.b .nil pass0 (pa_cons (pv 3) (pa_cons (pv 6) pa_nil))) pa_nil))))))) (pss_one (ps_ret pe_bl)) pss_nil)))))))))
    (pss_one (ps_ret pe_bl))))), ?_⟩
  refine fun vs H1 s1 hg lv => ⟨by rw [lv]; decide, fun l nl => ?_⟩
  have s2 : Same H1 (upd H1 l (.lst vs)) := same_new nl
  have hl0 : (upd H1 l (.lst vs)) l = some (.lst vs) := upd_same
  generalize upd H1 l (.lst vs) = H2 at s2 hl0 ⊢
  refine ⟨l, rfl, ⟨_, SqL.of hl0⟩, for_list (xs := vs) (fun i σ G => ∃ y1, σ = [some (.ref a), y1, none, none, none, none, none] ∧ Same H2 G) ⟨none, rfl, Same.refl _⟩ (fun i σ G _ h => ?_) (fun i x σ G hx h => ?_) (fun σ G h => ?_)⟩
  · obtain ⟨_, _, sm⟩ := h
    exact SqL.of (sm _ _ hl0)
  · obtain ⟨y1, rfl, sm⟩ := h
    rcases (hg x (List.mem_of_getElem? hx)).same (s2.trans sm) with ⟨d, hd, it⟩ | ⟨c, rfl, hc⟩
    · exact ⟨_, rfl, .inl ⟨x, d, rfl, hd 4, it, fun H' s' => ⟨_, rfl, iteF ⟨_, rfl, sm.trans s'⟩⟩⟩⟩
    · exact ⟨_, rfl, .inr ⟨c, rfl, hc, fun H' s' => ⟨_, rfl, iteF ⟨_, rfl, sm.trans s'⟩⟩⟩⟩
  obtain ⟨y1, rfl, sm⟩ := h
  have hS3 := ((s1.trans s2).trans sm).seq hS
  clear hg hl0 s1 s2 sm
  refine ⟨rfl, fun H3 L us s3 nL hL ul hu => ⟨L, rfl, ⟨_, SqL.of hL⟩, fun D nD => ?_⟩⟩
  refine lc_pick (walk_list (a := L) (xs := us) (K := K)) (fun H s => SqL.of (s _ _ hL)) (by omega) nD (us.map fun v => (false, v)) (by rw [List.length_map]) (fun i x b y H' R hx hy s fin => ?_) (fun H4 s4 hD => ?_)
  · rw [List.getElem?_map, hx] at hy
    cases hy
    obtain ⟨d, hd, it, _⟩ := (hu x (List.mem_of_getElem? hx)).same s
    exact ⟨rfl, _, rfl, .inl ⟨x, d, rfl, hd 4, it.itm (by decide) (by decide), fun H'' s'' => ⟨_, rfl, fin _ H'' s'' fun z => Bool.noConfusion z⟩⟩⟩
  have ep : picked (us.map fun v => (false, v)) = [] := by
    unfold picked
    rw [List.filter_map]
    simp [Function.comp]
  rw [ep] at hD
  refine ⟨Nat.zero_le _, fun e0 n0 => ?_⟩
  have s5 : Same H4 (upd H4 e0 (.lst [])) := same_new n0
  refine ⟨_, _, .lst (SqL.of (s5 _ _ hD)) .nil, .lst (SqL.of upd_same) .nil, nilL_shaped, nilL_shaped, _, rfl, ?_⟩
  rw [show PyData.eqv (.list []) (.list []) = true from rfl]
  have hS5 := ((s3.trans s4).trans s5).seq hS3
  generalize upd H4 e0 (.lst []) = H5 at hS5 ⊢
  clear s3 s4 s5 hD hL hu nD n0 nL hS3 ep
  refine iteF ⟨_, rfl, a, _, rfl, .inl hS5, _, _, rfl, _, _, rfl, ?_⟩
  obtain ⟨n, en, hn⟩ : ∃ n : Nat, (if (if (12 : Int) < ((ns.map V.int).length : Int) then (12 : Int) else ((ns.map V.int).length : Int)) > 1 then (if (12 : Int) < ((ns.map V.int).length : Int) then (12 : Int) else ((ns.map V.int).length : Int)) else 1) = (n : Int) ∧ n ≤ 12 := by
    refine ⟨(if (if (12 : Int) < ((ns.map V.int).length : Int) then (12 : Int) else ((ns.map V.int).length : Int)) > 1 then (if (12 : Int) < ((ns.map V.int).length : Int) then (12 : Int) else ((ns.map V.int).length : Int)) else 1).toNat, ?_, ?_⟩ <;> (split <;> split <;> omega)
  refine ⟨(n : Int), congrArg (fun z => [V.int z]) en, by omega, by omega, ?_⟩
  rw [show ((n : Int)).toNat = n from Int.toNat_natCast n]
  refine for_range (n := n) (fun i σ H3 => ∃ y1 y2 y3 y4 y5 y6, σ = [some (.ref a), y1, y2, y3, y4, y5, y6] ∧ SqL K H3 a (ns.map V.int)) ⟨_, _, _, _, _, _, rfl, hS5⟩ (fun i σ H1 hi hP => ?_) (fun σ H3 hP => ?_)
  · obtain ⟨y1, y2, y3, y4, y5, y6, rfl, hS1⟩ := hP
    refine ⟨_, rfl, _, rfl, a, ns, i, congrArg (fun z : Int => [V.ref a, V.int z]) (Int.zero_add (i : Int)), hS1, by omega, fun p x0 y0 np hx0 hy0 hy20 => ?_⟩
    have pl : Pool (upd H1 p (.lst [.int x0, .int y0])) p := ⟨x0, y0, upd_same, hx0, hy0, hy20⟩
    have sO : Same H1 (M0.off p (upd H1 p (.lst [.int x0, .int y0]))) := off_new np
    generalize upd H1 p (.lst [.int x0, .int y0]) = H2 at pl sO ⊢
    refine ⟨_, rfl, p, 3, rfl, pl, by decide, by decide, fun H4 u pr pl4 s4 hu ok few kn => ?_⟩
    have sP := sO.trans s4
    have sh := kn.short (by omega)
    have it : It2 8 30000 (progD pr) := ⟨(sh.nice ok).nc, sh.sl ok, prog_depth pr, (sh.nice ok).bk⟩
    refine ⟨_, rfl, u, pr, rfl, dq_dp _ _ (dq_same off_sub _ _ hu), ok, fun H5 s5 => ⟨rfl, _, rfl, ?_⟩⟩
    rw [show decide (V.non = V.non) = true from decide_eq_true rfl]
    have hu5 := dq_same (off_mono (p := p) s5) _ _ hu
    refine iteF ⟨_, rfl, u, pr, rfl, dq_dp _ _ (dq_same off_sub _ _ hu5), ok, fun H6 s6 => ⟨rfl, _, rfl, ?_⟩⟩
    rw [show decide (V.non = V.non) = true from decide_eq_true rfl]
    have hu6 := dq_same (off_mono (p := p) s6) _ _ hu5
    have s56 := s5.trans s6
    have pl6 := pool_same pl4 s56
    have sP6 := sP.trans (off_mono (p := p) s56)
    clear hu hu5 s5 s6 s56 pl pl4 s4 sO sP
    refine iteF ⟨10, rfl, by decide, by decide, for_range (n := 10) (fun j σ G => ∃ y5 y6, σ = [some (.ref a), y1, some (.int (0 + (i : Int))), some (.ref p), some u, y5, y6] ∧ Pool G p ∧ Same (off p H6) (off p G)) ⟨_, _, rfl, pl6, Same.refl _⟩ (fun j σ G hj hP => ?_) (fun σ G hP => ?_)⟩
    · obtain ⟨y5, y6, rfl, plG, sG⟩ := hP
      refine ⟨_, rfl, _, rfl, p, u, progD pr, 8, 30000, rfl, plG, dq_same sG _ _ hu6, it, by decide, by decide, fun H7 u1 e1 pl7 s7 hu1 it1 => ?_⟩
      refine ⟨_, rfl, .inl ⟨u1, e1, rfl, dq_same off_sub _ _ hu1, it1.itm (by decide) (by decide), fun H8 s8 => ⟨_, rfl, iteF ?_⟩⟩⟩
      have pl8 := pool_same pl7 s8
      have s8p := off_mono (p := p) s8
      refine ⟨_, rfl, _, rfl, p, u1, e1, 20, 90060, rfl, pl8, dq_same s8p _ _ hu1, it1.up (by decide) (by decide), by decide, by decide, fun H9 u2 e2 pl9 s9 hu2 it2 => ?_⟩
      exact .inl ⟨u2, e2, rfl, dq_same off_sub _ _ hu2, it2.itm (by decide) (by decide), fun H10 s10 => ⟨_, rfl, iteF ⟨_, _, rfl, pool_same pl9 s10, (sG.trans (s7.trans (s8p.trans s9))).trans (off_mono s10)⟩⟩⟩
    · obtain ⟨y5, y6, rfl, plG, sG⟩ := hP
      exact ⟨_, _, _, _, _, _, rfl, off_sub.seq ((sP6.trans sG).seq hS1)⟩
  · obtain ⟨y1, y2, y3, y4, y5, y6, rfl, hS3⟩ := hP
    rfl
end
end PP

set_option maxHeartbeats 8000000
namespace PP
open PySem PySem.Spec PyProof.Rows L2 G0 G1 G3 G4 G5 M0 PA EE QA E2 E3 E4 E5 E7 E8 E9 EB EC LC SX PT EN SA LT
section
variable {P : Program} {w : World} {K : PySem.W.Frag} {mg : Str → Option Value} {base h : Heap} {C fI : Addr} {fd : FuncData}
theorem scNoProgram : InitScope ["self", "hand", "text", "row"] ["self", "hand", "text", "row"] (defScope s_NoProgram) := ⟨rfl, rfl, rfl, by decide +kernel, rfl, by decide +kernel, by decide +kernel, by decide +kernel, rfl, rfl⟩
theorem mkNoProgram (X : K.In h) (G : h.Ns mainGlobals mg) (ms : PySem.W.nsIn K mainGlobals "super" = some none) (a : PySem.W.nsIn K mainGlobals "NoProgram" = some (some (.ref C))) (l : lookC K C fI "ValueError" "ValueError.__new__" "ValueError.__init__" [.type "ValueError", .type "Exception", .type "BaseException", .type "object"] ["hand", "text", "row"] = true)
    (F : InitFn P K C fI "NoProgram.__init__" (defArgs s_NoProgram) (defBody s_NoProgram) (defScope s_NoProgram) fd) : Nonempty (Err P w K mg base "NoProgram" ["hand", "text", "row"]) := by
  obtain ⟨T, E, fl⟩ := looked uValue l
  have F0 := F
  obtain ⟨oc, kV, doc, pm, cdv, ct, od, an, osl, cl, cc, ocl, occ, fv, file, tf, efd, _⟩ := F.ex
  subst efd
  have s0 := PySem.W.mg_none_of X G ms
  refine ⟨Err.mk C fI (fnCl "__init__" "NoProgram.__init__" (defArgs s_NoProgram) (defBody s_NoProgram) (defScope s_NoProgram) kV doc pm an cdv ct cl) _ _ _ _ _ (PySem.W.mg_of X G a) T E ?_ (fun f hf => (fl f hf).2) ?_ ?_⟩
  · exact ok3 T F0 scNoProgram rfl rfl s0 ⟨fun L => ⟨_, rfl⟩, fun L => rfl, fun L => rfl⟩ (nmOk (by decide)) (fl "hand" (by simp)).1 (nmOk (by decide)) (fl "text" (by simp)).1 (nmOk (by decide)) (fl "row" (by simp)).1
  · exact ⟨fun s us ws _ hl => match us, hl with | [a, b0, b1, b2], _ => .of_eq rfl, fun r _ => r⟩
  · exact ⟨fun s us ws _ hl => match us, ws, hl with | [a], w0 :: w1 :: w2 :: _, _ => .of_eq rfl | [a], [], h => by simp [kwG] at h | [a], [_], h => by simp [kwG] at h | [a], [_, _], h => by simp [kwG] at h | [], _, h => by simp [kwG] at h | _ :: _ :: _, _, h => by simp [kwG] at h, kw_rel⟩
theorem named1 {x z : Str} {st : Stmt} {f : Addr} (F : Fun K x x st f fd) (h : ∀ (oc : Value) (od : Option Addr) (kV doc pm cdv ct : Value) (an : Option Addr) (s : Shared) (v : Value), fd = PySem.W.fnOf x x (defArgs st) (defBody st) (defScope st) .none kV doc pm an cdv ct → BindsTo s fd ⟨[v], []⟩ [(z, v)] ∧ BindsTo s fd ⟨[], [(z, v)]⟩ [(z, v)]) : KBinds K fd [z] [z] (fun us ws => us ++ ws) (fun vs zs => vs ++ zs) := by
  obtain ⟨oc, od, kV, doc, pm, an, cdv, ct, osl, e, lk, hcd⟩ := F.ex
  refine ⟨fun s us ws _ hl => ?_, fun r1 r2 => r1.append r2⟩
  match us, ws, hl with
  | [], [v], _ => exact (h oc od kV doc pm cdv ct an s v e).2
  | [v], [], _ => exact (h oc od kV doc pm cdv ct an s v e).1
  | [], [], h => simp at h
  | _ :: _ :: _, _, h => simp at h
  | [_], _ :: _, h => simp at h
  | [], _ :: _ :: _, h => simp at h
end
theorem all_mk {P : Program} {w : World} {K : PySem.W.Frag} {h : Heap} {mg : Str → Option Value} {tk8 tkc tkg tko tkp tkh tkt tkr : Tok} {fa C fI cT fSO fWA fRW fBX fSC fAL fIR fRF fLK fPO fTK fLS fLR fLT fLP fCH fRO fPA fBE fNA fNU fLB fST fTE fGO fROW fHA fTX fWH fWR fWG fTD fRG fBN fZ : Addr} (X : K.In h) (G : h.Ns mainGlobals mg) (hfa : mg "law" = some (.ref fa))
    (qC : CAt P K "NoProgram" "NoProgram.__init__" s_NoProgram "ValueError" "ValueError.__new__" "ValueError.__init__" [.type "ValueError", .type "Exception", .type "BaseException", .type "object"] ["hand", "text", "row"] C fI) (xm : PySem.W.exmOne K (.ref C) (.ref C) = some true) (aT : PySem.W.nsIn K mainGlobals "TurnsError" = some (some (.ref cT))) (xt : PySem.W.kitOne K (.ref C) (.ref cT) = some true)
    (k8 : PySem.W.nsIn K mainGlobals "LONGEST_NAME" = some (some (.int 8 tk8))) (kc : PySem.W.nsIn K mainGlobals "MOST_COMMON" = some (some (.int 8 tkc))) (kg : PySem.W.nsIn K mainGlobals "GREATEST_COMMON" = some (some (.int 4 tkg))) (ko : PySem.W.nsIn K mainGlobals "MOST_OWN" = some (some (.int 24 tko))) (kp : PySem.W.nsIn K mainGlobals "GREATEST_OWN" = some (some (.int 8 tkp))) (kh : PySem.W.nsIn K mainGlobals "MOST_HANDS" = some (some (.int 4 tkh))) (kt : PySem.W.nsIn K mainGlobals "MOST_TEXTS" = some (some (.int 32 tkt))) (kr : PySem.W.nsIn K mainGlobals "MOST_ROWS" = some (some (.int 2000 tkr)))
    (aSO : At K "is_source" s_is_source fSO) (aWA : At K "are_ways" s_are_ways fWA) (aRW : At K "are_rows" s_are_rows fRW) (aBX : At K "are_boxes" s_are_boxes fBX) (aSC : At K "scopes_of" s_scopes_of fSC) (aAL : At K "are_all_rows" s_are_all_rows fAL) (aIR : At K "is_row_of" s_is_row_of fIR) (aRF : At K "refuse_first_wrong" s_refuse_first_wrong fRF) (aLK : At K "look_at_program" s_look_at_program fLK) (aPO : At K "_law_pool" s_law_pool fPO) (aTK : At K "_law_take" s_law_take fTK) (aLS : At K "_law_source" s_law_source fLS) (aLR : At K "_law_row" s_law_row fLR) (aLT : At K "_law_texts" s_law_texts fLT) (aLP : At K "_law_program" s_law_program fLP) (aCH : At K "_law_changed_at" s_law_changed_at fCH) (aRO : At K "_law_roads" s_law_roads fRO) (aPA : At K "_law_part_at" s_law_part_at fPA) (aBE : At K "_law_bent" s_law_bent fBE) (aNA : At K "_law_is_name" s_law_is_name fNA) (aNU : At K "_law_is_number" s_law_is_number fNU) (aLB : At K "_law_are_boxes" s_law_are_boxes fLB) (aST : At K "_law_is_set" s_law_is_set fST) (aTE : At K "_law_is_test" s_law_is_test fTE) (aGO : At K "_law_is_go" s_law_is_go fGO) (aROW : At K "_law_is_row" s_law_is_row fROW) (aHA : At K "_law_is_hand" s_law_is_hand fHA) (aTX : At K "_law_is_text" s_law_is_text fTX) (aWH : At K "_law_wrong_hand" s_law_wrong_hand fWH) (aWR : At K "_law_wrong_row" s_law_wrong_row fWR) (aWG : At K "_law_wrong" s_law_wrong fWG) (aTD : At K "_law_told" s_law_told fTD) (aRG : At K "_law_right" s_law_right fRG) (aBN : At K "_law_bounds" s_law_bounds fBN) (aZ : At K "law" s_law fZ)
    (z0 : PySem.W.nsIn K mainGlobals "len" = some none) (z1 : PySem.W.nsIn K mainGlobals "max" = some none) (z2 : PySem.W.nsIn K mainGlobals "min" = some none) (z3 : PySem.W.nsIn K mainGlobals "range" = some none) (z4 : PySem.W.nsIn K mainGlobals "repr" = some none) (z5 : PySem.W.nsIn K mainGlobals "isinstance" = some none) (z6 : PySem.W.nsIn K mainGlobals "int" = some none) (z7 : PySem.W.nsIn K mainGlobals "str" = some none) (z8 : PySem.W.nsIn K mainGlobals "bool" = some none) (z9 : PySem.W.nsIn K mainGlobals "tuple" = some none) (z10 : PySem.W.nsIn K mainGlobals "list" = some none) (z11 : PySem.W.nsIn K mainGlobals "sorted" = some none) (z12 : PySem.W.nsIn K mainGlobals "set" = some none) (z13 : PySem.W.nsIn K mainGlobals "dict" = some none) (z14 : PySem.W.nsIn K mainGlobals "enumerate" = some none) (z15 : PySem.W.nsIn K mainGlobals "abs" = some none) (z16 : PySem.W.nsIn K mainGlobals "super" = some none) (z17 : PySem.W.nsIn K mainGlobals "KeyError" = some none) :
    LawDef P w K mg 22 fa "_law_script" (fun H a ns => SqL K H a (ns.map V.int) ∧ ns.length ≤ 63) := by
  have e := hfa.symm.trans (PySem.W.mg_of X G aZ.1)
  cases e
  obtain ⟨dSO, FSO⟩ := aSO.fn
  obtain ⟨dWA, FWA⟩ := aWA.fn
  obtain ⟨dRW, FRW⟩ := aRW.fn
  obtain ⟨dBX, FBX⟩ := aBX.fn
  obtain ⟨dSC, FSC⟩ := aSC.fn
  obtain ⟨dAL, FAL⟩ := aAL.fn
  obtain ⟨dIR, FIR⟩ := aIR.fn
  obtain ⟨dRF, FRF⟩ := aRF.fn
  obtain ⟨dLK, FLK⟩ := aLK.fn
  obtain ⟨dPO, FPO⟩ := aPO.fn
  obtain ⟨dTK, FTK⟩ := aTK.fn
  obtain ⟨dLS, FLS⟩ := aLS.fn
  obtain ⟨dLR, FLR⟩ := aLR.fn
  obtain ⟨dLT, FLT⟩ := aLT.fn
  obtain ⟨dLP, FLP⟩ := aLP.fn
  obtain ⟨dCH, FCH⟩ := aCH.fn
  obtain ⟨dRO, FRO⟩ := aRO.fn
  obtain ⟨dPA, FPA⟩ := aPA.fn
  obtain ⟨dBE, FBE⟩ := aBE.fn
  obtain ⟨dNA, FNA⟩ := aNA.fn
  obtain ⟨dNU, FNU⟩ := aNU.fn
  obtain ⟨dLB, FLB⟩ := aLB.fn
  obtain ⟨dST, FST⟩ := aST.fn
  obtain ⟨dTE, FTE⟩ := aTE.fn
  obtain ⟨dGO, FGO⟩ := aGO.fn
  obtain ⟨dROW, FROW⟩ := aROW.fn
  obtain ⟨dHA, FHA⟩ := aHA.fn
  obtain ⟨dTX, FTX⟩ := aTX.fn
  obtain ⟨dWH, FWH⟩ := aWH.fn
  obtain ⟨dWR, FWR⟩ := aWR.fn
  obtain ⟨dWG, FWG⟩ := aWG.fn
  obtain ⟨dTD, FTD⟩ := aTD.fn
  obtain ⟨dRG, FRG⟩ := aRG.fn
  obtain ⟨dBN, FBN⟩ := aBN.fn
  have bSO := FSO.binds (ps := ["source", "size", "box", "sizes"]) fun _ _ _ _ _ _ us hl => match us, hl with | [_, _, _, _], _ => rfl
  have bWA := FWA.binds (ps := ["thing", "end"]) fun _ _ _ _ _ _ us hl => match us, hl with | [_, _], _ => rfl
  have bRW := FRW.binds (ps := ["rows", "end", "sizes", "texts", "hands", "name"]) fun _ _ _ _ _ _ us hl => match us, hl with | [_, _, _, _, _, _], _ => rfl
  have bBX := FBX.binds (ps := ["thing", "most", "greatest", "sizes"]) fun _ _ _ _ _ _ us hl => match us, hl with | [_, _, _, _], _ => rfl
  have bSC := FSC.binds (ps := ["common", "hands"]) fun _ _ _ _ _ _ us hl => match us, hl with | [_, _], _ => rfl
  have bAL := FAL.binds (ps := ["scopes"]) fun _ _ _ _ _ _ us hl => match us, hl with | [_], _ => rfl
  have bIR := FIR.binds (ps := ["scopes", "name", "end", "row"]) fun _ _ _ _ _ _ us hl => match us, hl with | [_, _, _, _], _ => rfl
  have bRF := FRF.binds (ps := ["scopes"]) fun _ _ _ _ _ _ us hl => match us, hl with | [_], _ => rfl
  have bLK := FLK.binds (ps := ["thing"]) fun _ _ _ _ _ _ us hl => match us, hl with | [_], _ => rfl
  have bPO := FPO.binds (ps := ["_law_script", "_law_k"]) fun _ _ _ _ _ _ us hl => match us, hl with | [_, _], _ => rfl
  have bTK := FTK.binds (ps := ["_law_pool_here", "_law_many"]) fun _ _ _ _ _ _ us hl => match us, hl with | [_, _], _ => rfl
  have bLS := FLS.binds (ps := ["_law_pool_here", "_law_boxes", "_law_box"]) fun _ _ _ _ _ _ us hl => match us, hl with | [_, _, _], _ => rfl
  have bLR := FLR.binds (ps := ["_law_pool_here", "_law_boxes", "_law_many", "_law_titles", "_law_others"]) fun _ _ _ _ _ _ us hl => match us, hl with | [_, _, _, _, _], _ => rfl
  have bLT := FLT.binds (ps := ["_law_pool_here", "_law_boxes", "_law_others", "_law_deep"]) fun _ _ _ _ _ _ us hl => match us, hl with | [_, _, _, _], _ => rfl
  have bLP := FLP.binds (ps := ["_law_pool_here", "_law_most", "_law_deep"]) fun _ _ _ _ _ _ us hl => match us, hl with | [_, _, _], _ => rfl
  have bCH := FCH.binds (ps := ["_law_item", "_law_road", "_law_new"]) fun _ _ _ _ _ _ us hl => match us, hl with | [_, _, _], _ => rfl
  have bRO := FRO.binds (ps := ["_law_item"]) fun _ _ _ _ _ _ us hl => match us, hl with | [_], _ => rfl
  have bPA := FPA.binds (ps := ["_law_item", "_law_road"]) fun _ _ _ _ _ _ us hl => match us, hl with | [_, _], _ => rfl
  have bBE := FBE.binds (ps := ["_law_pool_here", "_law_prog"]) fun _ _ _ _ _ _ us hl => match us, hl with | [_, _], _ => rfl
  have bNA := FNA.binds (ps := ["_law_item"]) fun _ _ _ _ _ _ us hl => match us, hl with | [_], _ => rfl
  have bNU := FNU.binds (ps := ["_law_item", "_law_low", "_law_high"]) fun _ _ _ _ _ _ us hl => match us, hl with | [_, _, _], _ => rfl
  have bLB := FLB.binds (ps := ["_law_item", "_law_most", "_law_size"]) fun _ _ _ _ _ _ us hl => match us, hl with | [_, _, _], _ => rfl
  have bST := FST.binds (ps := ["_law_sizes", "_law_line"]) fun _ _ _ _ _ _ us hl => match us, hl with | [_, _], _ => rfl
  have bTE := FTE.binds (ps := ["_law_sizes", "_law_line", "_law_many", "_law_size"]) fun _ _ _ _ _ _ us hl => match us, hl with | [_, _, _, _], _ => rfl
  have bGO := FGO.binds (ps := ["_law_line", "_law_many"]) fun _ _ _ _ _ _ us hl => match us, hl with | [_, _], _ => rfl
  have bROW := FROW.binds (ps := ["_law_sizes", "_law_titles", "_law_others", "_law_many", "_law_line"]) fun _ _ _ _ _ _ us hl => match us, hl with | [_, _, _, _, _], _ => rfl
  have bHA := FHA.binds (ps := ["_law_boxes", "_law_ahead", "_law_who"]) fun _ _ _ _ _ _ us hl => match us, hl with | [_, _, _], _ => rfl
  have bTX := FTX.binds (ps := ["_law_ahead", "_law_piece"]) fun _ _ _ _ _ _ us hl => match us, hl with | [_, _], _ => rfl
  have bWH := FWH.binds (ps := ["_law_boxes", "_law_hands"]) fun _ _ _ _ _ _ us hl => match us, hl with | [_, _], _ => rfl
  have bWR := FWR.binds (ps := ["_law_boxes", "_law_hands"]) fun _ _ _ _ _ _ us hl => match us, hl with | [_, _], _ => rfl
  have bWG := FWG.binds (ps := ["_law_item"]) fun _ _ _ _ _ _ us hl => match us, hl with | [_], _ => rfl
  have bTD := FTD.binds (ps := ["_law_item"]) fun _ _ _ _ _ _ us hl => match us, hl with | [_], _ => rfl
  have bRG := FRG.binds (ps := ["_law_item"]) fun _ _ _ _ _ _ us hl => match us, hl with | [_], _ => rfl
  have bBN := FBN.binds (ps := []) fun _ _ _ _ _ _ us hl => match us, hl with | [], _ => rfl
  have gSO := PySem.W.mg_of X G aSO.1
  have gWA := PySem.W.mg_of X G aWA.1
  have gRW := PySem.W.mg_of X G aRW.1
  have gBX := PySem.W.mg_of X G aBX.1
  have gSC := PySem.W.mg_of X G aSC.1
  have gAL := PySem.W.mg_of X G aAL.1
  have gIR := PySem.W.mg_of X G aIR.1
  have gRF := PySem.W.mg_of X G aRF.1
  have gLK := PySem.W.mg_of X G aLK.1
  have gPO := PySem.W.mg_of X G aPO.1
  have gTK := PySem.W.mg_of X G aTK.1
  have gLS := PySem.W.mg_of X G aLS.1
  have gLR := PySem.W.mg_of X G aLR.1
  have gLT := PySem.W.mg_of X G aLT.1
  have gLP := PySem.W.mg_of X G aLP.1
  have gCH := PySem.W.mg_of X G aCH.1
  have gRO := PySem.W.mg_of X G aRO.1
  have gPA := PySem.W.mg_of X G aPA.1
  have gBE := PySem.W.mg_of X G aBE.1
  have gNA := PySem.W.mg_of X G aNA.1
  have gNU := PySem.W.mg_of X G aNU.1
  have gLB := PySem.W.mg_of X G aLB.1
  have gST := PySem.W.mg_of X G aST.1
  have gTE := PySem.W.mg_of X G aTE.1
  have gGO := PySem.W.mg_of X G aGO.1
  have gROW := PySem.W.mg_of X G aROW.1
  have gHA := PySem.W.mg_of X G aHA.1
  have gTX := PySem.W.mg_of X G aTX.1
  have gWH := PySem.W.mg_of X G aWH.1
  have gWR := PySem.W.mg_of X G aWR.1
  have gWG := PySem.W.mg_of X G aWG.1
  have gTD := PySem.W.mg_of X G aTD.1
  have gRG := PySem.W.mg_of X G aRG.1
  have gBN := PySem.W.mg_of X G aBN.1
  have gT := PySem.W.mg_of X G aT
  have c8 := PySem.W.mg_of X G k8
  have cc := PySem.W.mg_of X G kc
  have cg := PySem.W.mg_of X G kg
  have co := PySem.W.mg_of X G ko
  have cp := PySem.W.mg_of X G kp
  have ch := PySem.W.mg_of X G kh
  have ct0 := PySem.W.mg_of X G kt
  have cr := PySem.W.mg_of X G kr
  have n0 := PySem.W.mg_none_of X G z0
  have n1 := PySem.W.mg_none_of X G z1
  have n2 := PySem.W.mg_none_of X G z2
  have n3 := PySem.W.mg_none_of X G z3
  have n4 := PySem.W.mg_none_of X G z4
  have n5 := PySem.W.mg_none_of X G z5
  have n6 := PySem.W.mg_none_of X G z6
  have n7 := PySem.W.mg_none_of X G z7
  have n8 := PySem.W.mg_none_of X G z8
  have n9 := PySem.W.mg_none_of X G z9
  have n10 := PySem.W.mg_none_of X G z10
  have n11 := PySem.W.mg_none_of X G z11
  have n12 := PySem.W.mg_none_of X G z12
  have n13 := PySem.W.mg_none_of X G z13
  have n14 := PySem.W.mg_none_of X G z14
  have n15 := PySem.W.mg_none_of X G z15
  have n16 := PySem.W.mg_none_of X G z16
  have n17 := PySem.W.mg_none_of X G z17
  obtain ⟨_, od, an, sl, oc, kV, dc, pm, cd, ct, l, c, k⟩ := aZ
  obtain ⟨u0, v0, w0, i0⟩ := qC
  have kL : KBinds K dLK ["thing"] ["thing"] (fun us ws => us ++ ws) (fun vs zs => vs ++ zs) := named1 FLK fun _ _ _ _ _ _ _ _ s v e => by subst e; exact ⟨.of_eq rfl, .of_eq rfl⟩
  refine ⟨_, "law", "law", defArgs s_law, defBody s_law, defScope s_law, .none, kV, dc, pm, cd, ct, oc, an, od, sl, nLaw, rfl, l, c, scLaw, fun s v => .of_eq rfl, fun base _ _ s H a ns hw hr => ?_⟩
  obtain ⟨e0⟩ := mkNoProgram (P := P) (w := w) (base := base) X G z16 u0 v0 i0
  have c0 : e0.C = C := Value.ref.inj (Option.some.inj (e0.g.symm.trans (PySem.W.mg_of X G u0)))
  have ex : PySem.W.exmOne K (.ref e0.C) (.ref e0.C) = some true := by rw [c0]; exact xm
  have et : PySem.W.kitOne K (.ref e0.C) (.ref cT) = some true := by rw [c0]; exact xt
  have SO2 : Def P w K mg base CX0 2 "is_source" ["source", "size", "box", "sizes"] (spSource K) := ⟨fSO, dSO, ok_source (k := 1) FSO n5 n7 n6 n0, gSO, FSO.kp, bSO⟩
  have WA2 : Def P w K mg base CX0 2 "are_ways" ["thing", "end"] (spWays K) := ⟨fWA, dWA, ok_ways (k := 1) FWA n5 n9 n6 n0, gWA, FWA.kp, bWA⟩
  have RW3 : Def P w K mg base CX0 3 "are_rows" ["rows", "end", "sizes", "texts", "hands", "name"] (spRows K) := ⟨fRW, dRW, ok_rows (k := 1) FRW SO2 WA2 n5 n9 n7 n6 n0, gRW, FRW.kp, bRW⟩
  have AL4 : Def P w K mg base CX0 4 "are_all_rows" ["scopes"] (spAll K) := ⟨fAL, dAL, ok_all (k := 2) FAL RW3 n0 n17, gAL, FAL.kp, bAL⟩
  have BX3 : Def P w K mg base CX0 3 "are_boxes" ["thing", "most", "greatest", "sizes"] (spBoxes K) := ⟨fBX, dBX, ok_boxes (k := 2) FBX n5 n9 n7 n6 n0 c8, gBX, FBX.kp, bBX⟩
  have BX4 : Def P w K mg base CX0 4 "are_boxes" ["thing", "most", "greatest", "sizes"] (spBoxes K) := ⟨fBX, dBX, ok_boxes (k := 3) FBX n5 n9 n7 n6 n0 c8, gBX, FBX.kp, bBX⟩
  have SC4 : Def P w K mg base CX0 4 "scopes_of" ["common", "hands"] (spScopes K) := ⟨fSC, dSC, ok_scopes (k := 2) FSC BX3 n5 n9 n7 n0 c8 co cp ct0 cr, gSC, FSC.kp, bSC⟩
  have SOA1 : Def P w K mg base (L2.CX P w) 1 "is_source" ["source", "size", "box", "sizes"] (spSourceA K) := ⟨fSO, dSO, ok_sourceA (k := 0) FSO n5 n7 n6 n0, gSO, FSO.kp, bSO⟩
  have WAA1 : Def P w K mg base CX0 1 "are_ways" ["thing", "end"] (spWaysA K) := ⟨fWA, dWA, ok_waysA (k := 0) FWA n5 n9 n6 n0, gWA, FWA.kp, bWA⟩
  have RWA2 : Def P w K mg base (L2.CX P w) 2 "are_rows" ["rows", "end", "sizes", "texts", "hands", "name"] (spRowsA K) := ⟨fRW, dRW, ok_rowsA (k := 0) FRW SOA1 WAA1 n5 n9 n7 n6 n0, gRW, FRW.kp, bRW⟩
  have RWA3 : Def P w K mg base (L2.CX P w) 3 "are_rows" ["rows", "end", "sizes", "texts", "hands", "name"] (spRowsA K) := ⟨fRW, dRW, ok_rowsA (k := 1) FRW ⟨fSO, dSO, ok_sourceA (k := 1) FSO n5 n7 n6 n0, gSO, FSO.kp, bSO⟩ ⟨fWA, dWA, ok_waysA (k := 1) FWA n5 n9 n6 n0, gWA, FWA.kp, bWA⟩ n5 n9 n7 n6 n0, gRW, FRW.kp, bRW⟩
  have BXA3 : Def P w K mg base CX0 3 "are_boxes" ["thing", "most", "greatest", "sizes"] (spBoxesA K) := ⟨fBX, dBX, ok_boxesA (k := 2) FBX n5 n9 n7 n6 n0 c8, gBX, FBX.kp, bBX⟩
  have BXA4 : Def P w K mg base CX0 4 "are_boxes" ["thing", "most", "greatest", "sizes"] (spBoxesA K) := ⟨fBX, dBX, ok_boxesA (k := 3) FBX n5 n9 n7 n6 n0 c8, gBX, FBX.kp, bBX⟩
  have SCA4 : Def P w K mg base (L2.CX P w) 4 "scopes_of" ["common", "hands"] (spScopesA K e0.C) := ⟨fSC, dSC, ok_scopesA (k := 1) FSC e0 BXA3 n5 n9 n7 n0 c8 co cp ct0 cr, gSC, FSC.kp, bSC⟩
  have ALA4 : Def P w K mg base CX0 4 "are_all_rows" ["scopes"] (spAllA K) := ⟨fAL, dAL, ok_allA (k := 2) FAL RWA3 n0 n17, gAL, FAL.kp, bAL⟩
  have IR3 : Def P w K mg base CX0 3 "is_row_of" ["scopes", "name", "end", "row"] (spIsRow K) := ⟨fIR, dIR, ok_isRow (k := 1) FIR RWA2 n17, gIR, FIR.kp, bIR⟩
  have RF4 : Def P w K mg base (L2.CX P w) 4 "refuse_first_wrong" ["scopes"] (spRefuse K e0.C) := ⟨fRF, dRF, ok_refuse (k := 1) FRF e0 IR3 n14 n0, gRF, FRF.kp, bRF⟩
  have LKA5 : Def P w K mg base (L2.CX P w) 5 "look_at_program" ["thing"] (spLookA K e0.C) := ⟨fLK, dLK, ok_lookA (k := 1) FLK e0 BXA4 SCA4 ALA4 RF4 n5 n9 n0 ch cc cg, gLK, FLK.kp, bLK⟩
  have LKE5 : Def P w K mg base (L2.CX P w) 5 "look_at_program" ["thing"] (spLookE K e0.C) := ⟨fLK, dLK, ok_lookE (k := 1) FLK e0 BXA4 SCA4 ALA4 RF4 n5 n9 n0 ch cc cg, gLK, FLK.kp, bLK⟩
  have NU1 : Def P w K mg base CX0 1 "_law_is_number" ["_law_item", "_law_low", "_law_high"] (spLNum K) := ⟨fNU, dNU, ok_lnum (k := 0) FNU n5 n6 n8, gNU, FNU.kp, bNU⟩
  have NU2 : Def P w K mg base CX0 2 "_law_is_number" ["_law_item", "_law_low", "_law_high"] (spLNum K) := ⟨fNU, dNU, ok_lnum (k := 1) FNU n5 n6 n8, gNU, FNU.kp, bNU⟩
  have NU3 : Def P w K mg base CX0 3 "_law_is_number" ["_law_item", "_law_low", "_law_high"] (spLNum K) := ⟨fNU, dNU, ok_lnum (k := 2) FNU n5 n6 n8, gNU, FNU.kp, bNU⟩
  have NA1 : Def P w K mg base CX0 1 "_law_is_name" ["_law_item"] (spLName K) := ⟨fNA, dNA, ok_lname (k := 0) FNA n5 n7 n0, gNA, FNA.kp, bNA⟩
  have NA2 : Def P w K mg base CX0 2 "_law_is_name" ["_law_item"] (spLName K) := ⟨fNA, dNA, ok_lname (k := 1) FNA n5 n7 n0, gNA, FNA.kp, bNA⟩
  have NA3 : Def P w K mg base CX0 3 "_law_is_name" ["_law_item"] (spLName K) := ⟨fNA, dNA, ok_lname (k := 2) FNA n5 n7 n0, gNA, FNA.kp, bNA⟩
  have LB2 : Def P w K mg base CX0 2 "_law_are_boxes" ["_law_item", "_law_most", "_law_size"] (spLBoxes K) := ⟨fLB, dLB, ok_lboxes (k := 0) FLB NA1 NU1 n5 n9 n0 n12, gLB, FLB.kp, bLB⟩
  have LB4 : Def P w K mg base CX0 4 "_law_are_boxes" ["_law_item", "_law_most", "_law_size"] (spLBoxes K) := ⟨fLB, dLB, ok_lboxes (k := 2) FLB NA3 NU3 n5 n9 n0 n12, gLB, FLB.kp, bLB⟩
  have ST3 : Def P w K mg base CX0 3 "_law_is_set" ["_law_sizes", "_law_line"] (spLSet K) := ⟨fST, dST, ok_lset (k := 1) FST NU2 n5 n9 n0 n7, gST, FST.kp, bST⟩
  have TE3 : Def P w K mg base CX0 3 "_law_is_test" ["_law_sizes", "_law_line", "_law_many", "_law_size"] (spLTest K) := ⟨fTE, dTE, ok_ltest (k := 1) FTE NU2 n5 n0 n7, gTE, FTE.kp, bTE⟩
  have GO3 : Def P w K mg base CX0 3 "_law_is_go" ["_law_line", "_law_many"] (spLGo K) := ⟨fGO, dGO, ok_lgo (k := 1) FGO NU2 n5 n9 n0 n10 n11 n12, gGO, FGO.kp, bGO⟩
  have ROW4 : Def P w K mg base CX0 4 "_law_is_row" ["_law_sizes", "_law_titles", "_law_others", "_law_many", "_law_line"] (spLRow K) := ⟨fROW, dROW, ok_lrow (k := 1) FROW ST3 TE3 GO3 n5 n9 n7 n0 n6, gROW, FROW.kp, bROW⟩
  have HA3 : Def P w K mg base CX0 3 "_law_is_hand" ["_law_boxes", "_law_ahead", "_law_who"] (spLHand K) := ⟨fHA, dHA, ok_lhand (k := 0) FHA NA2 LB2 n5 n9 n0 n13, gHA, FHA.kp, bHA⟩
  have TX3 : Def P w K mg base CX0 3 "_law_is_text" ["_law_ahead", "_law_piece"] (spLText K) := ⟨fTX, dTX, ok_ltext (k := 1) FTX NA2 n5 n9 n0, gTX, FTX.kp, bTX⟩
  have WH4 : Def P w K mg base CX0 4 "_law_wrong_hand" ["_law_boxes", "_law_hands"] (spWHand K) := ⟨fWH, dWH, ok_whand (k := 1) FWH HA3 TX3 n14, gWH, FWH.kp, bWH⟩
  have WR5 : Def P w K mg base CX0 5 "_law_wrong_row" ["_law_boxes", "_law_hands"] (spWRow K) := ⟨fWR, dWR, ok_wrow (k := 1) FWR ROW4 n14 n13 n0, gWR, FWR.kp, bWR⟩
  have WG6 : Def P w K mg base CX0 6 "_law_wrong" ["_law_item"] (spWrong K) := ⟨fWG, dWG, ok_wrong (k := 1) FWG LB4 WH4 WR5 n5 n9 n0, gWG, FWG.kp, bWG⟩
  have WGE6 : Def P w K mg base CX0 6 "_law_wrong" ["_law_item"] (spWrongE K) := ⟨fWG, dWG, ok_wrongE (k := 1) FWG LB4 WH4 WR5 n5 n9 n0, gWG, FWG.kp, bWG⟩
  have TD6 : Def P w K mg base CX0 6 "_law_told" ["_law_item"] (spTold K) := ⟨fTD, dTD, ok_told (k := 1) FTD e0 LKA5 gT et ex n5, gTD, FTD.kp, bTD⟩
  have TDE6 : Def P w K mg base CX0 6 "_law_told" ["_law_item"] (spToldE K) := ⟨fTD, dTD, ok_toldE (k := 1) FTD e0 LKE5 gT et ex n5, gTD, FTD.kp, bTD⟩
  have RG7 : DefG P w K mg base CX0 7 "_law_right" ["_law_item"] (fun vs H Q E => spRight K vs H Q E ∨ spRightE K vs H Q E) := ⟨fRG, dRG, fnG_or (ok_right (k := 5) FRG WG6 TD6 n4) (ok_rightE (k := 5) FRG WGE6 TDE6 n4), gRG, FRG.kp, bRG⟩
  have TK1 : Def P w K mg base CX0 1 "_law_take" ["_law_pool_here", "_law_many"] spTake := ⟨fTK, dTK, ok_take (k := 0) FTK, gTK, FTK.kp, bTK⟩
  have TK2 : Def P w K mg base CX0 2 "_law_take" ["_law_pool_here", "_law_many"] spTake := ⟨fTK, dTK, ok_take (k := 1) FTK, gTK, FTK.kp, bTK⟩
  have TK3 : Def P w K mg base CX0 3 "_law_take" ["_law_pool_here", "_law_many"] spTake := ⟨fTK, dTK, ok_take (k := 2) FTK, gTK, FTK.kp, bTK⟩
  have TK4 : Def P w K mg base CX0 4 "_law_take" ["_law_pool_here", "_law_many"] spTake := ⟨fTK, dTK, ok_take (k := 3) FTK, gTK, FTK.kp, bTK⟩
  have LS2 : Def P w K mg base CX0 2 "_law_source" ["_law_pool_here", "_law_boxes", "_law_box"] (spSrc K) := ⟨fLS, dLS, ok_src (k := 0) FLS TK1 n0, gLS, FLS.kp, bLS⟩
  have LR3 : Def P w K mg base CX0 3 "_law_row" ["_law_pool_here", "_law_boxes", "_law_many", "_law_titles", "_law_others"] (spRow K) := ⟨fLR, dLR, ok_row (k := 1) FLR TK2 LS2 n0 n9 n11 n12 n6, gLR, FLR.kp, bLR⟩
  have LT4 : Def P w K mg base CX0 4 "_law_texts" ["_law_pool_here", "_law_boxes", "_law_others", "_law_deep"] (spTexts K) := ⟨fLT, dLT, ok_texts (k := 2) FLT TK3 LR3 n14 n9 n3, gLT, FLT.kp, bLT⟩
  have LP5 : Def P w K mg base CX0 5 "_law_program" ["_law_pool_here", "_law_most", "_law_deep"] (spProg K) := ⟨fLP, dLP, ok_prog (k := 3) FLP TK4 LT4 n6 n9 n10, gLP, FLP.kp, bLP⟩
  have PO1 : Def P w K mg base CX0 1 "_law_pool" ["_law_script", "_law_k"] (spPool K) := ⟨fPO, dPO, ok_pool (k := 0) FPO n0 n15 n6, gPO, FPO.kp, bPO⟩
  have RO21 : Def P w K mg base CX0 21 "_law_roads" ["_law_item"] (spRoads K 20) := ⟨fRO, dRO, ok_roads FRO ⟨gRO, FRO.kp, bRO⟩ n5 n9 n14 20, gRO, FRO.kp, bRO⟩
  have CH21 : Def P w K mg base CX0 21 "_law_changed_at" ["_law_item", "_law_road", "_law_new"] (spChAt K 20) := ⟨fCH, dCH, ok_chat FCH ⟨gCH, FCH.kp, bCH⟩ 20, gCH, FCH.kp, bCH⟩
  have PA1 : Def P w K mg base CX0 1 "_law_part_at" ["_law_item", "_law_road"] (spPartAt K) := ⟨fPA, dPA, ok_partat (k := 0) FPA, gPA, FPA.kp, bPA⟩
  have BE22 : Def P w K mg base CX0 22 "_law_bent" ["_law_pool_here", "_law_prog"] (spBent K) := ⟨fBE, dBE, ok_bent FBE TK1 RO21 PA1 CH21 n5 n9 n10 n0, gBE, FBE.kp, bBE⟩
  have BN1 : Def P w K mg base CX0 1 "_law_bounds" [] (spBounds K) := ⟨fBN, dBN, ok_bounds (k := 0) FBN n9, gBN, FBN.kp, bBN⟩
  obtain ⟨t, h1, h2⟩ := law_body (P := P) (w := w) (K := K) (mg := mg) (base := base)
    { dO := PO1, dP := LP5, dB := BN1, dR := RG7, dT := BE22, dL := ⟨fLK, dLK, ok_look (k := 3) FLK BX4 SC4 AL4 n5 n9 n0 ch cc cg, gLK, FLK.kp, bLK⟩, kL := kL, mlen := n0, mmax := n1, mmin := n2, mran := n3 } hw.1 hw.2 hr
  exact ⟨t, h1.nox, h2⟩
end PP

set_option maxHeartbeats 0
open PySem PySem.W PyProof.Rows
open_top head01 for PySem.Challenge.rw_fewturnsover_k01_programs_looked_at

open PySem PySem.W PyProof.Rows
set_option maxHeartbeats 0 in
theorem PySem.Challenge.cw_fewturnsover_k01_programs_looked_at_holds : PySem.Challenge.rw_fewturnsover_k01_programs_looked_at.Holds := by
  exact head01 (by
  k_fill
  refine G2.walk_G (l := PySem.Challenge.rw_fewturnsover_k01_programs_looked_at) (n := 63) (k := 22) (x := "_law_script") (fun K H a ns => L2.SqL K H a (ns.map L2.V.int) ∧ ns.length ≤ 63) rfl (by decide) rfl ⟨rfl, by decide, by decide⟩ (fun w h Y => PySem.W.kIn_of Y) ?F (fun _ _ _ _ hl _ hS => ⟨hS, hl⟩)
  case F =>
    intro w mg fa h KX G hmg
    refine' PP.all_mk KX G hmg (EE.cat_mk ?ca ?ci ?cl ?cc ?cm ?cn ?co ?cp ?cs ?cq) ?xm ?aT ?xt ?m8 ?mc ?mg ?mo ?mp ?mh ?mt ?mr (EE.at_mk ?a0 ?b0 ?c0 ?d0) (EE.at_mk ?a1 ?b1 ?c1 ?d1) (EE.at_mk ?a2 ?b2 ?c2 ?d2) (EE.at_mk ?a3 ?b3 ?c3 ?d3) (EE.at_mk ?a4 ?b4 ?c4 ?d4) (EE.at_mk ?a5 ?b5 ?c5 ?d5) (EE.at_mk ?a6 ?b6 ?c6 ?d6) (EE.at_mk ?a7 ?b7 ?c7 ?d7) (EE.at_mk ?a8 ?b8 ?c8 ?d8) (EE.at_mk ?a9 ?b9 ?c9 ?d9) (EE.at_mk ?a10 ?b10 ?c10 ?d10) (EE.at_mk ?a11 ?b11 ?c11 ?d11) (EE.at_mk ?a12 ?b12 ?c12 ?d12) (EE.at_mk ?a13 ?b13 ?c13 ?d13) (EE.at_mk ?a14 ?b14 ?c14 ?d14) (EE.at_mk ?a15 ?b15 ?c15 ?d15) (EE.at_mk ?a16 ?b16 ?c16 ?d16) (EE.at_mk ?a17 ?b17 ?c17 ?d17) (EE.at_mk ?a18 ?b18 ?c18 ?d18) (EE.at_mk ?a19 ?b19 ?c19 ?d19) (EE.at_mk ?a20 ?b20 ?c20 ?d20) (EE.at_mk ?a21 ?b21 ?c21 ?d21) (EE.at_mk ?a22 ?b22 ?c22 ?d22) (EE.at_mk ?a23 ?b23 ?c23 ?d23) (EE.at_mk ?a24 ?b24 ?c24 ?d24) (EE.at_mk ?a25 ?b25 ?c25 ?d25) (EE.at_mk ?a26 ?b26 ?c26 ?d26) (EE.at_mk ?a27 ?b27 ?c27 ?d27) (EE.at_mk ?a28 ?b28 ?c28 ?d28) (EE.at_mk ?a29 ?b29 ?c29 ?d29) (EE.at_mk ?a30 ?b30 ?c30 ?d30) (EE.at_mk ?a31 ?b31 ?c31 ?d31) (EE.at_mk ?a32 ?b32 ?c32 ?d32) (EE.at_mk ?a33 ?b33 ?c33 ?d33) (EE.at_mk ?a34 ?b34 ?c34 ?d34) ?z0 ?z1 ?z2 ?z3 ?z4 ?z5 ?z6 ?z7 ?z8 ?z9 ?z10 ?z11 ?z12 ?z13 ?z14 ?z15 ?z16 ?z17
    (case ca => k_is)
    (case ci => k_is)
    (case cl => k_is)
    (case cc => k_is)
    (case cm => k_is)
    (case cn => k_is)
    (case co => rfl)
    (case cp => first | rfl | decide +kernel)
    (case cs => decide +kernel)
    (case cq => kernel_rfl)
    (case xm => first | kernel_rfl | k_is)
    (case aT => k_is)
    (case xt => first | kernel_rfl | k_is)
    (case m8 => k_is)
    (case mc => k_is)
    (case mg => k_is)
    (case mo => k_is)
    (case mp => k_is)
    (case mh => k_is)
    (case mt => k_is)
    (case mr => k_is)
    (case a0 => k_is); (case b0 => k_is); (case c0 => k_is); (case d0 => k_is)
    (case a1 => k_is); (case b1 => k_is); (case c1 => k_is); (case d1 => k_is)
    (case a2 => k_is); (case b2 => k_is); (case c2 => k_is); (case d2 => k_is)
    (case a3 => k_is); (case b3 => k_is); (case c3 => k_is); (case d3 => k_is)
    (case a4 => k_is); (case b4 => k_is); (case c4 => k_is); (case d4 => k_is)
    (case a5 => k_is); (case b5 => k_is); (case c5 => k_is); (case d5 => k_is)
    (case a6 => k_is); (case b6 => k_is); (case c6 => k_is); (case d6 => k_is)
    (case a7 => k_is); (case b7 => k_is); (case c7 => k_is); (case d7 => k_is)
    (case a8 => k_is); (case b8 => k_is); (case c8 => k_is); (case d8 => k_is)
    (case a9 => k_is); (case b9 => k_is); (case c9 => k_is); (case d9 => k_is)
    (case a10 => k_is); (case b10 => k_is); (case c10 => k_is); (case d10 => k_is)
    (case a11 => k_is); (case b11 => k_is); (case c11 => k_is); (case d11 => k_is)
    (case a12 => k_is); (case b12 => k_is); (case c12 => k_is); (case d12 => k_is)
    (case a13 => k_is); (case b13 => k_is); (case c13 => k_is); (case d13 => k_is)
    (case a14 => k_is); (case b14 => k_is); (case c14 => k_is); (case d14 => k_is)
    (case a15 => k_is); (case b15 => k_is); (case c15 => k_is); (case d15 => k_is)
    (case a16 => k_is); (case b16 => k_is); (case c16 => k_is); (case d16 => k_is)
    (case a17 => k_is); (case b17 => k_is); (case c17 => k_is); (case d17 => k_is)
    (case a18 => k_is); (case b18 => k_is); (case c18 => k_is); (case d18 => k_is)
    (case a19 => k_is); (case b19 => k_is); (case c19 => k_is); (case d19 => k_is)
    (case a20 => k_is); (case b20 => k_is); (case c20 => k_is); (case d20 => k_is)
    (case a21 => k_is); (case b21 => k_is); (case c21 => k_is); (case d21 => k_is)
    (case a22 => k_is); (case b22 => k_is); (case c22 => k_is); (case d22 => k_is)
    (case a23 => k_is); (case b23 => k_is); (case c23 => k_is); (case d23 => k_is)
    (case a24 => k_is); (case b24 => k_is); (case c24 => k_is); (case d24 => k_is)
    (case a25 => k_is); (case b25 => k_is); (case c25 => k_is); (case d25 => k_is)
    (case a26 => k_is); (case b26 => k_is); (case c26 => k_is); (case d26 => k_is)
    (case a27 => k_is); (case b27 => k_is); (case c27 => k_is); (case d27 => k_is)
    (case a28 => k_is); (case b28 => k_is); (case c28 => k_is); (case d28 => k_is)
    (case a29 => k_is); (case b29 => k_is); (case c29 => k_is); (case d29 => k_is)
    (case a30 => k_is); (case b30 => k_is); (case c30 => k_is); (case d30 => k_is)
    (case a31 => k_is); (case b31 => k_is); (case c31 => k_is); (case d31 => k_is)
    (case a32 => k_is); (case b32 => k_is); (case c32 => k_is); (case d32 => k_is)
    (case a33 => k_is); (case b33 => k_is); (case c33 => k_is); (case d33 => k_is)
    (case a34 => k_is); (case b34 => k_is); (case c34 => k_is); (case d34 => k_is)
    (case z0 => k_is); (case z1 => k_is); (case z2 => k_is); (case z3 => k_is); (case z4 => k_is); (case z5 => k_is); (case z6 => k_is); (case z7 => k_is); (case z8 => k_is); (case z9 => k_is); (case z10 => k_is); (case z11 => k_is); (case z12 => k_is); (case z13 => k_is); (case z14 => k_is); (case z15 => k_is); (case z16 => k_is); (case z17 => k_is))
