import PyProof.Rows.All
import Wide.All
import OpenK.AllK
import Wide.FinOn
import HandS.ForMost
import HandS.EndBits
import HandS.Wide
import HandS.IsInst
import PyProof.ReprRoads
import PyProof.ReprBulk
import KE.DataCmp
import KE.SortData
import HandS.SortRule
import HandS.TupAny
import HandS.CallLocal
import HandS.ForExc
import PyProof.DictCopy
import HandS.ExcInit
import KE.KExcSuper
import KE.KExcInit
import HandS.ExcIs
import HandS.ExcField
import KE.KExcIs
import HandS.ExcValue
import HandS.WordsExc
import HandS.Walk
import HandS.StrMore
import HandS.SetFor
import HandS.Strs
import HandS.TupMul
import HandS.Comp
import HandS.List
import KE.GoesEnum
import HandS.Iter
import HandS.Defaults
import HandS.Style
import KE.GoesZip
import HandS.Zip
import PySem.Challenge.RW_fewturnsover_k02_hands_and_rows_told
set_option Elab.async false
set_option linter.all false
set_option maxRecDepth 100000
set_option maxHeartbeats 4000000
namespace G0
open PySem PySem.Spec PyProof.Rows L2

/-! what repr tells of data of any depth -/
mutual
theorem nodict {K : PySem.W.Frag} {H : Hp} : ∀ (d : PyData) (v : V), Dp K H v d → d.hasDict = false
  | .none, _, _ => by simp [PyData.hasDict]
  | .bool _, _, _ => by simp [PyData.hasDict]
  | .int _, _, _ => by simp [PyData.hasDict]
  | .str _, _, _ => by simp [PyData.hasDict]
  | .list ds, _, h => by
    cases h with
    | lst _ ha => simp only [PyData.hasDict]; exact nodictAll ds _ ha
  | .tuple ds, _, h => by
    cases h with
    | tup _ ha => simp only [PyData.hasDict]; exact nodictAll ds _ ha
  | .dict _, _, h => by cases h
theorem nodictAll {K : PySem.W.Frag} {H : Hp} : ∀ (ds : List PyData) (vs : List V), DpAll K H vs ds → PyData.hasDictAll ds = false
  | [], _, _ => by simp [PyData.hasDictAll]
  | d :: ds, _, h => by
    cases h with
    | cons h1 h2 => simp only [PyData.hasDictAll, nodict d _ h1, nodictAll ds _ h2, Bool.or_self]
end

section
variable {X : Cx}
/-- repr(x) where nothing is being shown around -/
def rRepr (K : PySem.W.Frag) : List V → Hp → VK → Prop := fun xs H Q =>
  ∃ x d, xs = [x] ∧ Dp K H x d ∧ d.showable = true ∧ d.depth ≤ 60 ∧ d.shown.length ≤ sizeLine ∧ Q (.str d.shown) H
theorem call_reprD (gu : X.A.guards = some []) (ro : X.A.units + 64 < cLine) : CallR X (.builtin "repr") (rRepr X.K) := by
  intro pins s σ H xs us Q I rel hyp
  obtain ⟨x, d, rfl, dp, sh, dep, siz, fin⟩ := hyp
  obtain ⟨u, rfl, ru⟩ := vals1 rel
  cases dp with
  | non =>
    cases ru
    rw [PyData.shown_none] at fin
    exact PySem.P.repr_of_none ⟨.str _, H, I.tok _, ⟨_, rfl⟩, fin⟩
  | bl b =>
    cases ru
    rw [PyData.shown_bool] at fin
    exact PySem.P.repr_of_bool ⟨.str _, H, I.tok _, ⟨_, rfl⟩, by cases b <;> exact fin⟩
  | int i =>
    obtain ⟨t, rfl⟩ := ru
    rw [PyData.shown_int] at fin
    exact PySem.P.repr_of_int (by simpa [PyData.showable] using sh) ⟨.str _, H, I.tok _, ⟨_, rfl⟩, fin⟩
  | str z =>
    obtain ⟨t, rfl⟩ := ru
    rw [PyData.shown_str] at fin siz
    exact PySem.P.repr_of_str ⟨.str _, H, I.tok _, ⟨_, rfl⟩, fin⟩ siz
  | lst hs ha =>
    have hd := nodict _ _ (Dp.lst hs ha)
    obtain ⟨as, rd⟩ := Dp.reads I _ _ _ (Dp.lst hs ha) ru
    cases ru
    exact repr_of_reads' rd sh (fun q => absurd (q.symm.trans hd) (by decide)) gu (by omega) (fun _ _ e => e) (fun h' t k keep => ⟨.str _, H, I.kept keep, ⟨_, rfl⟩, fin⟩) siz
  | tup hs ha =>
    have hd := nodict _ _ (Dp.tup hs ha)
    obtain ⟨as, rd⟩ := Dp.reads I _ _ _ (Dp.tup hs ha) ru
    cases ru
    exact repr_of_reads' rd sh (fun q => absurd (q.symm.trans hd) (by decide)) gu (by omega) (fun _ _ e => e) (fun h' t k keep => ⟨.str _, H, I.kept keep, ⟨_, rfl⟩, fin⟩) siz
end
end G0

set_option maxHeartbeats 4000000
namespace G1
open PySem PySem.Spec PyProof.Rows L2

/-- the law's own def, run where nothing is around: its context knows that no repr is under way -/
structure LawDef (P : Program) (w : World) (K : PySem.W.Frag) (mg : Str → Option Value) (k : Nat) (fa : Addr) (x : Str) (want : Hp → Addr → List Int → Prop) : Prop where
  ex : ∃ (fd : FuncData) (nm ql : Str) (pr : Arguments) (bd : List Stmt) (sc : Scope) (dV kV doc pm cdv ct oc : Value) (an od : Option Addr) (osl : Array (Option Value)) (N : List Str),
    fd = PySem.W.fnOf nm ql pr bd sc dV kV doc pm an cdv ct ∧ K.lookup fa = some ⟨oc, od, .func fd, osl⟩ ∧ PySem.W.codeIn K cdv ql = true ∧ FnScope N [x] sc ∧
    (∀ (s : Shared) (u : Value), BindsTo s fd ⟨[u], []⟩ [(x, u)]) ∧
    ∀ base : Heap, K.In base → base.Ns mainGlobals mg → ∀ (s : Shared) (H : Hp) (a : Addr) (ns : List Int), want H a ns →
      Room k (callerA.deeper (envOfC ql sc s.heap.objs.size fa cdv)) →
      ∃ t, PSs (cxOf CX0 P w K mg base N ql sc fa cdv callerA [] s H (fun _ _ _ => False)) bd t ∧ t { nx := fun _ _ => False, rt := fun v _ => v = .bl true } (start N [.ref a]) H

section
variable {P : Program} {w : World} {K : PySem.W.Frag} {mg : Str → Option Value} {k : Nat} {fa : Addr} {x : Str} {want : Hp → Addr → List Int → Prop}
theorem LawDef.run (L : LawDef P w K mg k fa x want) {base : Heap} (hk : K.In base) (hm : base.Ns mainGlobals mg) {s : Shared} {H : Hp} {a : Addr} {ns : List Int} (hw : want H a ns) (ro : Room (k + 1) callerA)
    (e0 : Env0 P w K mg base callerA [] s H) :
    codeAny (model P w) callerA (.call (.ref fa) ⟨[.ref a], []⟩) (CR CX0 [] P w H s (fun v _ => v = .bl true) fun _ _ _ => False) s := by
  obtain ⟨fd, nm, ql, pr, bd, sc, dV, kV, doc, pm, cdv, ct, oc, an, od, osl, N, rfl, at1, cod, S, bnd, bod⟩ := L.ex
  have inS : K.In s.heap := e0.mod.kin.keeps fun b o e => (e0.bs b o e).1
  have noL : s.heap.NoLimit := e0.mod.nolimit.keeps fun b o e => (e0.bs b o e).1
  refine codeAny_call_function ro.depth (inS _ _ at1) rfl S.co S.gen rfl (PySem.W.codeRec_of inS cod) (bnd s (.ref a) _ _ _ _ ?_)
  refine wpAny_newFunctionEnv_cells S.kind (fun ⟨n, v⟩ hy => ?_) fun env he s1 y => ?_
  · have hn : n ∈ [x] := by
      have h1 := List.mem_singleton.mp hy
      rw [(Prod.mk.inj h1).1]
      exact List.mem_singleton.mpr rfl
    rcases S.par n hn with q | q
    · exact Or.inl q
    · exact Or.inr ⟨q, PySem.W.cellsFrom_some _ _ _ (Or.inl q)⟩
  subst he
  refine ⟨noL.keeps y.toInCall.keep, codeAny_func ?_⟩
  obtain ⟨t, pt, tt⟩ := bod base hk hm s H a ns hw (ro.deeper _)
  have I : Inv (cxOf CX0 P w K mg base N ql sc fa cdv callerA [] s H fun _ _ _ => False) [] (start N [.ref a]) H s1 := inv_start S ro.hd e0 rfl (.cons rfl .nil) y
  refine wpAny_mono (pt.run [] s1 _ H _ I tt) (fun fl s2 h2 => ?_) fun e s2 h2 => h2
  cases fl with
  | ret u =>
    obtain ⟨v, σ2, H2, J, rv, q⟩ := h2
    exact ⟨v, H2, J.os, J.bare, J.base, J.hok, rv, q⟩
  | next =>
    obtain ⟨_, _, _, q⟩ := h2
    exact q.elim
  | brk =>
    obtain ⟨_, _, _, q⟩ := h2
    exact q.elim
  | cont =>
    obtain ⟨_, _, _, q⟩ := h2
    exact q.elim
end
end G1

set_option maxHeartbeats 4000000
namespace G2
open PySem PySem.Spec PyProof.Rows L2 G1
section
variable {P : Program} {w : World} {K : PySem.W.Frag} {mg mb : Str → Option Value} {k : Nat} {fa a : Addr} {x : Str} {want : Hp → Addr → List Int → Prop} {S0 : Shared} {vs : List Value} {ns : List Int}
theorem not_in_nil {α : Type} {b : α} {p : Prop} (h : b ∈ ([] : List α)) : p := absurd h List.not_mem_nil
/-- from the run to what a row asks of it -/
theorem told_true {H : Hp} (fz : Only H) (hok : HOk P w H S0.heap) {r : Result} {S1 : Shared} (h : CR CX0 [] P w H S0 (fun v _ => v = .bl true) (fun _ _ _ => False) r S1) :
    r = .ok (.ret (.bool true)) ∧ OldK S0.heap S1.heap ∧ S1.os = S0.os ∧ AllBare S1.gens := by
  match r, h with
  | .error e, h => exact False.elim h
  | .ok .next, h => exact False.elim h
  | .ok .brk, h => exact False.elim h
  | .ok .cont, h => exact False.elim h
  | .ok (.ret u), ⟨v, H1, os, br, un, hk1, ru, vt⟩ =>
    have vt2 : v = .bl true := vt
    rw [vt2] at ru
    have ru2 : u = Value.bool true := ru
    subst ru2
    refine ⟨rfl, OldK.of_keep fun b o at0 => ?_, os, br⟩
    rcases fz b with free | ⟨ob, xs, frozen⟩
    · exact un.keep b o at0 free (fun z => not_in_nil z) (fun z => not_in_nil z)
    · have was := (hok b _ frozen).1
      have is := (hk1 b _ (un.frzs b ob _ frozen)).1
      rw [at0] at was
      cases was
      exact is
/-- the heap without the script -/
theorem bare_base (KX : K.In S0.heap) (gl : S0.heap.Ns mainGlobals mg) (bu : S0.heap.Ns builtinsNs mb) (bb : ∀ z : Str, z ≠ "__name__" → mb z = bootBuiltins z) (nl : S0.heap.NoLimit)
    (ob : S0.heap.get? a = some { cls := .type "list", data := .seq vs.toArray }) {H : Hp} (own : ∀ b, H b ≠ none → b = a) (out : H a ≠ none → K.lookup a = none) : Mod K mg (hidT S0.heap H) := by
  have plain : ∀ {b : Addr} {m : Str → Option Value}, S0.heap.Ns b m → (hidT S0.heap H).Ns b m := by
    rintro b m ⟨o, es, ep, at0, dat, more⟩
    refine ⟨o, es, ep, hidT_get at0 ?_, dat, more⟩
    cases hb : H b with
    | none => rfl
    | some u =>
      have ba : b = a := own b (by rw [hb]; exact Option.some_ne_none u)
      rw [ba, ob] at at0
      cases at0
      exact absurd dat (by intro z; cases z)
  refine ⟨fun b o lk => hidT_get (KX b o lk) ?_, plain gl, ⟨mb, plain bu, bb⟩, ?_⟩
  · cases hb : H b with
    | none => rfl
    | some u =>
      have ne : H b ≠ none := by rw [hb]; exact Option.some_ne_none u
      have ba : b = a := own b ne
      subst ba
      rw [out ne] at lk
      cases lk
  · obtain ⟨mc, n1, n2⟩ := nl
    exact ⟨mc, plain n1, n2⟩
theorem law_at (KX : K.In S0.heap) (gl : S0.heap.Ns mainGlobals mg) (bu : S0.heap.Ns builtinsNs mb) (bb : ∀ z : Str, z ≠ "__name__" → mb z = bootBuiltins z) (nl : S0.heap.NoLimit) (gn : S0.gens = #[])
    (ob : S0.heap.get? a = some { cls := .type "list", data := .seq vs.toArray }) (ia : IntsAre vs ns) (ln : ns.length ≤ sizeLine) (ro : Room (k + 1) callerA) (L : LawDef P w K mg k fa x want)
    (hw : ∀ H : Hp, SqL K H a (ns.map V.int) → want H a ns) :
    codeAny (model P w) callerA (.call (.ref fa) ⟨[.ref a], []⟩) (fun r S1 => r = .ok (.ret (.bool true)) ∧ OldK S0.heap S1.heap ∧ S1.os = S0.os ∧ AllBare S1.gens) S0 := by
  have lenV := ia.length
  have go : ∀ H : Hp, Only H → SqL K H a (ns.map V.int) → HOk P w H S0.heap → (∀ b, H b ≠ none → b = a) → (H a ≠ none → K.lookup a = none) →
      codeAny (model P w) callerA (.call (.ref fa) ⟨[.ref a], []⟩) (fun r S1 => r = .ok (.ret (.bool true)) ∧ OldK S0.heap S1.heap ∧ S1.os = S0.os ∧ AllBare S1.gens) S0 := by
    intro H fz sq hok own out
    have M := bare_base KX gl bu bb nl ob own out
    have e0 : Env0 P w K mg (hidT S0.heap H) callerA [] S0 H :=
      { frames := rfl, mod := M, bs := fun b o e => of_hidT e, bsz := Nat.le_of_eq (hidT_size _ _), funs := trivial, frf := fun b z => not_in_nil (show b ∈ ([] : List Addr) from z), hok := hok, bare := .of_eq gn }
    exact codeAny_mono (L.run M.kin M.glob (hw H sq) ro e0) fun r S1 h => told_true fz hok h
  by_cases hk : K.lookup a = none
  · let o0 : Obj := { cls := .type "list", data := .seq vs.toArray }
    let H0 : Hp := fun b => if b = a then some (.frz o0 (.lst (ns.map V.int))) else none
    have h1 : H0 a = some (.frz o0 (.lst (ns.map V.int))) := if_pos rfl
    have h2 : ∀ b, b ≠ a → H0 b = none := fun b hb => if_neg hb
    refine go H0 (fun b => ?_) (Or.inl (Or.inr ⟨o0, h1⟩)) (fun b u z => ?_) (fun b z => Decidable.byContradiction fun hb => z (h2 b hb)) (fun _ => hk)
    · by_cases hb : b = a
      · subst hb
        exact Or.inr ⟨_, _, h1⟩
      · exact Or.inl (h2 b hb)
    · by_cases hb : b = a
      · subst hb
        rw [h1] at z
        cases z
        exact ⟨ob, by rw [List.length_map]; exact ln, vs, _, vals_ints ia, ob⟩
      · rw [h2 b hb] at z
        cases z
  · obtain ⟨o, lk⟩ := Option.ne_none_iff_exists'.mp hk
    have same := KX a o lk
    rw [ob] at same
    cases same
    refine go (fun _ => none) (fun _ => Or.inl rfl) (Or.inr ⟨_, vs.toArray, _, lk, rfl, rfl, rfl, by rw [List.size_toArray, lenV]; exact ln, by simpa using vals_ints ia⟩) (fun b u z => by cases z) (fun b z => absurd rfl z) (fun z => absurd rfl z)
end
/-- what k_head leaves, from the law's def -/
theorem walk_G {l : PySem.W.OpenLaw} {n k : Nat} {q : Program} {loose : List Str} {XP : (Str → Option Value) → Heap → Prop} {YP : World → Heap → Prop} {d : DefRec} {K : Params → PySem.W.Frag} {x : Str} (want : PySem.W.Frag → Hp → Addr → List Int → Prop)
    (hn : l.most = some n) (hz : n ≤ sizeLine) (nodef : d.params.defaults = []) (ro : Room (k + 1) callerA) (hY : ∀ (w : World) (h : Heap), YP w h → (K w.params).In h)
    (F : ∀ (w : World) (mg : Str → Option Value) (fa : Addr) (h : Heap), (K w.params).In h → h.Ns mainGlobals mg → mg d.name = some (.ref fa) → LawDef l.prog w (K w.params) mg k fa x (want (K w.params)))
    (hw : ∀ (K : PySem.W.Frag) (H : Hp) (a : Addr) (ns : List Int), ns.length ≤ n → (∀ z ∈ ns, Builtin.Int.intBits z ≤ 1048576) → SqL K H a (ns.map V.int) → want K H a ns) :
    PySem.W.WalkO q loose XP YP l.row.toRowW d [] (fun f vs => PySem.call f vs) :=
  Att.attach_callB hn nodef fun w _ _ mg _ fa _ _ _ _ _ _ _ G Y _ _ _ atl ob ia ln bits gn =>
    law_at (hY w _ Y) G.T.g G.T.b G.T.builtins G.T.nolimit gn ob ia (Nat.le_trans ln hz) ro (F w mg fa _ (hY w _ Y) G.T.g atl) fun H sq => hw _ H _ _ ln bits sq
end G2

set_option maxHeartbeats 4000000
namespace G3
open PySem PySem.Spec PyProof.Rows L2
section
variable {X : Cx} {CX : CXT} {k : Nat} {f : Addr} {fd : FuncData} {ps ks : List Str} {sp : Sp} {E : XK} {x : Str} {p pos : Pos} {kws : List Keyword} {tk : TA} {g : List Value → List Value → List Value} {gV : List V → List V → List V}
/-- f(k = v, ..), nothing by place -/
theorem pe_named (F : FnOk X.prog X.w X.K X.mg X.base CX k f fd ps sp) (ro : Room k X.A) (gl : Gl X x) (at0 : X.mg x = some (.ref f)) (kp : PySem.W.keepIn X.K (.ref f) = true) (kb : KBinds X.K fd ps ks g gV) (px : Passes CX X E) (pk : PK X kws tk)
    (h1 : (backToKw pos (keywordEach kws X.env)).all (·.1.isSome) = true := by rfl) (h2 : (backToKw pos (keywordEach kws X.env)).filterMap (·.1) = ks := by rfl) (h3 : (x == ("__debug__" : Str)) = false := by decide)
    (h4 : ((backTo pos (starEach [] X.env)).any (·.1) || (backToKw pos (keywordEach kws X.env)).any (·.1.isNone)) = false := by rfl) :
    PE X (.Call (.Name x p) [] kws pos) (tCallK sp gV E tNil tk) := by
  refine ⟨fun pins s σ H Q I hyp => wpAny_Call_Name_kw (ld_glob I gl at0 ?_ h3)⟩
  refine PySem.W.callWith_KW0 (h₀ := X.base) I.ok.mod.kin kp h1 (thn (pk.run pos pins s σ H _ I hyp) fun ws s2 ⟨zs, H2, I2, rz, q2⟩ => ⟨I2.kIn, ?_⟩) h4
  rw [h2]
  exact run_fnk (us := []) (vs := []) F ro kb px I2 .nil rz q2
end
/-! heaps -/
theorem same_refl {H : Hp} : Same H H := fun _ _ e => e
theorem same_new {H : Hp} {p : Addr} {o : HO} (h : H p = none) : Same H (upd H p o) := fun b x e => by
  rw [upd_ne (ne_of_none e h)]
  exact e
/-- a store at what was not there at first -/
theorem same_put {H H1 : Hp} {p : Addr} {o : HO} (s : Same H H1) (h : H p = none) : Same H (upd H1 p o) := fun b x e => by
  rw [upd_ne (ne_of_none e h)]
  exact s b x e
theorem same_none {H H1 : Hp} {p : Addr} (s : Same H H1) (h : H1 p = none) : H p = none := by
  cases e : H p with
  | none => rfl
  | some o => rw [s _ _ e] at h; cases h
end G3

set_option maxHeartbeats 4000000
namespace G4
open PySem PySem.Spec PyProof.Rows L2
/-! data that is shown and compared: short leaves, no dicts -/
def nice (d : PyData) : Bool := d.showable && (d.canLay0 && d.leavesShort 13)
theorem nice_show {d : PyData} (h : nice d = true) : d.showable = true := (Bool.and_eq_true_iff.mp h).1
theorem nice_lay {d : PyData} (h : nice d = true) : d.canLay0 = true := (Bool.and_eq_true_iff.mp (Bool.and_eq_true_iff.mp h).2).1
theorem nice_short {d : PyData} (h : nice d = true) : d.leavesShort 13 = true := (Bool.and_eq_true_iff.mp (Bool.and_eq_true_iff.mp h).2).2
theorem nice_mk {d : PyData} (a : d.showable = true) (b : d.canLay0 = true) (c : d.leavesShort 13 = true) : nice d = true := by
  unfold nice
  rw [a, b, c]
  rfl
theorem nice_all : ∀ xs : List PyData, (∀ x ∈ xs, nice x = true) → PyData.showableAll xs = true ∧ PyData.canLayAll0 xs = true ∧ PyData.leavesShortAll 13 xs = true
  | [], _ => by simp only [PyData.showableAll, PyData.canLayAll0, PyData.leavesShortAll]; exact ⟨trivial, trivial, trivial⟩
  | x :: xs, h => by
    have hx := h x List.mem_cons_self
    have ih := nice_all xs fun y hy => h y (List.mem_cons_of_mem _ hy)
    simp only [PyData.showableAll, PyData.canLayAll0, PyData.leavesShortAll, nice_show hx, nice_lay hx, nice_short hx, ih.1, ih.2.1, ih.2.2, Bool.and_self]
    exact ⟨trivial, trivial, trivial⟩
theorem nice_list {xs : List PyData} (h : ∀ x ∈ xs, nice x = true) : nice (.list xs) = true := by
  have q := nice_all xs h
  exact nice_mk (by simp only [PyData.showable]; exact q.1) (by simp only [PyData.canLay0]; exact q.2.1) (by simp only [PyData.leavesShort]; exact q.2.2)
theorem nice_tuple {xs : List PyData} (h : ∀ x ∈ xs, nice x = true) : nice (.tuple xs) = true := by
  have q := nice_all xs h
  exact nice_mk (by simp only [PyData.showable]; exact q.1) (by simp only [PyData.canLay0]; exact q.2.1) (by simp only [PyData.leavesShort]; exact q.2.2)
theorem nice_none : nice .none = true := nice_mk (by simp only [PyData.showable]) (by simp only [PyData.canLay0]) (by simp only [PyData.leavesShort])
theorem nice_bool (b : Bool) : nice (.bool b) = true := nice_mk (by simp only [PyData.showable]) (by simp only [PyData.canLay0]) (by simp only [PyData.leavesShort])
theorem int_few : ∀ n : Nat, n < 200 → nice (.int (n - 100)) = true := by decide +kernel
theorem nice_int {i : Int} (h : -100 ≤ i) (h2 : i < 100) : nice (.int i) = true := by
  have q := int_few (i + 100).toNat (by omega)
  have e : (((i + 100).toNat : Nat) : Int) - 100 = i := by omega
  rw [e] at q
  exact q
theorem depth_all {k : Nat} : ∀ xs : List PyData, (∀ x ∈ xs, x.depth ≤ k) → PyData.depthAll xs ≤ k
  | [], _ => by simp only [PyData.depthAll]; exact Nat.zero_le _
  | x :: xs, h => by
    simp only [PyData.depthAll]
    exact Nat.max_le.mpr ⟨h x List.mem_cons_self, depth_all xs fun y hy => h y (List.mem_cons_of_mem _ hy)⟩
theorem depth_list {k : Nat} {xs : List PyData} (h : ∀ x ∈ xs, x.depth ≤ k) : (PyData.list xs).depth ≤ k + 1 := by
  simp only [PyData.depth]
  exact Nat.add_le_add_right (depth_all xs h) 1
theorem depth_tuple {k : Nat} {xs : List PyData} (h : ∀ x ∈ xs, x.depth ≤ k) : (PyData.tuple xs).depth ≤ k + 1 := by
  simp only [PyData.depth]
  exact Nat.add_le_add_right (depth_all xs h) 1
theorem bulk_all {m : Nat} : ∀ xs : List PyData, (∀ x ∈ xs, x.bulk ≤ m) → PyData.bulkAll xs ≤ (m + 1) * xs.length
  | [], _ => by simp only [PyData.bulkAll]; exact Nat.zero_le _
  | x :: xs, h => by
    have h1 := h x List.mem_cons_self
    have ih := bulk_all xs fun y hy => h y (List.mem_cons_of_mem _ hy)
    simp only [PyData.bulkAll, List.length_cons]
    rw [Nat.mul_add]
    omega
theorem bulk_list {m n : Nat} {xs : List PyData} (h : ∀ x ∈ xs, x.bulk ≤ m) (hn : xs.length ≤ n) : (PyData.list xs).bulk ≤ (m + 1) * n := by
  simp only [PyData.bulk]
  exact Nat.le_trans (bulk_all xs h) (Nat.mul_le_mul_left _ hn)
theorem bulk_tuple {m n : Nat} {xs : List PyData} (h : ∀ x ∈ xs, x.bulk ≤ m) (hn : xs.length ≤ n) : (PyData.tuple xs).bulk ≤ (m + 1) * n := by
  simp only [PyData.bulk]
  exact Nat.le_trans (bulk_all xs h) (Nat.mul_le_mul_left _ hn)
theorem nice_fits {d : PyData} (h : nice d = true) (hb : d.bulk ≤ 2 ^ 20) : d.shown.length ≤ sizeLine := PyData.shown_fits_bulk (B := 13) (by decide) (by decide) (nice_short h) hb
theorem nice_shaped {d : PyData} (h : nice d = true) (hd : d.depth ≤ 60) : SeqAt.shaped d = true := by
  unfold SeqAt.shaped
  rw [nice_lay h, decide_eq_true (show d.depth ≤ 64 by omega)]
  rfl
theorem dpAll_map {α : Type} {K : PySem.W.Frag} {H : Hp} {f : α → V} {g : α → PyData} : ∀ xs : List α, (∀ x ∈ xs, Dp K H (f x) (g x)) → DpAll K H (xs.map f) (xs.map g)
  | [], _ => .nil
  | x :: xs, h => .cons (h x List.mem_cons_self) (dpAll_map xs fun y hy => h y (List.mem_cons_of_mem _ hy))
end G4

set_option maxHeartbeats 4000000
namespace N1
open PySem PySem.Spec PyProof.Rows L2 G3
section
variable {X : Cx}
/-- a < b, data of any depth that are alike -/
def rLtDp (K : PySem.W.Frag) : R2 := fun x y H Q => ∃ d e, Dp K H x d ∧ Dp K H y e ∧ PySem.W.alike d e = true ∧ d ≠ .none ∧ d.depth ≤ 60 ∧ Q (.bl (PySem.W.dataLt d e)) H
theorem op_ltDp (hu : X.A.units + 64 < cLine) : OpR X (compareOp .Lt) (rLtDp X.K) := by
  intro pins s σ H x y v u Q I rx ry h
  obtain ⟨d, e, hd, he, al, nn, dep, q⟩ := h
  obtain ⟨as, r1⟩ := Dp.reads I d x v hd rx
  obtain ⟨bs, r2⟩ := Dp.reads I e y u he ry
  exact PySem.W.lt_data r1 r2 al nn (by have := Nat.min_le_left d.depth e.depth; omega) ⟨.bl _, H, I, rfl, q⟩
theorem each_rel : ∀ {bs : List (V × PyData)} {us : List Value}, Vals (bs.map (·.1)) us → PySem.W.EachIs (fun v (b : V × PyData) => RelV b.1 v) us bs
  | [], _, .nil => .nil
  | _ :: _, _, .cons r t => .cons r (each_rel t)
theorem rel_each {us : List Value} {bs : List (V × PyData)} (h : PySem.W.EachIs (fun v (b : V × PyData) => RelV b.1 v) us bs) : Vals (bs.map (·.1)) us := by
  induction h with
  | nil => exact .nil
  | cons r _ ih => exact .cons r ih
theorem each_reads {pins : List (Addr × Obj)} {σ : L2.St} {H : Hp} {s : Shared} (I : Inv X pins σ H s) : ∀ {bs : List (V × PyData)} {us : List Value}, Vals (bs.map (·.1)) us → (∀ b ∈ bs, Dp X.K H b.1 b.2) → PySem.W.EachIs (fun v (b : V × PyData) => ∃ as, Reads s.heap v b.2 as) us bs
  | [], _, .nil, _ => .nil
  | b :: bs, _, .cons r t, h => .cons (Dp.reads I b.2 b.1 _ (h b List.mem_cons_self) r) (each_reads I t fun c hc => h c (List.mem_cons_of_mem _ hc))
/-- sorted(xs), data of any depth that are alike -/
def rSortD (K : PySem.W.Frag) : List V → Hp → VK → Prop := fun vs H Q => ∃ (a : Addr) (bs : List (V × PyData)), vs = [.ref a] ∧ SqL K H a (bs.map (·.1)) ∧ (∀ b ∈ bs, Dp K H b.1 b.2 ∧ b.2.depth ≤ 60) ∧ PySem.W.AllAlike (bs.map (·.2)) ∧ PySem.W.Sortable (bs.map (·.2)) ∧
  ∀ p, H p = none → Q (.ref p) (upd H p (.lst ((bs.mergeSort (PySem.W.dataLe false (·.2))).map (·.1))))
theorem cr_sortedD (hu : X.A.units + 64 < cLine) : CallR X (.builtin "sorted") (rSortD X.K) := by
  intro pins s σ H vs us Q I r h
  obtain ⟨a, bs, rfl, hs, hd, al, so, q⟩ := h
  obtain ⟨its, rv, hl, hz⟩ := I.list hs
  obtain ⟨u, rfl, ru⟩ := vals1 r
  obtain rfl : u = Value.ref a := ru
  rw [List.length_map] at hz
  refine PySem.W.sorted_data (enc := fun b : V × PyData => b.2) hl.isList (each_rel rv) (each_reads I rv fun b hb => (hd b hb).1) al so hz (fun b hb => by have := (hd b hb).2; omega) fun out ho eo => ?_
  obtain ⟨n, hn⟩ := sortedAll_at s.heap its out.toArray
  refine ⟨.ref (s.heap.objs.size + 1), _, I.laid (t' := s.toks) (o := .lst ((bs.mergeSort (PySem.W.dataLe false (·.2))).map (·.1))) (fun b o e => sortedAll_old e) (Nat.le_succ _) ⟨?_, out, n, rel_each eo, hn⟩, rfl, q _ (I.hok.fresh (Nat.le_succ _))⟩
  rw [List.length_map, List.length_mergeSort]
  exact hz
end
end N1

set_option maxHeartbeats 4000000
namespace M0
open PySem PySem.Spec PyProof.Rows L2 G3 G4
/-! what a value reads as, from one heap to another -/
theorem same_tup {K : PySem.W.Frag} {H H' : Hp} {a : Addr} {xs : List V} (e : Same H H') (h : SqT K H a xs) : SqT K H' a xs := by
  rcases h with (h | ⟨o, h⟩) | h
  · exact .inl (.inl (e _ _ h))
  · exact .inl (.inr ⟨o, e _ _ h⟩)
  · exact .inr h
mutual
theorem dp_same {K : PySem.W.Frag} {H H' : Hp} (e : Same H H') : ∀ (d : PyData) (v : V), Dp K H v d → Dp K H' v d
  | .none, _, h => by cases h; exact .non
  | .bool _, _, h => by cases h; exact .bl _
  | .int _, _, h => by cases h; exact .int _
  | .str _, _, h => by cases h; exact .str _
  | .list ds, _, h => by
    cases h with
    | lst hs ha => exact .lst (e.seq hs) (dpAll_same e ds _ ha)
  | .tuple ds, _, h => by
    cases h with
    | tup hs ha => exact .tup (same_tup e hs) (dpAll_same e ds _ ha)
  | .dict _, _, h => by cases h
theorem dpAll_same {K : PySem.W.Frag} {H H' : Hp} (e : Same H H') : ∀ (ds : List PyData) (vs : List V), DpAll K H vs ds → DpAll K H' vs ds
  | [], _, h => by cases h; exact .nil
  | d :: ds, _, h => by
    cases h with
    | cons h1 h2 => exact .cons (dp_same e d _ h1) (dpAll_same e ds _ h2)
end
theorem dpAll_len {K : PySem.W.Frag} {H : Hp} : ∀ {vs : List V} {ds : List PyData}, DpAll K H vs ds → vs.length = ds.length
  | _, _, .nil => rfl
  | _, _, .cons _ t => congrArg (· + 1) (dpAll_len t)
theorem dpAll_get {K : PySem.W.Frag} {H : Hp} : ∀ {vs : List V} {ds : List PyData} {i : Nat} {v : V}, DpAll K H vs ds → vs[i]? = some v → ∃ d, ds[i]? = some d ∧ Dp K H v d
  | _, _, _, _, .nil, e => by simp at e
  | _, _, 0, _, .cons h _, e => by
    simp only [List.getElem?_cons_zero, Option.some.injEq] at e
    subst e
    exact ⟨_, rfl, h⟩
  | _, _, i + 1, _, .cons _ t, e => by
    simp only [List.getElem?_cons_succ] at e
    obtain ⟨d, h1, h2⟩ := dpAll_get t e
    exact ⟨d, h1, h2⟩
theorem dpAll_getD {K : PySem.W.Frag} {H : Hp} : ∀ {vs : List V} {ds : List PyData} {i : Nat} {d : PyData}, DpAll K H vs ds → ds[i]? = some d → ∃ v, vs[i]? = some v ∧ Dp K H v d
  | _, _, _, _, .nil, e => by simp at e
  | _, _, 0, _, .cons h _, e => by
    simp only [List.getElem?_cons_zero, Option.some.injEq] at e
    subst e
    exact ⟨_, rfl, h⟩
  | _, _, i + 1, _, .cons _ t, e => by
    simp only [List.getElem?_cons_succ] at e
    obtain ⟨d, h1, h2⟩ := dpAll_getD t e
    exact ⟨d, h1, h2⟩
theorem dpAll_app {K : PySem.W.Frag} {H : Hp} : ∀ {vs ws : List V} {ds es : List PyData}, DpAll K H vs ds → DpAll K H ws es → DpAll K H (vs ++ ws) (ds ++ es)
  | _, _, _, _, .nil, h => h
  | _, _, _, _, .cons h t, g => .cons h (dpAll_app t g)
theorem dpAll_take {K : PySem.W.Frag} {H : Hp} : ∀ {vs : List V} {ds : List PyData} (n : Nat), DpAll K H vs ds → DpAll K H (vs.take n) (ds.take n)
  | _, _, 0, _ => by simp only [List.take_zero]; exact .nil
  | _, _, _ + 1, .nil => by simp only [List.take_nil]; exact .nil
  | _, _, n + 1, .cons h t => by simp only [List.take_succ_cons]; exact .cons h (dpAll_take n t)
theorem dpAll_drop {K : PySem.W.Frag} {H : Hp} : ∀ {vs : List V} {ds : List PyData} (n : Nat), DpAll K H vs ds → DpAll K H (vs.drop n) (ds.drop n)
  | _, _, 0, h => h
  | _, _, _ + 1, .nil => by simp only [List.drop_nil]; exact .nil
  | _, _, n + 1, .cons _ t => by simp only [List.drop_succ_cons]; exact dpAll_drop n t
theorem dpAll_rev {K : PySem.W.Frag} {H : Hp} : ∀ {vs : List V} {ds : List PyData}, DpAll K H vs ds → DpAll K H vs.reverse ds.reverse
  | _, _, .nil => .nil
  | _, _, .cons h t => by
    rw [List.reverse_cons, List.reverse_cons]
    exact dpAll_app (dpAll_rev t) (.cons h .nil)
theorem dpAll_set {K : PySem.W.Frag} {H : Hp} {v : V} {d : PyData} (hv : Dp K H v d) : ∀ {vs : List V} {ds : List PyData} (n : Nat), DpAll K H vs ds → DpAll K H (vs.set n v) (ds.set n d)
  | _, _, _, .nil => by simp only [List.set_nil]; exact .nil
  | _, _, 0, .cons h t => by simp only [List.set_cons_zero]; exact .cons hv t
  | _, _, n + 1, .cons h t => by simp only [List.set_cons_succ]; exact .cons h (dpAll_set hv n t)
/-! which class a value is of -/
def tyName : PyData → String
  | .none => "NoneType"
  | .bool _ => "bool"
  | .int _ => "int"
  | .str _ => "str"
  | .list _ => "list"
  | .tuple _ => "tuple"
  | .dict _ => "dict"
theorem dp_ty {K : PySem.W.Frag} {H : Hp} {v : V} {d : PyData} (h : Dp K H v d) : TyX K H v (.type (tyName d)) := by
  cases h with
  | non => exact .base .non
  | bl b => exact .base (.bl b)
  | int i => exact .base (.int i)
  | str x => exact .base (.str x)
  | lst hs _ =>
    rcases hs with (h | ⟨o, h⟩) | ⟨o, _, _, h, c, _⟩
    · exact .base (.lst h)
    · exact .base (.frz h)
    · exact .kList h c
  | tup hs _ =>
    rcases hs with (h | ⟨o, h⟩) | ⟨o, _, _, h, c, _⟩
    · exact .base (.tup h)
    · exact .fTuple h
    · exact .kTuple h c
def isInt : PyData → Bool
  | .bool _ => true
  | .int _ => true
  | _ => false
def isBool : PyData → Bool
  | .bool _ => true
  | _ => false
def isTup : PyData → Bool
  | .tuple _ => true
  | _ => false
theorem kit_int (K : PySem.W.Frag) {v : V} {H : Hp} {d : PyData} (h : Dp K H v d) : PySem.W.kitOne K (.type (tyName d)) (.type "int") = some (isInt d) := by
  cases h <;> kernel_rfl
theorem kit_bool (K : PySem.W.Frag) {v : V} {H : Hp} {d : PyData} (h : Dp K H v d) : PySem.W.kitOne K (.type (tyName d)) (.type "bool") = some (isBool d) := by
  cases h <;> kernel_rfl
theorem kit_tup (K : PySem.W.Frag) {v : V} {H : Hp} {d : PyData} (h : Dp K H v d) : PySem.W.kitOne K (.type (tyName d)) (.type "tuple") = some (isTup d) := by
  cases h <;> kernel_rfl
/-! sizes -/
theorem bulk_mem {d : PyData} : ∀ {ds : List PyData}, d ∈ ds → d.bulk ≤ PyData.bulkAll ds
  | _ :: ds, h => by
    simp only [PyData.bulkAll]
    rcases List.mem_cons.mp h with e | h
    · subst e; omega
    · have := bulk_mem h; omega
theorem bulk_len : ∀ ds : List PyData, ds.length ≤ PyData.bulkAll ds
  | [] => Nat.zero_le _
  | d :: ds => by
    have := bulk_len ds
    simp only [PyData.bulkAll, List.length_cons]
    omega
/-! what stands beside the pool -/
def off (p : Addr) (H : Hp) : Hp := fun b => if b = p then none else H b
theorem off_upd {p : Addr} {H : Hp} {o : HO} : off p (upd H p o) = off p H := by
  funext b
  unfold off
  by_cases e : b = p
  · rw [if_pos e, if_pos e]
  · rw [if_neg e, if_neg e, upd_ne e]
theorem off_sub {p : Addr} {H : Hp} : Same (off p H) H := fun b o e => by
  unfold off at e
  by_cases z : b = p
  · rw [if_pos z] at e; cases e
  · rw [if_neg z] at e; exact e
theorem off_ne {p b : Addr} {H : Hp} (z : b ≠ p) : off p H b = H b := if_neg z
theorem off_mono {p : Addr} {H H' : Hp} (e : Same H H') : Same (off p H) (off p H') := fun b o h => by
  by_cases z : b = p
  · unfold off at h; rw [if_pos z] at h; cases h
  · rw [off_ne z] at h ⊢; exact e b o h
theorem off_new {p : Addr} {H : Hp} {o : HO} (h : H p = none) : Same H (off p (upd H p o)) := fun b x e => by
  have z : b ≠ p := ne_of_none e h
  rw [off_ne z, upd_ne z]
  exact e
end M0

set_option maxHeartbeats 4000000
/-! what any law about programs needs: dead branches, d.copy(), programs as data -/
namespace PA
open PySem PySem.Spec PyProof.Rows L2 G3 M0
section
variable {X : Cx}
/-- what is never come to -/
theorem ps_dead {st : Stmt} : PS X st (fun _ _ _ => False) := ⟨fun _ _ _ _ _ _ h => h.elim⟩
theorem pe_dead {e : Expr} : PE X e (fun _ _ _ => False) := ⟨fun _ _ _ _ _ _ h => h.elim⟩
/-- d.copy() -/
theorem mt_copy : MtR X "dict.copy" (fun x xs H Q => ∃ a kvs, x = .ref a ∧ xs = [] ∧ H a = some (.dK kvs) ∧ ∀ p, H p = none → Q (.ref p) (upd H p (.dK kvs))) := by
  intro pins s σ H x xs v us Q I rx rs h
  obtain ⟨a, kvs, rfl, rfl, ha, q⟩ := h
  obtain rfl : v = Value.ref a := rx
  cases rs
  obtain ⟨z, hd, vs, rel, dd⟩ := dk_rd I.hok (.inl ha)
  refine call_meetsIn F.slot_dict_copy dd.typeIs F.entry_dict_copy (F.args_dict_copy_1 _) (meets_dict_copy (mixKind X.prog X.w) a hd) ⟨vs, dd, by rw [← rel.length]; exact z, fun h' dn _ keep => ?_⟩
  refine ⟨.ref s.heap.objs.size, _, I.laid (a := s.heap.objs.size) (o := .dK kvs) (t' := s.toks) keep (Nat.le_refl _) (dk_new z (beq_eq_false_iff_ne.mpr (Ne.symm (Nat.ne_of_lt I.big))) rel dn), rfl, q _ (I.hok.fresh (Nat.le_refl _))⟩
end
/-- a def that is never called -/
theorem fn_never {P : Program} {w : World} {K : PySem.W.Frag} {mg : Str → Option Value} {base : Heap} {CX : CXT} {k : Nat} {f : Addr} {fd : FuncData} {ps : List Str} : FnOk P w K mg base CX k f fd ps (fun _ _ _ _ => False) :=
  ⟨fun _ _ _ _ h => h.elim, fun _ _ _ _ _ _ _ _ _ _ _ _ _ h => h.elim⟩
theorem take_fresh {α β : Type} (f : α → β) {l : List α} {i : Nat} {b : α} (nd : (l.map f).Nodup) (h : l[i]? = some b) : ∀ e ∈ l.take i, f e ≠ f b := by
  have hi := (List.getElem?_eq_some_iff.mp h).1
  have e1 : l.map f = (l.take i).map f ++ (l.drop i).map f := by rw [← List.map_append, List.take_append_drop]
  rw [e1, List.nodup_append] at nd
  intro e he
  refine nd.2.2 _ (List.mem_map_of_mem he) _ (List.mem_map_of_mem ?_)
  rw [List.drop_eq_getElem_cons hi, (List.getElem?_eq_some_iff.mp h).2]
  exact List.mem_cons_self
/-! ### programs -/
inductive Src where
  | to (n : Int)
  | of (b : Str)
  | on (n : Int)
  | any
inductive Row where
  | set (b : Str) (s : Src)
  | ift (b : Str) (v r : Int)
  | go (rs : List Int)
  | call (t : Str)
  | back
  | wait (b : Str) (v : Int)
  | begin (h : Str)
  | fault
abbrev Box := Str × Int
abbrev Text := Str × List Row
abbrev Hand := Str × List Box × List Text
abbrev Prog := List Box × List Hand
def Src.data : Src → PyData
  | .to n => .tuple [.str "to", .int n]
  | .of b => .tuple [.str "of", .str b]
  | .on n => .tuple [.str "on", .int n]
  | .any => .tuple [.str "any"]
def Row.data : Row → PyData
  | .set b s => .tuple [.str "set", .str b, s.data]
  | .ift b v r => .tuple [.str "if", .str b, .int v, .int r]
  | .go rs => .tuple [.str "go", .tuple (rs.map .int)]
  | .call t => .tuple [.str "call", .str t]
  | .back => .tuple [.str "back"]
  | .wait b v => .tuple [.str "wait", .str b, .int v]
  | .begin h => .tuple [.str "begin", .str h]
  | .fault => .tuple [.str "fault"]
def boxD (b : Box) : PyData := .tuple [.str b.1, .int b.2]
def boxesD (bs : List Box) : PyData := .tuple (bs.map boxD)
def rowsD (rs : List Row) : PyData := .tuple (rs.map Row.data)
def textD (t : Text) : PyData := .tuple [.str t.1, rowsD t.2]
def handD (h : Hand) : PyData := .tuple [.str h.1, boxesD h.2.1, .tuple (h.2.2.map textD)]
def progD (p : Prog) : PyData := .tuple [boxesD p.1, .tuple (p.2.map handD)]
/-- small letters, one to eight -/
def nameB (z : Str) : Bool := decide (z.length ≤ 8) && (Txt.isascii z && (Txt.isalpha z && Txt.islower z))
def size? (bs : List Box) (b : Str) : Option Int := (bs.find? fun x => decide (x.1 = b)).map (·.2)
def SrcOk (bs : List Box) (b : Str) (size : Int) : Src → Prop
  | .to n => 0 ≤ n ∧ n < size
  | .of o => o ≠ b ∧ ∃ m, size? bs o = some m ∧ m ≤ size
  | .on n => 1 ≤ n ∧ n ≤ 3
  | .any => True
def Rising (a : Int) : List Int → Prop
  | [] => True
  | b :: r => a < b ∧ Rising b r
def RowOk (bs : List Box) (titles others : List Str) (many : Int) : Row → Prop
  | .set b s => ∃ n, size? bs b = some n ∧ SrcOk bs b n s
  | .ift b v r => ∃ n, size? bs b = some n ∧ 0 ≤ v ∧ v < n ∧ 0 ≤ r ∧ r ≤ many
  | .go rs => 1 ≤ rs.length ∧ rs.length ≤ 4 ∧ Rising (-1) rs ∧ ∀ r ∈ rs, r ≤ many
  | .call t => t ∈ titles
  | .back => True
  | .wait b v => ∃ n, size? bs b = some n ∧ 0 ≤ v ∧ v < n
  | .begin h => h ∈ others
  | .fault => True
structure BoxesOk (bs : List Box) (most : Nat) (great : Int) (ahead : List Str) : Prop where
  len : bs.length ≤ most
  nm : ∀ b ∈ bs, nameB b.1 = true ∧ 1 ≤ b.2 ∧ b.2 ≤ great ∧ b.1 ∉ ahead
  nd : (bs.map (·.1)).Nodup
structure TextsOk (bs : List Box) (others : List Str) (ts : List Text) : Prop where
  one : 1 ≤ ts.length
  few : ts.length ≤ 32
  nm : ∀ t ∈ ts, nameB t.1 = true ∧ 1 ≤ t.2.length ∧ t.2.length ≤ 2000
  nd : (ts.map (·.1)).Nodup
  row : ∀ t ∈ ts, ∀ r ∈ t.2, RowOk bs (ts.map (·.1)) others t.2.length r
structure ProgOk (p : Prog) : Prop where
  box : BoxesOk p.1 8 4 []
  one : 1 ≤ p.2.length
  few : p.2.length ≤ 4
  nm : ∀ h ∈ p.2, nameB h.1 = true
  nd : (p.2.map (·.1)).Nodup
  own : ∀ h ∈ p.2, BoxesOk h.2.1 24 8 (p.1.map (·.1))
  txt : ∀ h ∈ p.2, TextsOk (p.1 ++ h.2.1) ((p.2.map (·.1)).filter fun z => decide (z ≠ h.1)) h.2.2
end PA

set_option maxHeartbeats 4000000
namespace E1
open PySem PySem.W Builtin Builtin.ObjectAttr
section
variable {prog : Program} {w : World} {A : Around} {R : Result → Shared → Prop} {hp : Heap} {g : Array GenState} {d : Drawn} {t : Nat} {os : OsState}
/-- the first field of an own error's object -/
theorem field_first {B : String} {bmB : List Value} {K : Frag} {name : Str} {tk : Tok} {v : Value} {x C : Addr} {fv : Array Value} {cd : ClassData} (SF : StoreFacts B bmB "object.__setattr__" "object")
    (X : K.In hp) (at0 : hp.get? x = some { cls := .ref C, data := .fields fv }) (cl : clsIn K C = some cd) (has : cd.hasDict = true) (ov : excOver K C bmB = true) (tak : takerIn K C name = some none)
    (go : ∀ h' tk' dx, (∀ b o, b ≠ x → hp.get? b = some o → h'.get? b = some o) → hp.objs.size ≤ dx → dx ≠ x → h'.get? x = some { cls := .ref C, dict := some dx, data := .fields fv } →
      h'.Ns1 dx (fun y => if y = name then some v else none) → R (.ok (.ret .none)) ⟨h', g, d, tk', os⟩) :
    codeAny (model prog w) A (.call (.builtin "object.__setattr__") ⟨[.ref x, .str name tk, v], []⟩) R ⟨hp, g, d, t, os⟩ := by
  have I : InstAt hp x { cls := .ref C, data := .fields fv } C none := ⟨at0, rfl, rfl, trivial⟩
  have xs : x ≠ hp.objs.size := Nat.ne_of_lt (Heap.lt_size at0)
  have data : Looks (model prog w) hp (classData C) cd := looks_clsIn X cl
  refine osa_openX (s := ⟨hp, g, d, t, os⟩) SF X I ov tak fun b => ?_
  show wpAny _ _ (storeInOwnDict (.ref x) (.ref C) (.str name tk) name v b) _ _ _
  obtain ⟨nm, bs, mro, ns, qn, hd, sn, sb, ab, col, del⟩ := cd
  dsimp only at has
  subst has
  unfold storeInOwnDict ownDictForStores
  repeat (first | with_reducible refine HandSPX.store_in_new ?_ ?_ | with_reducible refine wpAny_loadPart_at at0 ?_ | with_reducible refine data.at ?_ | wp_step)
  · exact ⟨_, #[], _, (Heap.get?_update_ne _ _ _ _ xs.symm).trans (Heap.get?_push_at rfl rfl), rfl, fun e he => absurd he (by simp), fun _ => rfl⟩
  · intro h' tk' isNs but
    have at1 : (hp.push { cls := .type "dict", data := .dict #[] }).get? x = some { cls := .ref C, data := .fields fv } := Heap.get?_push_of_some _ at0
    refine go h' tk' hp.objs.size (fun b o nb ob => ?_) (Nat.le_refl _) xs.symm ?_ isNs
    · exact (but.2 b (Nat.ne_of_lt (Heap.lt_size ob))).trans ((Heap.get?_update_ne _ _ _ _ nb).trans (Heap.get?_push_of_some _ ob))
    · exact (but.2 x xs).trans (Heap.get?_update_self _ at1 rfl)
/-- a further one -/
theorem field_more {B : String} {bmB : List Value} {K : Frag} {name : Str} {tk : Tok} {v : Value} {x C dx : Addr} {fv : Array Value} {cd : ClassData} {m0 : Str → Option Value} {nl : List Str} (SF : StoreFacts B bmB "object.__setattr__" "object")
    (X : K.In hp) (at0 : hp.get? x = some { cls := .ref C, dict := some dx, data := .fields fv }) (nsD : hp.Ns1 dx m0) (wi : Within m0 nl) (few : nl.length ≤ 1000) (cl : clsIn K C = some cd) (has : cd.hasDict = true) (ov : excOver K C bmB = true) (tak : takerIn K C name = some none)
    (go : ∀ h' tk', (∀ b o, b ≠ dx → hp.get? b = some o → h'.get? b = some o) → h'.Ns1 dx (fun y => if y = name then some v else m0 y) → R (.ok (.ret .none)) ⟨h', g, d, tk', os⟩) :
    codeAny (model prog w) A (.call (.builtin "object.__setattr__") ⟨[.ref x, .str name tk, v], []⟩) R ⟨hp, g, d, t, os⟩ := by
  obtain ⟨oD, esD, epD, hoD, hdD, _⟩ := nsD.count wi
  have I : InstAt hp x { cls := .ref C, dict := some dx, data := .fields fv } C (some oD) := ⟨at0, rfl, rfl, hoD⟩
  have data : Looks (model prog w) hp (classData C) cd := looks_clsIn X cl
  refine osa_openX (s := ⟨hp, g, d, t, os⟩) SF X I ov tak fun b => ?_
  show wpAny _ _ (storeInOwnDict (.ref x) (.ref C) (.str name tk) name v b) _ _ _
  obtain ⟨nm, bs, mro, ns, qn, hd, sn, sb, ab, col, del⟩ := cd
  dsimp only at has
  subst has
  unfold storeInOwnDict ownDictForStores
  repeat (first | with_reducible refine OEX.store_in_old nsD wi few ?_ | with_reducible refine wpAny_loadPart_at at0 ?_ | with_reducible refine data.at ?_ | wp_step)
  intro h' tk' isNs but
  exact go h' tk' (fun b o nb ob => (but.2 b nb).trans ob) isNs
end
end E1

set_option maxHeartbeats 4000000
namespace E2
open PySem PySem.Spec PyProof.Rows L2
/-- what is needed of a built-in __init__ -/
structure InitF (cls initId : String) : Prop where
  kind : builtinKind initId = some .slot
  row : Manifest.signature? initId = some ⟨.positional, "*", cls, .self, [⟨"args", .varPos, false⟩]⟩
  star : (cls != "*") = true
  plain : plainId initId = true
  entry : entryFor table initId = some Builtin.«BaseException.__init__»
theorem InitF.of {cls newId initId : String} (F : ExcCallFacts cls newId initId) : InitF cls initId := ⟨F.initKind, F.initRow, F.noStar, F.init.plain, F.initEntry⟩
/-- the built-in class that own error classes stand under: B gives __new__, Bs is the class itself, bmB its order -/
structure Under (B newId initId Bs : String) (bmB : List Value) : Prop where
  eb : ∃ i bmE, ExcBaseFacts B newId i bmE
  inf : InitF Bs initId
  kx : PySem.W.KxsFacts Bs initId
  sf : StoreFacts Bs bmB "object.__setattr__" "object"
  hasB : bmB.contains (.type B) = true
  noA : bmB.contains (.type "AttributeError") = false
  noN : bmB.contains (.type "NameError") = false
/-- what the written part says of an own error class at C, its __init__ at fI -/
structure ExC (K : PySem.W.Frag) (C fI : Addr) (B newId initId Bs : String) (bmB : List Value) : Prop where
  un : Under B newId initId Bs bmB
  made : PySem.W.excInitIn K C bmB newId = true
  ov : PySem.W.excOver K C bmB = true
  cls : ∃ cd, PySem.W.clsIn K C = some cd ∧ cd.hasDict = true
  sa : PySem.W.findIn K (.ref C) "__setattr__" = some (some (.builtin "object.__setattr__"))
  ini : PySem.W.findIn K (.ref C) "__init__" = some (some (.ref fI))
  isF : PySem.W.isFn K (.ref fI) = true
  sup : PySem.W.ks_superIn K C C "__init__" = some (some (.builtin initId))
  sub : PySem.W.subIn K (.ref C) (.type Bs) = some true
  self : PySem.W.subIn K (.ref C) (.ref C) = some true
  op : PySem.W.nsIn K cStatics "thirdparty.any" = some none
  exC : PySem.W.subIn K (.ref C) (.type "BaseException") = some true
  tyC : PySem.W.typeIn K (.ref C) = some (.type "type")
  kC : PySem.W.keepIn K (.ref C) = true
section
variable {X : Cx} {pins : List (Addr × Obj)} {σ : L2.St} {H : Hp} {s : Shared} {a C dx : Addr} {f : Str} {y : V} {u : Value} {fs : List (Str × V)} {Q : Unit → Shared → Prop} {E : Value → Shared → Prop} {A : Around} {fI : Addr} {B newId initId Bs : String} {bmB : List Value}
theorem ext_ne {φ : Heap → Prop} {o : HO} (h : ∀ ψ, o ≠ .ext ψ) : HO.ext φ ≠ o := fun z => h φ z.symm
/-- the object gets its dict -/
theorem inv_first {hp h' : Heap} {g : Array GenState} {dr : Drawn} {t tk' : Nat} {os : OsState} {t1 : Addr} {mA : Str → Option Value} (I : Inv X pins σ H ⟨hp, g, dr, t, os⟩) (e : H a = some (exo a C none))
    (k : ∀ b o, b ≠ a → hp.get? b = some o → h'.get? b = some o) (dn : hp.objs.size ≤ dx) (dne : dx ≠ a) (hx : h'.get? a = some ({ cls := .ref C, dict := some dx, data := .fields #[.ref t1, .none, .none, .none, .bool false, .none] } : Obj))
    (hn : h'.Ns1 dx mA) (rel : ∀ f, RelO (fs.lookup f) (mA f)) : H dx = none ∧ Inv X pins σ (upd (upd H dx (exd dx fs)) a (exo a C (some dx))) ⟨h', g, dr, tk', os⟩ := by
  have new : H dx = none := I.hok.fresh dn
  have offD : ∀ {b : Addr} {o : Obj}, hp.get? b = some o → b ≠ dx := fun {b o} q => Nat.ne_of_lt (Nat.lt_of_lt_of_le (Heap.lt_size q) dn)
  have offA : ∀ {b : Addr}, H b = none → b ≠ a := fun {b} n z => by
    rw [z, e] at n
    cases n
  have keepU : ∀ {b : Addr} {o : HO}, H b = some o → (∀ ψ, o ≠ .ext ψ) → upd (upd H dx (exd dx fs)) a (exo a C (some dx)) b = some o := fun {b o} q ne => by
    have ba : b ≠ a := at_ne e q (ext_ne ne)
    rw [upd_ne ba, upd_ne (ne_of_none q new)]
    exact q
  have U : Un X.fs [] H (upd (upd H dx (exd dx fs)) a (exo a C (some dx))) hp h' :=
    { keep := fun b o q n _ _ => k b o (offA n) q
      slot := fun b o q n _ _ => ⟨o.slots, k b o (offA n) q⟩
      free := fun b o q n _ => by
        rw [upd_ne (offA n), upd_ne (offD q)]
        exact n
      there := fun b o q _ => by
        by_cases ba : b = a
        · rw [ba]
          exact ⟨_, hx⟩
        · exact ⟨o, k b o ba q⟩
      tups := fun b xs q => keepU q fun ψ z => by cases z
      frzs := fun b o v q => keepU q fun ψ z => by cases z
      tbls := fun b ps q => ⟨#[], by rw [keepU q fun ψ z => by cases z]; simp⟩ }
  refine ⟨new, I.un (t' := tk') U fun b o q => ?_⟩
  by_cases ba : b = a
  · subst ba
    rw [upd_same] at q
    cases q
    exact exo_ok hx
  · rw [upd_ne ba] at q
    by_cases bd : b = dx
    · subst bd
      rw [upd_same] at q
      cases q
      exact exd_ok hn rel
    · rw [upd_ne bd] at q
      refine (I.hok b o q).stay (fun c v hc z => k c v ?_ z) (fun c hc => keepU hc fun ψ z => by cases z) (fun c xs hc => keepU hc fun ψ z => by cases z)
      rcases hc with hc | hc
      · rw [hc]
        exact ba
      · exact at_ne e hc exo_own
/-- self.f = y, the first -/
theorem keep_first (T : ExC X.K C fI B newId initId Bs bmB) (I : Inv X pins σ H s) (e : H a = some (exo a C none)) (tak : PySem.W.takerIn X.K C f = some none) (ry : RelV y u)
    (go : ∀ dx s', H dx = none → dx ≠ a → Inv X pins σ (upd (upd H dx (exd dx [(f, y)])) a (exo a C (some dx))) s' → Q () s') : wpAny (model X.prog X.w) A (setAttr (.ref a) f u) Q E s := by
  obtain ⟨cd, cl, has⟩ := T.cls
  obtain ⟨t1, at0⟩ := exo_at I.hok e
  obtain ⟨hp, g, dr, t, os⟩ := s
  refine PySem.W.set_plain I.kIn (ox := { cls := .ref C, dict := none, data := .fields #[.ref t1, .none, .none, .none, .bool false, .none] }) (od := none) ⟨at0, rfl, rfl, trivial⟩ T.sa ?_
  refine E1.field_first T.un.sf I.kIn at0 cl has T.ov tak fun h' tk' dx k dn dne hx hn => ?_
  have J := inv_first (tk' := tk') (fs := [(f, y)]) I e k dn dne hx hn (relO_put (fs := []) ry fun _ => True.intro)
  exact go dx _ J.1 dne J.2
/-- self.f = y, a further one -/
theorem keep_more (T : ExC X.K C fI B newId initId Bs bmB) (I : Inv X pins σ H s) (e : H a = some (exo a C (some dx))) (ed : H dx = some (exd dx fs)) (few : fs.length ≤ 900) (tak : PySem.W.takerIn X.K C f = some none) (ry : RelV y u)
    (go : ∀ s', Inv X pins σ (upd H dx (exd dx ((f, y) :: fs))) s' → Q () s') : wpAny (model X.prog X.w) A (setAttr (.ref a) f u) Q E s := by
  obtain ⟨cd, cl, has⟩ := T.cls
  obtain ⟨t1, at0⟩ := exo_at I.hok e
  obtain ⟨mA, nsD, rel⟩ := exd_at I.hok ed
  have wi := within_of rel
  obtain ⟨hp, g, dr, t, os⟩ := s
  obtain ⟨oD, _, _, hoD, _, _⟩ := nsD.count wi
  refine PySem.W.set_plain I.kIn (ox := { cls := .ref C, dict := some dx, data := .fields #[.ref t1, .none, .none, .none, .bool false, .none] }) (od := some oD) ⟨at0, rfl, rfl, hoD⟩ T.sa ?_
  refine E1.field_more T.un.sf I.kIn at0 nsD wi (by rw [List.length_map]; omega) cl has T.ov tak fun h' tk' k hn => ?_
  have there : ∃ o, h'.get? dx = some o := by
    obtain ⟨o, _, _, e', _⟩ := hn
    exact ⟨o, e'⟩
  exact go _ (I.write (t' := tk') (x := dx) (e := dx) (o := exd dx ((f, y) :: fs)) (by rw [ed]; exact True.intro) (.inl rfl) k there (exd_ok hn (relO_put ry rel)))
end
/-- self.f = e in an own error's __init__ -/
def tKeep (K : PySem.W.Frag) (f : Str) (to te : TE) : TS := fun D σ H => te σ H fun y H1 => to σ H1 fun x H2 => ∃ (a C fI : Addr) (B newId initId Bs : String) (bmB : List Value), x = .ref a ∧ ExC K C fI B newId initId Bs bmB ∧ PySem.W.takerIn K C f = some none ∧
  ((H2 a = some (exo a C none) ∧ ∀ dx, H2 dx = none → dx ≠ a → D.nx σ (upd (upd H2 dx (exd dx [(f, y)])) a (exo a C (some dx)))) ∨
    ∃ (dx : Addr) (fs : List (Str × V)), H2 a = some (exo a C (some dx)) ∧ H2 dx = some (exd dx fs) ∧ fs.length ≤ 900 ∧ D.nx σ (upd H2 dx (exd dx ((f, y) :: fs))))
theorem ps_keep {X : Cx} {o e : Expr} {to te : TE} {f : Str} {p' pos : Pos} (ho : PE X o to) (he : PE X e te) (hs : swapsWith e (some (.Attribute o f p')) pos.line X.env = pure false := by rfl) : PS X (.Assign [.Attribute o f p'] e pos) (tKeep X.K f to te) := by
  refine ⟨fun pins s σ H D I hyp => plainObj_wpAny_Assign_Attribute (thn (he.run pins s σ H _ I hyp) fun v s1 ⟨y, H1, I1, r1, q1⟩ => thn (ho.run pins s1 σ H1 _ I1 q1) fun u s2 ⟨x, H2, I2, r2, a, C, fI, B, n, i, b2, bm, ex, T, tak, q⟩ => ?_) hs⟩
  subst ex
  obtain rfl : u = Value.ref a := r2
  rcases q with ⟨ea, q⟩ | ⟨dx, fs, ea, ed, few, q⟩
  · exact keep_first T I2 ea tak r1 fun dx s' n ne J => ⟨σ, _, J, q dx n ne⟩
  · exact keep_more T I2 ea ed few tak r1 fun s' J => ⟨σ, _, J, q⟩
end E2

set_option maxHeartbeats 4000000
namespace E3
open PySem PySem.Spec PyProof.Rows L2 E2
/-- a def within a class that says super(): it keeps the class -/
abbrev fnCl (nm ql : Str) (pr : Arguments) (bd : List Stmt) (sc : Scope) (kV doc pm : Value) (an : Option Addr) (cdv ct : Value) (cl : Addr) : FuncData := { PySem.W.fnOf nm ql pr bd sc .none kV doc pm an cdv ct with closure := [("__class__", cl)] }
structure InitFn (P : Program) (K : PySem.W.Frag) (C f : Addr) (ql : Str) (pr : Arguments) (bd : List Stmt) (sc : Scope) (fd : FuncData) : Prop where
  ex : ∃ (oc kV doc pm cdv ct : Value) (od an : Option Addr) (osl : Array (Option Value)) (cl cc : Addr) (ocl occ : Obj) (vs : Array Value) (file : Str) (tf : Tok),
    fd = fnCl "__init__" ql pr bd sc kV doc pm an cdv ct cl ∧ K.lookup f = some ⟨oc, od, .func fd, osl⟩ ∧ PySem.W.codeIn K cdv ql = true ∧ K.lookup cl = some ocl ∧ ocl.data = .cell (some (.ref C)) ∧
    cdv = .ref cc ∧ K.lookup cc = some occ ∧ occ.data = .fields vs ∧ vs[2]? = some (.str file tf) ∧ ((P.main.file : Str) == file) = true
  top : (P.main.scope.names.lookup ("super" : Str)).isSome = false
/-- its names -/
structure InitScope (N ps : List Str) (sc : Scope) : Prop where
  kind : sc.kind = .function
  co : sc.isCoroutine = false
  gen : sc.isGenerator = false
  nd : N.Nodup
  is : N = ps
  par : ∀ x ∈ ps, sc.names.lookup x = some .local
  nocell : ∀ y ∈ sc.names, y.2 ≠ .cell
  only : ∀ y ∈ sc.names, y.2 = .free → y.1 = Str.ofString "__class__"
  cls : sc.names.lookup (Str.ofString "__class__") = some .free
  sup : sc.names.lookup (Str.ofString "super") = some .globalImplicit
def cxI (P : Program) (w : World) (K : PySem.W.Frag) (mg : Str → Option Value) (base : Heap) (N : List Str) (fd : FuncData) (f : Addr) (A : Around) (outer : List Env) (s : Shared) (H : Hp) : Cx where
  prog := P
  w := w
  K := K
  mg := mg
  base := base
  A := A.deeper (callEnv fd s.heap.objs.size f)
  N := N
  s_0 := s
  H_0 := H
  env := callEnv fd s.heap.objs.size f
  outer := outer
  stack := callEnv fd s.heap.objs.size f :: outer
  ex := []
  calm := true
  fn := fun _ => false
  pn := []
  xe := fun _ _ => False
theorem zip_look : ∀ {ps : List Str} {us : List Value} {i : Nat} {x : Str} {u : Value}, ps.Nodup → ps[i]? = some x → us[i]? = some u → (ps.zip us).reverse.lookup x = some u := by
  intro ps us i x u nd hp hu
  have mem : (x, u) ∈ (ps.zip us).reverse := by
    rw [List.mem_reverse]
    refine List.mem_of_getElem? (i := i) ?_
    rw [List.getElem?_zip_eq_some]
    exact ⟨hp, hu⟩
  have uni : ∀ (l : List (Str × Value)), (∀ v, (x, v) ∈ l → v = u) → (x, u) ∈ l → l.lookup x = some u := by
    intro l
    induction l with
    | nil => intro _ h; cases h
    | cons p l ih =>
      intro h m
      obtain ⟨y, v⟩ := p
      by_cases e : x = y
      · subst e
        rw [List.lookup_cons, beq_self_eq_true]
        exact congrArg some (h v List.mem_cons_self)
      · have e2 : (x == y) = false := by simpa using e
        rw [List.lookup_cons, e2]
        refine ih (fun v' hv => h v' (List.mem_cons_of_mem _ hv)) ?_
        rcases List.mem_cons.mp m with q | q
        · exact absurd (Prod.mk.inj q).1 e
        · exact q
  refine uni _ (fun v hv => ?_) mem
  rw [List.mem_reverse] at hv
  obtain ⟨j, hj⟩ := List.getElem?_of_mem hv
  rw [List.getElem?_zip_eq_some] at hj
  have ej : j = i := (List.getElem?_inj (List.getElem?_eq_some_iff.mp hj.1).1 nd).mp (hj.1.trans hp.symm)
  rw [ej, hu] at hj
  exact (Option.some.inj hj.2).symm
section
variable {P : Program} {w : World} {K : PySem.W.Frag} {mg : Str → Option Value} {base : Heap} {C f : Addr} {ql : Str} {pr : Arguments} {bd : List Stmt} {sc : Scope} {N ps : List Str} {A : Around} {outer : List Env} {s : Shared} {H : Hp} {us : List Value} {vs : List V} {kV doc pm cdv ct : Value} {an : Option Addr} {cl : Addr} {h0 : Heap}
theorem start_init {ocl : Obj} (S : InitScope N ps sc) (hd : A.handled = none) (e0 : Env0 P w K mg base A outer s H) (hl : vs.length = ps.length) (r : Vals vs us) (lcl : K.lookup cl = some ocl) (dcl : ocl.data = .cell (some (.ref C)))
    (ns : h0.Ns s.heap.objs.size (fun x => (ps.zip us).reverse.lookup x)) (kp : ∀ b o, s.heap.get? b = some o → h0.get? b = some o) {t : Nat} :
    Inv (cxI P w K mg base N (fnCl "__init__" ql pr bd sc kV doc pm an cdv ct cl) f A outer s H) [] (start N vs) H { s with heap := h0, toks := t } := by
  have hNp := S.is
  subst hNp
  have inB : base.get? cl = some ocl := e0.mod.kin cl ocl lcl
  have inS := e0.bs cl ocl inB
  have oneC : ∀ {x : Str} {c : Addr}, (callEnv (fnCl "__init__" ql pr bd sc kV doc pm an cdv ct cl) s.heap.objs.size f).cells.lookup x = some c → x = "__class__" ∧ c = cl := by
    intro x c h
    have h : ([(Str.ofString "__class__", cl)] : List (Str × Addr)).lookup x = some c := h
    by_cases e : x = "__class__"
    · subst e
      rw [List.lookup_cons, beq_self_eq_true] at h
      exact ⟨rfl, (Option.some.inj h).symm⟩
    · have e2 : (x == (Str.ofString "__class__")) = false := by simpa using e
      rw [List.lookup_cons, e2] at h
      cases h
  refine ⟨⟨e0.mod, S.kind, rfl, rfl, Nat.le_refl _, fun x y c h1 h2 => (oneC h1).1.trans (oneC h2).1.symm, fun x hx => ?_, fun x c h _ => ?_, fun _ => hd, Around.frames_deeper e0.frames, .inr ⟨rfl, rfl⟩, fun b z => G2.not_in_nil z, e0.bs, e0.bsz, fun b _ _ z => G2.not_in_nil z, fun b z => G2.not_in_nil z, e0.funs, e0.frf⟩,
    rfl, e0.bare, Un.kept kp, ⟨_, ns, fun i x v h1 h2 _ => ?_⟩, fun x c h => ?_, e0.hok.fresh (Nat.le_refl _), fun x c h => ?_, fun p z => G2.not_in_nil z, e0.hok.kept kp, ?_⟩
  · have hx : sc.names.lookup x = some .cell ∨ sc.names.lookup x = some .free := hx
    rcases hx with q | q
    · exact absurd rfl (S.nocell _ (PySem.mem_of_lookup q))
    · have e := S.only _ (PySem.mem_of_lookup q) rfl
      dsimp only at e
      subst e
      exact ⟨cl, rfl⟩
  · exact absurd h Bool.false_ne_true
  · have hi : i < vs.length := by
      by_cases q : i < vs.length
      · exact q
      · unfold L2.start at h2
        rw [List.getElem?_append_right (by simpa using q), List.getElem?_replicate] at h2
        split at h2 <;> cases h2
    have hv : vs[i]? = some v := by
      unfold L2.start at h2
      rw [List.getElem?_append_left (by simpa using hi), List.getElem?_map] at h2
      cases e : vs[i]? with
      | none => rw [e] at h2; cases h2
      | some z => rw [e] at h2; cases h2; rfl
    obtain ⟨u, hu, rv⟩ := r.get hv
    exact ⟨u, rv, .inl ⟨S.par x (List.mem_of_getElem? h1), zip_look S.nd h1 hu⟩⟩
  · obtain ⟨_, rfl⟩ := oneC h
    exact ⟨_, ocl, kp _ _ inS.1, dcl⟩
  · obtain ⟨_, rfl⟩ := oneC h
    exact inS.2
  · unfold L2.start
    show _ = N.length
    rw [List.length_append, List.length_map, List.length_replicate]
    omega
end
end E3

set_option maxHeartbeats 4000000
namespace E4
open PySem PySem.Spec PyProof.Rows L2 E2 E3
/-- a built-in __init__ bound to an own error may be called with anything by place -/
theorem bound_init {Mo : Model} {Ar : Around} {X : Value → Shared → Prop} {st : Shared} {top newId initId : String} (F : InitF top initId) {nm qn : Str} {C N x : Addr} {ox : Obj} {bases tail : List Value} {hasD : Bool} {sn : List Str} {subs : List Value} {abs : Bool} {col : Option Bool} {dd : Option Addr}
    {j0 j1 j2 j3 j5 : Option Value} {more : List Value} {R : Unit → Shared → Prop} (atC : st.heap.get? C = some (excClassObj nm qn C N bases tail hasD sn subs abs col dd j0 j1 j2 j3 j5 newId)) (atX : st.heap.get? x = some ox) (of : ox.cls = .ref C) (fin : R () st) :
    wpAny Mo Ar (checkBoundCall initId ⟨.ref x :: more, []⟩) R X st := by
  obtain ⟨hp, gs, dr, tk, os⟩ := st
  have ns := F.star
  have free : ∀ (u v : String) (m : Nat), Bind.check ⟨.positional, "*", top, .self, [⟨"args", .varPos, false⟩]⟩ u v m [] = pure () := fun u v m => check_star_args _ _ _ _ _ _
  simp only [checkBoundCall, F.kind, F.row]
  repeat
    first
    | (with_reducible refine wpAny_loadPart_at atX ?_
       rw [of])
    | with_reducible refine wpAny_loadPart_at atC ?_
    | wp_step
  refine wpAny_onRaise ?_
  simp only [List.map_nil]
  rw [free]
  exact wpAny_pure fin
/-- the built-in __init__, bound to the object, is called -/
theorem call_bound {prog : Program} {w : World} {A : Around} {E : Value → Shared → Prop} {h : Heap} {g : Array GenState} {d : Drawn} {t : Nat} {os : OsState} {K : PySem.W.Frag} {C x u t0 : Addr} {B newId i : String} {bmB : List Value} {rest : List Value} {Q : Value → Shared → Prop}
    (X : K.In h) (FB : InitF B i) (made : PySem.W.excInitIn K C bmB newId = true) (at1 : h.get? x = some ({ cls := .ref C, dict := none, data := .fields #[.ref t0, .none, .none, .none, .bool false, .none] } : Obj)) (atU : h.get? u = some (PySem.W.kxs_mw i x)) (few : rest.length ≤ sizeLine)
    (go : ∀ h' t1, (∀ b o, b ≠ x → h.get? b = some o → h'.get? b = some o) → h'.get? x = some ({ cls := .ref C, dict := none, data := .fields #[.ref t1, .none, .none, .none, .bool false, .none] } : Obj) → Q .none ⟨h', g, d, t, os⟩) :
    wpAny (model prog w) A (call (.ref u) rest) Q E ⟨h, g, d, t, os⟩ := by
  obtain ⟨nm, N', qn, bs, bm, hdct, sn, sub, ab, col, dd, k0, k1, k2, k3, k5, hC, hT⟩ := PySem.W.excInit_of X made
  refine wpAny_call (codeAny_of_tree ?_)
  show wpAny _ A.in1 (callAny (.ref u) ⟨rest, []⟩) _ _ _
  simp only [callAny]
  refine wpAny_bind (wpAny_load atU ?_)
  have isW : (Value.type "method-wrapper" == Value.type "method" || Value.type "method-wrapper" == Value.type "builtin_function_or_method" || Value.type "method-wrapper" == Value.type "method-wrapper") = true := by decide
  simp only [PySem.W.kxs_mw, isW, if_true]
  refine PySem.W.KFB.if_so (by decide) ?_
  refine wpAny_bind (bound_init FB hC at1 rfl ?_)
  refine wpAny_bind (wpAny_pure (wpAny_pure ?_))
  refine ⟨plainId_quiet FB.plain _, codeAny_builtin FB.entry ?_⟩
  exact PySem.W.exc_init_tree (cls := .ref C) (t0 := t0) (dv := none) (c2 := .none) (c3 := .none) (b4 := .bool false) at1 few fun h' k e _ => go h' _ k e
/-- super().__init__('..'), self in the first place -/
abbrev supE (p0 p1 p2 p3 p4 : Pos) (z : Str) (k : Nat) : Expr := .Call (.Attribute (.Call (.Name "super" p0) [] [] p1) "__init__" p2) [.Constant (.str z) k p3] [] p4
section
variable {P : Program} {w : World} {K : PySem.W.Frag} {mg : Str → Option Value} {base : Heap} {C f : Addr} {ql : Str} {pr : Arguments} {bd : List Stmt} {sc : Scope} {ps : List Str} {A : Around} {outer : List Env} {s s1 : Shared} {H : Hp} {σ : L2.St} {cdv : Value}
variable {B newId initId Bs : String} {bmB : List Value} {fI : Addr}
theorem run_super {fd : FuncData} {pl : Sem Bool} {ar : Arg} {a : Addr} {p0 p1 p2 p3 p4 : Pos} {z : Str} {kk : Nat} {Q : Value → Shared → Prop} {E : Value → Shared → Prop} {body : List Stmt} (T : ExC K C f B newId initId Bs bmB) (F : InitFn P K C f ql pr bd sc fd) (S : InitScope ps ps sc)
    (hp : (pr.posonlyargs ++ pr.args).head? = some ar) (p0s : ps[0]? = some ar.arg) (ms : mg "super" = none) (I : Inv (cxI P w K mg base ps fd f A outer s H) [] σ H s1) (sl : σ[0]? = some (some (.ref a))) (ea : H a = some (exo a C none))
    (he : eval (supE p0 p1 p2 p3 p4 z kk) (callEnv fd s.heap.objs.size f) = (do
      let ov ← attributeBase (.Call (.Name "super" p0) [] [] p1) "__init__" (callEnv fd s.heap.objs.size f) (eval (.Call (.Name "super" p0) [] [] p1) (callEnv fd s.heap.objs.size f))
      standAt p2.atName
      let (m, first) ← holding [ov] (getMethod ov "__init__" pl)
      callWith p4 m first (backTo p4 (starEach [.Constant (.str z) kk p3] (callEnv fd s.heap.objs.size f))) []))
    (go : ∀ s2, Inv (cxI P w K mg base ps fd f A outer s H) [] σ H s2 → Q .none s2) :
    PySem.wpAt (model P w) (A.deeper (callEnv fd s.heap.objs.size f)) (.func body (callEnv fd s.heap.objs.size f)) (eval (supE p0 p1 p2 p3 p4 z kk) (callEnv fd s.heap.objs.size f)) Q E s1 := by
  obtain ⟨oc, kV, doc, pm, cdv, ct, od, an, osl, cl, cc, ocl, occ, vs, file, tf, rfl, lf, cod, lcl, dcl, rfl, lcc, dcc, vfile, isf⟩ := F.ex
  have KX := I.kIn
  obtain ⟨cd, hcl, hasD⟩ := T.cls
  have env0 : callEnv (fnCl "__init__" ql pr bd sc kV doc pm an (.ref cc) ct cl) s.heap.objs.size f = (cxI P w K mg base ps (fnCl "__init__" ql pr bd sc kV doc pm an (.ref cc) ct cl) f A outer s H).env := rfl
  obtain ⟨nm, N', qn, bs, bm, hdct, sn, sub, ab, col, dd, k0, k1, k2, k3, k5, hC, hT⟩ := PySem.W.excInit_of KX T.made
  obtain ⟨t0, atA⟩ := exo_at I.hok ea
  obtain ⟨m, hn, hv⟩ := I.loc
  obtain ⟨u, ru, look⟩ := hv 0 ar.arg (.ref a) p0s sl (.inl (S.par _ (List.mem_of_getElem? p0s)))
  obtain rfl : u = Value.ref a := ru
  have mself : m ar.arg = some (.ref a) := by
    rcases look with ⟨_, q⟩ | ⟨q, _⟩
    · exact q
    · have loc : sc.names.lookup ar.arg = some .local := S.par _ (List.mem_of_getElem? p0s)
      have q : sc.names.lookup ar.arg = some .cell ∨ sc.names.lookup ar.arg = some .free := q
      rw [loc] at q
      rcases q with q | q <;> cases q
  obtain ⟨mb, b1, b2⟩ := I.mod.blt
  refine PySem.ks_wpAt_MethodCall (PySem.ks_wpAt_super_base (f := f) (ar := ar) S.sup S.cls (by decide) rfl (KX _ _ lf) rfl hp rfl (KX _ _ lcc) dcc vfile isf F.top ?_) he
  rw [show loadName (callEnv (fnCl "__init__" ql pr bd sc kV doc pm an (.ref cc) ct cl) s.heap.objs.size f) "super" = loadGlobal (callEnv (fnCl "__init__" ql pr bd sc kV doc pm an (.ref cc) ct cl) s.heap.objs.size f) "super" from loadName_read S.kind S.sup]
  refine Calls.loadGlobal_builtin (mg := mg) (mb := mb) (show s1.heap.Ns mainGlobals mg from I.mod.glob.keeps I.bk) ms (show s1.heap.Ns builtinsNs mb from b1.keeps I.bk) ((b2 _ (by decide)).trans (show bootBuiltins "super" = some (.type "super") by decide +kernel)) ⟨rfl, ?_⟩
  refine wpAny_loadName_free S.kind S.cls (c := cl) rfl ⟨ocl, KX _ _ lcl, dcl⟩ ?_
  refine wpAny_loadName_local S.kind (S.par _ (List.mem_of_getElem? p0s)) hn mself ?_
  obtain ⟨hp1, g, dr, t, os⟩ := s1
  refine PySem.ks_wpAny_isType_cls hC rfl ⟨rfl, ?_⟩
  refine PySem.ks_wpAny_call_super hC rfl atA rfl (fun c z => by cases z) (PySem.W.looks_subIn KX T.self) fun h2 atS kS => ?_
  have K2 := KX.keeps kS
  have atA2 := kS _ _ atA
  have Ia : PySem.W.InstAt h2 a ({ cls := .ref C, dict := none, data := .fields #[.ref t0, .none, .none, .none, .bool false, .none] } : Obj) C none := ⟨atA2, rfl, rfl, trivial⟩
  have sup := T.sup
  unfold PySem.W.ks_superIn at sup
  rw [hcl] at sup
  refine PySem.W.kxs_getMethod T.un.kx atS (PySem.W.looks_opaque K2 T.op) (l₀ := cd.mro) (fun A Q E s k q => wpAny_bind ((PySem.W.looks_clsIn K2 hcl) A _ E s k (wpAny_pure q))) rfl K2 sup (Ia.type.andThen (PySem.W.looks_subIn K2 T.sub)) (PySem.W.ks_ne K2 Ia hcl) (by decide) ?_
  have k3' : ∀ b o, hp1.get? b = some o → (h2.push (PySem.W.kxs_mw initId a)).get? b = some o := fun b o e => Heap.get?_push_of_some _ (kS b o e)
  refine PySem.W.kxs_callWith (i := initId) (x := a) rfl (Calls.evalArgs_plain ?_)
  refine Calls.spliced_cons (Calls.Constant_str (k := kk) (pos := p3) ?_)
  refine Calls.spliced_nil ⟨?_, ?_⟩
  · exact Heap.get?_push_at rfl rfl
  · refine call_bound (KX.keeps k3') T.un.inf T.made (k3' _ _ atA) (Heap.get?_push_at rfl rfl) (by show 1 ≤ sizeLine; decide) fun h4 t1 k4 at4 => ?_
    refine go _ ?_
    have J := (I.kept (h' := h2.push (PySem.W.kxs_mw initId a)) (t' := 0) k3').write (t' := t + 1 + 1) (x := a) (e := a) (o := exo a C none) (by rw [ea]; exact True.intro) (.inl rfl) k4 ⟨_, at4⟩ (exo_ok at4)
    have eu : upd H a (exo a C none) = H := by
      funext b
      by_cases hb : b = a
      · rw [hb, upd_same, ea]
      · rw [upd_ne hb]
    rw [eu] at J
    exact J
end
end E4

set_option maxHeartbeats 4000000
namespace E5
open PySem PySem.Spec PyProof.Rows L2 E2 E3 E4
section
variable {P : Program} {w : World} {K : PySem.W.Frag} {mg : Str → Option Value} {base : Heap} {C f : Addr} {ql : Str} {pr : Arguments} {rest : List Stmt} {sc : Scope} {ps : List Str} {B newId initId Bs : String} {bmB : List Value} {p0 p1 p2 p3 p4 p5 : Pos} {z : Str} {kk : Nat}
/-- what is asked of the text of super().__init__('..') -/
structure SupOk (fd : FuncData) (f : Addr) (p0 p1 p2 p3 p4 p5 : Pos) (z : Str) (kk : Nat) : Prop where
  he : ∀ L : Addr, ∃ pl : Sem Bool, eval (supE p0 p1 p2 p3 p4 z kk) (callEnv fd L f) = (do
      let ov ← attributeBase (.Call (.Name "super" p0) [] [] p1) "__init__" (callEnv fd L f) (eval (.Call (.Name "super" p0) [] [] p1) (callEnv fd L f))
      standAt p2.atName
      let (m, first) ← holding [ov] (getMethod ov "__init__" pl)
      callWith p4 m first (backTo p4 (starEach [.Constant (.str z) kk p3] (callEnv fd L f))) [])
  hi : ∀ L : Addr, interactive (callEnv fd L f) = false
  hs : ∀ L : Addr, swapsWith (supE p0 p1 p2 p3 p4 z kk) none p5.line (callEnv fd L f) = pure false
theorem ok_init {CX : CXT} {sp : Sp} {fd : FuncData} {ar : Arg} {k : Nat} (T : ExC K C f B newId initId Bs bmB) (F : InitFn P K C f ql pr (.Expr (supE p0 p1 p2 p3 p4 z kk) p5 :: rest) sc fd) (S : InitScope ps ps sc) (hp : (pr.posonlyargs ++ pr.args).head? = some ar) (p0s : ps[0]? = some ar.arg)
    (ms : mg "super" = none) (U : SupOk fd f p0 p1 p2 p3 p4 p5 z kk) (len : ∀ vs H Q E, sp vs H Q E → vs.length = ps.length)
    (self : ∀ vs H Q E, sp vs H Q E → ∃ a ws, vs = .ref a :: ws ∧ H a = some (exo a C none))
    (body : ∀ (A : Around) (outer : List Env) (s : Shared) (H : Hp) (vs : List V) (Q : VK) (E : XK), sp vs H Q E → ∃ t, PSs (cxI P w K mg base ps fd f A outer s H) rest t ∧ t { nx := fun _ H' => Q .non H', rt := Q } (start ps vs) H) :
    FnOk P w K mg base CX (k + 1) f fd ps sp := by
  refine ⟨len, fun A outer s H args us vs Q E hr e0 hb r hyp => ?_⟩
  have F0 := F
  obtain ⟨oc, kV, doc, pm, cdv, ct, od, an, osl, cl, cc, ocl, occ, fv, file, tf, efd, lf, cod, lcl, dcl, ecd, lcc, dcc, vfile, isf⟩ := F.ex
  have inS : K.In s.heap := e0.mod.kin.keeps fun b o e => (e0.bs b o e).1
  have noL : s.heap.NoLimit := e0.mod.nolimit.keeps fun b o e => (e0.bs b o e).1
  have hl := len _ _ _ _ hyp
  obtain ⟨a, ws, ev, ea⟩ := self _ _ _ _ hyp
  obtain ⟨t, pt, tt⟩ := body A outer s H vs Q E hyp
  have hcd : s.heap.CodeRec fd.code fd.qualname := by rw [efd]; exact PySem.W.codeRec_of inS cod
  refine PySem.ks_codeAny_call_defAt (body := .Expr (supE p0 p1 p2 p3 p4 z kk) p5 :: rest) hr.depth (inS _ _ lf) rfl noL hcd (by rw [efd]) hb (by rw [efd]; exact S.nocell) (fun x hx => ?_) (fun h0 ns kp => ?_) (by rw [efd]; exact S.co) (by rw [efd]; exact S.gen) (by rw [efd]; exact S.kind)
  · obtain ⟨n, v⟩ := x
    rw [efd]
    exact S.par n (List.of_mem_zip hx).1
  · have I : Inv (cxI P w K mg base ps fd f A outer s H) [] (start ps vs) H { s with heap := h0, toks := s.toks + (ps.zip us).length } := by
      rw [efd]
      exact start_init S hr.hd e0 hl r lcl dcl ns kp
    obtain ⟨pl, he⟩ := U.he s.heap.objs.size
    refine PySem.ks_wpAt_execs_cons (PySem.ks_wpAt_Expr_any (run_super T F0 S hp p0s ms I (by rw [ev]; rfl) ea he fun s2 J => ?_) (U.hi _) (U.hs _))
    refine wpAt_of_wpAny (wpAny_mono (pt.run [] s2 _ H _ J tt) (fun fl s3 h3 => ?_) fun e s3 h3 => h3.elim)
    cases fl with
    | ret u =>
      obtain ⟨v, σ', H', J', rv, q⟩ := h3
      exact ⟨v, H', J'.os, J'.bare, J'.base, J'.hok, rv, q⟩
    | next =>
      obtain ⟨σ', H', J', q⟩ := h3
      exact ⟨.non, H', J'.os, J'.bare, J'.base, J'.hok, rfl, q⟩
    | brk =>
      obtain ⟨_, _, _, q⟩ := h3
      exact q.elim
    | cont =>
      obtain ⟨_, _, _, q⟩ := h3
      exact q.elim
end
end E5

set_option maxHeartbeats 4000000
namespace E6
open PySem PySem.W
section
variable {M : Model} {prog : Program} {w : World} {A : Around} {E : Value → Shared → Prop} {R : Result → Shared → Prop} {h : Heap} {g : Array GenState} {d : Drawn} {t : Nat} {os : OsState}
variable {nm q : Str} {C N : Addr} {bs bm bmB : List Value} {hdct : Bool} {sn : List Str} {sub : List Value} {ab : Bool} {col : Option Bool} {dd : Option Addr} {k0 k1 k2 k3 k5 : Option Value} {B newId initId : String} {kw : List (Str × Value)}
theorem may_new (F : ExcBaseFacts B newId initId bmB) (cB : (Value.ref C :: bm).contains (.type B) = true) {rest : List Value} {Q : Unit → Shared → Prop}
    (hC : h.get? C = some (excClassObj nm q C N bs bm hdct sn sub ab col dd k0 k1 k2 k3 k5 newId)) (go : Q () ⟨h, g, d, t, os⟩) : wpAny M A (checkBuiltinCall newId ⟨.ref C :: rest, kw⟩) Q E ⟨h, g, d, t, os⟩ := by
  have star := F.noStar
  simp only [checkBuiltinCall, F.newKind, F.newSplit, F.newRow]
  repeat (first | refine wpAny_loadPart_at hC ?_ | (refine wpAny_isSubtype_exc hC ?_; rw [cB]) | refine wpAny_staticBase_exc hC ?_ | refine wpAny_madeBy_exc hC ?_ | simp only [bne_self_eq_false, Bool.false_eq_true, if_false] | wp_step)
  exact go
theorem new_obj (F : ExcBaseFacts B newId initId bmB) (cB : (Value.ref C :: bm).contains (.type B) = true) (cA : (Value.ref C :: bm).contains (.type "AttributeError") = false) (cN : (Value.ref C :: bm).contains (.type "NameError") = false) {rest : List Value}
    (hC : h.get? C = some (excClassObj nm q C N bs bm hdct sn sub ab col dd k0 k1 k2 k3 k5 newId)) (few : rest.length ≤ sizeLine)
    (go : R (.ok (.ret (.ref (h.objs.size + 1)))) ⟨(h.push (kdv_tup rest)).push (HandSPX.excO C h.objs.size), g, d, t, os⟩) :
    codeAny (model prog w) A (.builtin newId ⟨.ref C :: rest, kw⟩) R ⟨h, g, d, t, os⟩ := by
  have ends := F.ends
  refine codeAny_builtinAt F.entry ?_
  unfold Builtin.«BaseException.__new__»
  refine wpAt_bind ?_
  show wpAt _ _ _ (stack >>= _) _ _ _
  refine wpAt_bind (wpAt_stack fun p below => wpAt_of_wpAny ?_)
  wp_walk
  refine wpAt_of_wpAny ?_
  rw [F.owner]
  repeat (first | with_reducible refine wpAny_madeHere_exc F.canon hC ?_ | with_reducible refine wpAny_loadPart_at hC ?_ | (with_reducible refine wpAny_isSubtype_exc hC ?_; first | rw [cB] | rw [cA] | rw [cN]) | wp_step)
  show R _ _
  rw [Heap.size_push]
  exact go
theorem run_type (F : ExcBaseFacts B newId initId bmB) (cB : (Value.ref C :: bm).contains (.type B) = true) (cA : (Value.ref C :: bm).contains (.type "AttributeError") = false) (cN : (Value.ref C :: bm).contains (.type "NameError") = false) {rest : List Value} {fI : Addr} {Q : Fin → Shared → Prop}
    (hC : h.get? C = some (excClassObj nm q C N bs bm hdct sn sub ab col dd k0 k1 k2 k3 k5 newId)) (ini : Looks (model prog w) h (typeLookup (.ref C) "__init__") (some (.ref fI))) (bnd : ∀ self, Looks (model prog w) h (bindSpecial (.ref fI) self) (.ref fI, [self])) (few : rest.length ≤ sizeLine)
    (go : codeAny (model prog w) A (.call (.ref fI) ⟨.ref (h.objs.size + 1) :: rest, kw⟩)
      (fun r s' => match r with | .ok (.ret v) => v = .none ∧ Q (.done (.ret (.ref (h.objs.size + 1)))) s' | .ok _ => False | .error e => E e s') ⟨(h.push (kdv_tup rest)).push (HandSPX.excO C h.objs.size), g, d, t, os⟩) :
    wpAny (model prog w) A (Builtin.«type.__call__» ⟨.ref C :: rest, kw⟩) Q E ⟨h, g, d, t, os⟩ := by
  have up : ∀ b o, h.get? b = some o → ((h.push (kdv_tup rest)).push (HandSPX.excO C h.objs.size)).get? b = some o := fun b o e => Heap.get?_push_of_some _ (Heap.get?_push_of_some _ e)
  have hC2 := up _ _ hC
  have mine : ((h.push (kdv_tup rest)).push (HandSPX.excO C h.objs.size)).get? (h.objs.size + 1) = some (HandSPX.excO C h.objs.size) := by heap_get
  have cC : (Value.ref C :: bm).contains (.ref C) = true := by simp
  have ini2 := ini.keeps up
  have bnd2 := (bnd (.ref (h.objs.size + 1))).keeps up
  repeat (first | with_reducible refine wpAny_loadPart_at hC ?_ | with_reducible refine wpAny_madeBy_exc hC ?_ | wp_step)
  refine codeAny_call_builtin_code (Code.quiet_builtin _ F.quiet) (may_new F cB hC (new_obj F cB cA cN hC few ?_))
  show wpAny _ _ _ _ _ _
  unfold isInstance
  repeat (first | with_reducible refine wpAny_loadPart_at mine ?_ | (with_reducible refine wpAny_isSubtype_exc hC2 ?_; rw [cC]) | wp_step)
  show wpAny _ _ (typeLookup (.ref C) _) _ _ _
  refine ini2.at (wpAny_holding (wpAny_bind (bnd2.at ?_)))
  refine wpAny_bind (wpAny_call (codeAny_mono go fun r s' z => ?_))
  rcases r with e | (v | _ | _ | _) <;> first | exact z | exact z.elim | skip
  obtain ⟨rfl, z⟩ := z
  first | exact wpAny_pure (wpAny_pure z) | (wp_walk; exact z)
theorem may_call {rest : List Value} {Q : Unit → Shared → Prop} (hC : h.get? C = some (excClassObj nm q C N bs bm hdct sn sub ab col dd k0 k1 k2 k3 k5 newId)) (go : Q () ⟨h, g, d, t, os⟩) :
    wpAny M A (checkBuiltinCall "type.__call__" ⟨.ref C :: rest, kw⟩) Q E ⟨h, g, d, t, os⟩ := by
  have l3 := tc_sub
  have isT : (⟨h, g, d, t, os⟩ : Shared).TypeIs (.ref C) "type" := ⟨_, hC, rfl⟩
  simp only [checkBuiltinCall, tc_kind, tc_split]
  repeat (any_goals (first | assumption | with_reducible refine wpAny_loadPart_at hC ?_ | with_reducible refine wpAny_onRaise ?_ | with_reducible refine wpAny_map ?_ | wp_step))
theorem call_made (F : ExcBaseFacts B newId initId bmB) (cB : (Value.ref C :: bm).contains (.type B) = true) (cA : (Value.ref C :: bm).contains (.type "AttributeError") = false) (cN : (Value.ref C :: bm).contains (.type "NameError") = false) {rest : List Value} {fI : Addr}
    (hC : h.get? C = some (excClassObj nm q C N bs bm hdct sn sub ab col dd k0 k1 k2 k3 k5 newId)) (ini : Looks (model prog w) h (typeLookup (.ref C) "__init__") (some (.ref fI))) (bnd : ∀ self, Looks (model prog w) h (bindSpecial (.ref fI) self) (.ref fI, [self])) (few : rest.length ≤ sizeLine)
    (go : codeAny (model prog w) (A.under (.builtin "type.__call__" ⟨.ref C :: rest, kw⟩)) (.call (.ref fI) ⟨.ref (h.objs.size + 1) :: rest, kw⟩) (InitBack (h.objs.size + 1) R) ⟨(h.push (kdv_tup rest)).push (HandSPX.excO C h.objs.size), g, d, t, os⟩) :
    codeAny (model prog w) A (.call (.ref C) ⟨rest, kw⟩) R ⟨h, g, d, t, os⟩ := by
  have l1 := tc_lookup
  have l2 := tc_bind (.ref C)
  have isT : (⟨h, g, d, t, os⟩ : Shared).TypeIs (.ref C) "type" := ⟨_, hC, rfl⟩
  refine codeAny_of_tree ?_
  show wpAny _ _ (callAny (.ref C) _) _ _ _
  repeat (any_goals (first | assumption | with_reducible refine wpAny_loadPart_at hC ?_ | wp_step))
  refine ⟨rfl, codeAny_call_builtin_at (Code.quiet_builtin _ (by decide +kernel)) entry_typeCall (may_call hC (run_type F cB cA cN hC ini bnd few ?_))⟩
  refine codeAny_mono go fun r s' z => ?_
  rcases r with e | (v | _ | _ | _) <;> exact z
end
end E6

set_option maxHeartbeats 4000000
namespace E7
open PySem PySem.Spec PyProof.Rows L2 E2 E3 E4 E5
/-- C(..), an own error as a value -/
def tErr (C : Addr) (sp : Sp) (gV : List V → List V → List V) (ta tk : TA) : TE := fun σ H Q => ta σ H fun vs H1 => tk σ H1 fun zs H2 => vs.length ≤ 1000 ∧
  ∀ a, H2 a = none → sp (gV (.ref a :: vs) zs) (upd H2 a (exo a C none)) (fun v H3 => v = .non ∧ Q (.ref a) H3) fun _ _ _ => False
section
variable {X : Cx} {pins : List (Addr × Obj)} {σ : L2.St} {H : Hp} {s : Shared} {C fI : Addr} {B newId initId Bs : String} {bmB : List Value} {k : Nat} {fd : FuncData} {ps ks : List Str} {sp : Sp} {g : List Value → List Value → List Value} {gV : List V → List V → List V} {vs zs : List V} {us ws : List Value} {Q : VK}
theorem tl_has {l : List Value} (z : String) (h : PySem.W.excTail bmB l = true) : (Value.ref C :: l).contains (.type z) = bmB.contains (.type z) := by
  rw [List.contains_cons, PySem.W.excTail_contains z l h]
  rfl
theorem run_err (T : ExC X.K C fI B newId initId Bs bmB) (F1 : FnOk X.prog X.w X.K X.mg X.base CX0 k fI fd ps sp) (hr : Room (k + 1) X.A) (kb : KBinds X.K fd ps ks g gV) (I : Inv X pins σ H s) (r : Vals vs us) (rz : Vals zs ws) (few : vs.length ≤ 1000)
    (hyp : ∀ a, H a = none → sp (gV (.ref a :: vs) zs) (upd H a (exo a C none)) (fun v H3 => v = .non ∧ Q (.ref a) H3) fun _ _ _ => False) :
    wpAny (model X.prog X.w) X.A (call (.ref C) us (ks.zip ws)) (EP X pins σ Q) X.xe s := by
  obtain ⟨_, bmE, eb⟩ := T.un.eb
  have KX := I.kIn
  obtain ⟨nm, N', qn, bs, bm, hdct, sn, sub, ab, col, dd, k0, k1, k2, k3, k5, hC, hT⟩ := PySem.W.excInit_of KX T.made
  have con : ∀ z : String, (Value.ref C :: bm).contains (.type z) = bmB.contains (.type z) := fun z => by
    rw [List.contains_cons, hT]
    rfl
  obtain ⟨hp, g0, dr, tk, os⟩ := s
  have new : H (hp.objs.size + 1) = none := I.hok.fresh (Nat.le_succ _)
  have hq := hyp (hp.objs.size + 1) new
  have up : ∀ b o, hp.get? b = some o → ((hp.push (PySem.W.kdv_tup us)).push (HandSPX.excO C hp.objs.size)).get? b = some o := fun b o e => Heap.get?_push_of_some _ (Heap.get?_push_of_some _ e)
  have mine : ((hp.push (PySem.W.kdv_tup us)).push (HandSPX.excO C hp.objs.size)).get? (hp.objs.size + 1) = some (HandSPX.excO C hp.objs.size) := by heap_get
  have I2 : Inv X pins σ (upd H (hp.objs.size + 1) (exo (hp.objs.size + 1) C none)) ⟨(hp.push (PySem.W.kdv_tup us)).push (HandSPX.excO C hp.objs.size), g0, dr, tk, os⟩ :=
    I.laid (t' := tk) (a := hp.objs.size + 1) (o := exo (hp.objs.size + 1) C none) (h' := (hp.push (PySem.W.kdv_tup us)).push (HandSPX.excO C hp.objs.size)) up (Nat.le_succ _) (exo_ok mine)
  have r1 : Vals (V.ref (hp.objs.size + 1) :: vs) (Value.ref (hp.objs.size + 1) :: us) := .cons rfl r
  have r2 := kb.rel r1 rz
  have hl : (g (Value.ref (hp.objs.size + 1) :: us) ws).length = ps.length := by
    rw [← r2.length, F1.len _ _ _ _ hq]
  have hus : us.length ≤ sizeLine := by
    rw [← Paired.length r, sizeLine_eq]
    omega
  obtain ⟨oI, hoI, hcI⟩ : ∃ oI, hp.get? fI = some oI ∧ oI.cls = .type "function" := by
    obtain ⟨o, ho, hc⟩ := Option.map_eq_some_iff.mp (show (X.K.lookup fI).map (·.cls) = some (.type "function") from beq_iff_eq.mp T.isF)
    exact ⟨o, KX _ _ ho, hc⟩
  refine wpAny_call (E6.call_made eb ((con B).trans T.un.hasB) ((con _).trans T.un.noA) ((con _).trans T.un.noN) hC (PySem.W.looks_findIn KX T.ini) (fun self => PySem.W.exc_bind hoI hcI self) hus ?_)
  refine codeAny_mono (F1.run _ X.stack _ _ ⟨Value.ref (hp.objs.size + 1) :: us, ks.zip ws⟩ (g (Value.ref (hp.objs.size + 1) :: us) ws) _ _ (fun _ _ _ => False) (hr.make C us (ks.zip ws)) (I2.env0.make C us (ks.zip ws)) (kb.to _ _ ws I2.kIn hl) r2 hq) fun rr s' hq' => ?_
  match rr, hq' with
  | .error er, z => exact z.elim
  | .ok .next, z => exact z.elim
  | .ok .brk, z => exact z.elim
  | .ok .cont, z => exact z.elim
  | .ok (.ret u), z =>
    obtain ⟨v, H3, I3, rv, ev, q3⟩ := I2.after z
    subst ev
    exact ⟨rv, .ref _, H3, I3, rfl, q3⟩
end
section
variable {X : Cx} {C fI : Addr} {B newId initId Bs : String} {bmB : List Value} {k : Nat} {fd : FuncData} {ps ks : List Str} {sp : Sp} {g : List Value → List Value → List Value} {gV : List V → List V → List V} {x : Str} {p pos : Pos} {e : Expr} {es : List Expr} {kws : List Keyword} {ta tk : TA}
/-- C(e, ..) -/
theorem pe_err (T : ExC X.K C fI B newId initId Bs bmB) (F1 : FnOk X.prog X.w X.K X.mg X.base CX0 k fI fd ps sp) (hr : Room (k + 1) X.A) (kb : KBinds X.K fd ps [] g gV) (hg : Gl X x) (hm : X.mg x = some (.ref C)) (ha : PA X (e :: es) ta)
    (hdb : (x == ("__debug__" : Str)) = false := by decide) (he : starEach (e :: es) X.env = (false, eval e X.env) :: starEach es X.env := by rfl) (hpl : (backTo pos (starEach es X.env)).any (·.1) = false := by rfl) :
    PE X (.Call (.Name x p) (e :: es) [] pos) (tErr C sp gV ta tNil) := by
  refine ⟨fun pins s σ H Q I hyp => wpAny_Call_Name_kw (ld_glob I hg hm ?_ hdb)⟩
  refine PySem.W.callWith_K (h₀ := X.base) I.ok.mod.kin T.kC (thn (ha.run pos pins s σ H _ I hyp) fun us s1 ⟨vs, H1, I1, r1, few, q1⟩ => ⟨I1.kIn, ?_⟩) he hpl
  exact run_err (ks := []) (ws := []) (zs := []) T F1 hr kb I1 r1 .nil few q1
/-- C(k = v, ..) -/
theorem pe_errK (T : ExC X.K C fI B newId initId Bs bmB) (F1 : FnOk X.prog X.w X.K X.mg X.base CX0 k fI fd ps sp) (hr : Room (k + 1) X.A) (kb : KBinds X.K fd ps ks g gV) (hg : Gl X x) (hm : X.mg x = some (.ref C)) (pk : PK X kws tk)
    (h1 : (backToKw pos (keywordEach kws X.env)).all (·.1.isSome) = true := by rfl) (h2 : (backToKw pos (keywordEach kws X.env)).filterMap (·.1) = ks := by rfl) (h3 : (x == ("__debug__" : Str)) = false := by decide)
    (h4 : ((backTo pos (starEach [] X.env)).any (·.1) || (backToKw pos (keywordEach kws X.env)).any (·.1.isNone)) = false := by rfl) :
    PE X (.Call (.Name x p) [] kws pos) (tErr C sp gV tNil tk) := by
  refine ⟨fun pins s σ H Q I hyp => wpAny_Call_Name_kw (ld_glob I hg hm ?_ h3)⟩
  refine PySem.W.callWith_KW0 (h₀ := X.base) I.ok.mod.kin T.kC h1 (thn (pk.run pos pins s σ H _ I hyp) fun ws s2 ⟨zs, H2, I2, rz, few, q2⟩ => ⟨I2.kIn, ?_⟩) h4
  rw [h2]
  exact run_err (us := []) (vs := []) T F1 hr kb I2 .nil rz few q2
end
end E7

set_option maxHeartbeats 4000000
namespace E8
open PySem PySem.Spec PyProof.Rows L2 E2 E3 E4 E5 E7
/-- err.f -/
def tErrF (K : PySem.W.Frag) (f : Str) (te : TE) : TE := fun σ H Q => te σ H fun x H1 => ∃ (a C dx : Addr) (fs : List (Str × V)) (v : V), x = .ref a ∧ ExcC K C ∧ PySem.W.findIn K (.ref C) f = some none ∧ H1 a = some (exo a C (some dx)) ∧ H1 dx = some (exd dx fs) ∧ fs.lookup f = some v ∧ Q v H1
theorem pe_errF {X : Cx} {e : Expr} {te : TE} {pos : Pos} {n : Str} (he : PE X e te) (hb : attributeBase e n X.env (eval e X.env) = eval e X.env := by rfl) : PE X (.Attribute e n pos) (tErrF X.K n te) := by
  refine ⟨fun pins s σ H Q I hyp => attr_of hb (thn (he.run pins s σ H _ I hyp) fun u s1 hh => ?_)⟩
  obtain ⟨x, H1, I1, rx, a, C, dx, fs, v, ex, T, no, ea, ed, l, q⟩ := hh
  subst ex
  obtain rfl : u = Value.ref a := rx
  obtain ⟨t1, at0⟩ := exo_at I1.hok ea
  obtain ⟨mA, nsD, rel⟩ := exd_at I1.hok ed
  obtain ⟨od, ho, hl⟩ := lookIn_ns nsD
  obtain ⟨u, hu, ru⟩ := RelO.some_of (v := v) (o := mA n) (by rw [← l]; exact rel n)
  have J : PySem.W.InstAt s1.heap a _ C (some od) := ⟨at0, rfl, rfl, ho⟩
  exact HandSPX.exc_get I1.kIn J T.hg T.hk T.hs (PySem.W.findObj_own T.hd no rfl (by rw [hl, hu])) (handed_of ru) ⟨v, H1, I1.tok _, ru, q⟩
end E8

set_option maxHeartbeats 4000000
namespace E9
open PySem PySem.Spec PyProof.Rows L2 E2 E3 E4 E5 E7 E8
/-- an own error at a, of the class at C, with these fields -/
def ErrAt (H : Hp) (a C : Addr) (fs : List (Str × V)) : Prop := (fs = [] ∧ H a = some (exo a C none)) ∨ ∃ dx, H a = some (exo a C (some dx)) ∧ H dx = some (exd dx fs)
/-- the same, its fields in a new dict -/
def ErrNew (H0 H : Hp) (a C : Addr) (fs : List (Str × V)) : Prop := (fs = [] ∧ H a = some (exo a C none)) ∨ ∃ dx, H a = some (exo a C (some dx)) ∧ H dx = some (exd dx fs) ∧ H0 dx = none
theorem ErrNew.at {H0 H : Hp} {a C : Addr} {fs : List (Str × V)} (h : ErrNew H0 H a C fs) : ErrAt H a C fs := by
  rcases h with h | ⟨dx, h1, h2, _⟩
  · exact .inl h
  · exact .inr ⟨dx, h1, h2⟩
/-- new things at a and d alone -/
def Grow (H H' : Hp) (a : Addr) : Prop := ∀ b o, H b = some o → b ≠ a → H' b = some o
def names : List Str → List V → List (Str × V)
  | f :: fs, v :: vs => names fs vs ++ [(f, v)]
  | _, _ => []
def spI (C : Addr) (fn : List Str) : Sp := fun vs H Q _ => ∃ (a : Addr) (ws : List V), vs = .ref a :: ws ∧ ws.length = fn.length ∧ H a = some (exo a C none) ∧
  ∀ H', Grow H H' a → ErrNew H H' a C (names fn ws) → Q .non H'
section
variable {P : Program} {w : World} {K : PySem.W.Frag} {mg : Str → Option Value} {base : Heap} {C f : Addr} {ql : Str} {pr : Arguments} {sc : Scope} {B newId initId Bs : String} {bmB : List Value} {p0 p1 p2 p3 p4 p5 : Pos} {z : Str} {kk : Nat} {fd : FuncData} {ar : Arg} {k : Nat}
structure Nm (x : Str) : Prop where
  db : (x == ("__debug__" : Str)) = false
  cd : (x == ("__classdict__" : Str)) = false
theorem nm_self : Nm "self" := ⟨by decide, by decide⟩
theorem ok0 (T : ExC K C f B newId initId Bs bmB) (F : InitFn P K C f ql pr [.Expr (supE p0 p1 p2 p3 p4 z kk) p5] sc fd) (S : InitScope ["self"] ["self"] sc) (hp : (pr.posonlyargs ++ pr.args).head? = some ar) (h0 : ("self" : Str) = ar.arg) (ms : mg "super" = none) (U : SupOk fd f p0 p1 p2 p3 p4 p5 z kk) :
    FnOk P w K mg base CX0 (k + 1) f fd ["self"] (spI C []) := by
  refine ok_init T F S hp (by rw [← h0]; rfl) ms U (fun vs H Q E hyp => ?_) (fun vs H Q E hyp => ?_) (fun A outer s H vs Q E hyp => ?_)
  · obtain ⟨a, ws, rfl, hl, _⟩ := hyp
    rw [List.length_cons, hl]
    rfl
  · obtain ⟨a, ws, rfl, _, ea, _⟩ := hyp
    exact ⟨a, ws, rfl, ea⟩
  · obtain ⟨a, ws, rfl, hl, ea, q⟩ := hyp
    have e : ws = [] := List.length_eq_zero_iff.mp hl
    subst e
    exact ⟨_, pss_nil, q H (fun b o h _ => h) (.inl ⟨rfl, ea⟩)⟩
/-- self.x = x -/
abbrev keepS (x : Str) (q1 q2 q3 q4 : Pos) : Stmt := .Assign [.Attribute (.Name "self" q1) x q2] (.Name x q3) q4
theorem tak_name {x : Str} {X : Cx} {i : Nat} {pos : Pos} (n : Nm x) (hi : X.N[i]? = some x) (hv : X.env.scope.names.lookup x = some .local) : PE X (.Name x pos) (tVar i) := pe_var hi (.inl hv) n.db n.cd
theorem ok1 {x1 : Str} {a1 a2 a3 a4 : Pos} (T : ExC K C f B newId initId Bs bmB) (F : InitFn P K C f ql pr [.Expr (supE p0 p1 p2 p3 p4 z kk) p5, keepS x1 a1 a2 a3 a4] sc fd) (S : InitScope ["self", x1] ["self", x1] sc) (hp : (pr.posonlyargs ++ pr.args).head? = some ar) (h0 : ("self" : Str) = ar.arg) (ms : mg "super" = none) (U : SupOk fd f p0 p1 p2 p3 p4 p5 z kk)
    (n1 : Nm x1) (k1 : PySem.W.takerIn K C x1 = some none) : FnOk P w K mg base CX0 (k + 1) f fd ["self", x1] (spI C [x1]) := by
  refine ok_init T F S hp (by rw [← h0]; rfl) ms U (fun vs H Q E hyp => ?_) (fun vs H Q E hyp => ?_) (fun A outer s H vs Q E hyp => ?_)
  · obtain ⟨a, ws, rfl, hl, _⟩ := hyp
    rw [List.length_cons, hl]
    rfl
  · obtain ⟨a, ws, rfl, _, ea, _⟩ := hyp
    exact ⟨a, ws, rfl, ea⟩
  · obtain ⟨a, ws, rfl, hl, ea, q⟩ := hyp
    match ws, hl with
    | [v1], _ =>
      have env : (cxI P w K mg base ["self", x1] fd f A outer s H).env.scope = sc := by
        obtain ⟨oc, kV, doc, pm, cdv, ct, od, an, osl, cl, cc, ocl, occ, fv, file, tf, efd, _⟩ := F.ex
        rw [efd]
        rfl
      refine ⟨_, pss_one (ps_keep (tak_name (i := 0) nm_self rfl (by rw [env]; exact S.par _ (by simp))) (tak_name (i := 1) n1 rfl (by rw [env]; exact S.par _ (by simp)))), ?_⟩
      refine ⟨v1, rfl, .ref a, rfl, a, C, f, B, newId, initId, Bs, bmB, rfl, T, k1, .inl ⟨ea, fun dx nd ne => ?_⟩⟩
      refine q _ (fun b o hb hba => ?_) (.inr ⟨dx, upd_same, ?_, nd⟩)
      · rw [upd_ne hba, upd_ne (ne_of_none hb nd)]
        exact hb
      · rw [upd_ne ne]
        exact upd_same
theorem ok2 {x1 : Str} {a11 a21 a31 a41 : Pos} {x2 : Str} {a12 a22 a32 a42 : Pos} (T : ExC K C f B newId initId Bs bmB) (F : InitFn P K C f ql pr (.Expr (supE p0 p1 p2 p3 p4 z kk) p5 :: [keepS x1 a11 a21 a31 a41, keepS x2 a12 a22 a32 a42]) sc fd) (S : InitScope ["self", x1, x2] ["self", x1, x2] sc) (hp : (pr.posonlyargs ++ pr.args).head? = some ar) (h0 : ("self" : Str) = ar.arg) (ms : mg "super" = none) (U : SupOk fd f p0 p1 p2 p3 p4 p5 z kk)
    (n1 : Nm x1) (k1 : PySem.W.takerIn K C x1 = some none) (n2 : Nm x2) (k2 : PySem.W.takerIn K C x2 = some none) : FnOk P w K mg base CX0 (k + 1) f fd ["self", x1, x2] (spI C [x1, x2]) := by
  refine ok_init T F S hp (by rw [← h0]; rfl) ms U (fun vs H Q E hyp => ?_) (fun vs H Q E hyp => ?_) (fun A outer s H vs Q E hyp => ?_)
  · obtain ⟨a, ws, rfl, hl, _⟩ := hyp
    rw [List.length_cons, hl]
    rfl
  · obtain ⟨a, ws, rfl, _, ea, _⟩ := hyp
    exact ⟨a, ws, rfl, ea⟩
  · obtain ⟨a, ws, rfl, hl, ea, q⟩ := hyp
    match ws, hl with
    | [v1, v2], _ =>
      have env : (cxI P w K mg base ["self", x1, x2] fd f A outer s H).env.scope = sc := by
        obtain ⟨oc, kV, doc, pm, cdv, ct, od, an, osl, cl, cc, ocl, occ, fv, file, tf, efd, _⟩ := F.ex
        rw [efd]
        rfl
      refine ⟨_, pss_cons (ps_keep (tak_name (i := 0) nm_self rfl (by rw [env]; exact S.par _ (by simp))) (tak_name (i := 1) n1 rfl (by rw [env]; exact S.par _ (by simp)))) (pss_one (ps_keep (tak_name (i := 0) nm_self rfl (by rw [env]; exact S.par _ (by simp))) (tak_name (i := 2) n2 rfl (by rw [env]; exact S.par _ (by simp))))), ?_⟩
      refine ⟨v1, rfl, .ref a, rfl, a, C, f, B, newId, initId, Bs, bmB, rfl, T, k1, .inl ⟨ea, fun dx nd ne => ?_⟩⟩
      have ha1 : (upd (upd H dx (exd dx [(x1, v1)])) a (exo a C (some dx))) a = some (exo a C (some dx)) := upd_same
      have hd1 : (upd (upd H dx (exd dx [(x1, v1)])) a (exo a C (some dx))) dx = some (exd dx [(x1, v1)]) := by
        rw [upd_ne ne]
        exact upd_same
      have hg1 : Grow H (upd (upd H dx (exd dx [(x1, v1)])) a (exo a C (some dx))) a := fun b o hb hba => by
        rw [upd_ne hba, upd_ne (ne_of_none hb nd)]
        exact hb
      generalize upd (upd H dx (exd dx [(x1, v1)])) a (exo a C (some dx)) = H1 at ha1 hd1 hg1 ⊢
      refine ⟨v2, rfl, .ref a, rfl, a, C, f, B, newId, initId, Bs, bmB, rfl, T, k2, .inr ⟨dx, _, ha1, hd1, by simp, ?_⟩⟩
      have ha2 : (upd H1 dx (exd dx [(x2, v2), (x1, v1)])) a = some (exo a C (some dx)) := by
        rw [upd_ne ne.symm]
        exact ha1
      have hd2 : (upd H1 dx (exd dx [(x2, v2), (x1, v1)])) dx = some (exd dx [(x2, v2), (x1, v1)]) := upd_same
      have hg2 : Grow H (upd H1 dx (exd dx [(x2, v2), (x1, v1)])) a := fun b o hb hba => by
        rw [upd_ne (ne_of_none hb nd)]
        exact hg1 b o hb hba
      generalize upd H1 dx (exd dx [(x2, v2), (x1, v1)]) = H2 at ha2 hd2 hg2 ⊢
      exact q _ hg2 (.inr ⟨dx, ha2, hd2, nd⟩)
theorem ok3 {x1 : Str} {a11 a21 a31 a41 : Pos} {x2 : Str} {a12 a22 a32 a42 : Pos} {x3 : Str} {a13 a23 a33 a43 : Pos} (T : ExC K C f B newId initId Bs bmB) (F : InitFn P K C f ql pr (.Expr (supE p0 p1 p2 p3 p4 z kk) p5 :: [keepS x1 a11 a21 a31 a41, keepS x2 a12 a22 a32 a42, keepS x3 a13 a23 a33 a43]) sc fd) (S : InitScope ["self", x1, x2, x3] ["self", x1, x2, x3] sc) (hp : (pr.posonlyargs ++ pr.args).head? = some ar) (h0 : ("self" : Str) = ar.arg) (ms : mg "super" = none) (U : SupOk fd f p0 p1 p2 p3 p4 p5 z kk)
    (n1 : Nm x1) (k1 : PySem.W.takerIn K C x1 = some none) (n2 : Nm x2) (k2 : PySem.W.takerIn K C x2 = some none) (n3 : Nm x3) (k3 : PySem.W.takerIn K C x3 = some none) : FnOk P w K mg base CX0 (k + 1) f fd ["self", x1, x2, x3] (spI C [x1, x2, x3]) := by
  refine ok_init T F S hp (by rw [← h0]; rfl) ms U (fun vs H Q E hyp => ?_) (fun vs H Q E hyp => ?_) (fun A outer s H vs Q E hyp => ?_)
  · obtain ⟨a, ws, rfl, hl, _⟩ := hyp
    rw [List.length_cons, hl]
    rfl
  · obtain ⟨a, ws, rfl, _, ea, _⟩ := hyp
    exact ⟨a, ws, rfl, ea⟩
  · obtain ⟨a, ws, rfl, hl, ea, q⟩ := hyp
    match ws, hl with
    | [v1, v2, v3], _ =>
      have env : (cxI P w K mg base ["self", x1, x2, x3] fd f A outer s H).env.scope = sc := by
        obtain ⟨oc, kV, doc, pm, cdv, ct, od, an, osl, cl, cc, ocl, occ, fv, file, tf, efd, _⟩ := F.ex
        rw [efd]
        rfl
      refine ⟨_, pss_cons (ps_keep (tak_name (i := 0) nm_self rfl (by rw [env]; exact S.par _ (by simp))) (tak_name (i := 1) n1 rfl (by rw [env]; exact S.par _ (by simp)))) (pss_cons (ps_keep (tak_name (i := 0) nm_self rfl (by rw [env]; exact S.par _ (by simp))) (tak_name (i := 2) n2 rfl (by rw [env]; exact S.par _ (by simp)))) (pss_one (ps_keep (tak_name (i := 0) nm_self rfl (by rw [env]; exact S.par _ (by simp))) (tak_name (i := 3) n3 rfl (by rw [env]; exact S.par _ (by simp)))))), ?_⟩
      refine ⟨v1, rfl, .ref a, rfl, a, C, f, B, newId, initId, Bs, bmB, rfl, T, k1, .inl ⟨ea, fun dx nd ne => ?_⟩⟩
      have ha1 : (upd (upd H dx (exd dx [(x1, v1)])) a (exo a C (some dx))) a = some (exo a C (some dx)) := upd_same
      have hd1 : (upd (upd H dx (exd dx [(x1, v1)])) a (exo a C (some dx))) dx = some (exd dx [(x1, v1)]) := by
        rw [upd_ne ne]
        exact upd_same
      have hg1 : Grow H (upd (upd H dx (exd dx [(x1, v1)])) a (exo a C (some dx))) a := fun b o hb hba => by
        rw [upd_ne hba, upd_ne (ne_of_none hb nd)]
        exact hb
      generalize upd (upd H dx (exd dx [(x1, v1)])) a (exo a C (some dx)) = H1 at ha1 hd1 hg1 ⊢
      refine ⟨v2, rfl, .ref a, rfl, a, C, f, B, newId, initId, Bs, bmB, rfl, T, k2, .inr ⟨dx, _, ha1, hd1, by simp, ?_⟩⟩
      have ha2 : (upd H1 dx (exd dx [(x2, v2), (x1, v1)])) a = some (exo a C (some dx)) := by
        rw [upd_ne ne.symm]
        exact ha1
      have hd2 : (upd H1 dx (exd dx [(x2, v2), (x1, v1)])) dx = some (exd dx [(x2, v2), (x1, v1)]) := upd_same
      have hg2 : Grow H (upd H1 dx (exd dx [(x2, v2), (x1, v1)])) a := fun b o hb hba => by
        rw [upd_ne (ne_of_none hb nd)]
        exact hg1 b o hb hba
      generalize upd H1 dx (exd dx [(x2, v2), (x1, v1)]) = H2 at ha2 hd2 hg2 ⊢
      refine ⟨v3, rfl, .ref a, rfl, a, C, f, B, newId, initId, Bs, bmB, rfl, T, k3, .inr ⟨dx, _, ha2, hd2, by simp, ?_⟩⟩
      have ha3 : (upd H2 dx (exd dx [(x3, v3), (x2, v2), (x1, v1)])) a = some (exo a C (some dx)) := by
        rw [upd_ne ne.symm]
        exact ha2
      have hd3 : (upd H2 dx (exd dx [(x3, v3), (x2, v2), (x1, v1)])) dx = some (exd dx [(x3, v3), (x2, v2), (x1, v1)]) := upd_same
      have hg3 : Grow H (upd H2 dx (exd dx [(x3, v3), (x2, v2), (x1, v1)])) a := fun b o hb hba => by
        rw [upd_ne (ne_of_none hb nd)]
        exact hg2 b o hb hba
      generalize upd H2 dx (exd dx [(x3, v3), (x2, v2), (x1, v1)]) = H3 at ha3 hd3 hg3 ⊢
      exact q _ hg3 (.inr ⟨dx, ha3, hd3, nd⟩)
end
end E9

set_option maxHeartbeats 4000000
namespace EA
open PySem PySem.Spec PyProof.Rows L2 E2 E3 E4 E5 E7 E8 E9
section
variable {X : Cx} {pins : List (Addr × Obj)} {σ : L2.St}
/-- an error without fields is let go of -/
theorem let_go {H1 H2 : Hp} {hp hp2 h2 : Heap} {g1 g2 : Array GenState} {d1 d2 : Drawn} {t1 t2 : Nat} {os1 os2 : OsState} {a C : Addr} (I1 : Inv X pins σ H1 ⟨hp, g1, d1, t1, os1⟩) (ha : hp.objs.size ≤ a) (k : ∀ b o, hp.get? b = some o → hp2.get? b = some o)
    (un : Un (frs X.stack) [] (upd H1 a (exo a C none)) H2 hp2 h2) (hok : HOk X.prog X.w H2 h2) (ho : os2 = os1) (hb : AllBare g2) (ea : H2 a = some (exo a C none)) :
    ∃ (t0 : Addr) (G : Heap), Inv X pins σ (del H2 a) ⟨G, g2, d2, t2, os2⟩ ∧ (∀ b o, G.get? b = some o → h2.get? b = some o) ∧ G.get? a = none ∧
      h2.get? a = some ({ cls := .ref C, dict := none, data := .fields #[.ref t0, .none, .none, .none, .bool false, .none] } : Obj) := by
  obtain ⟨t0, at2⟩ := exo_at hok ea
  have new : H1 a = none := I1.hok.fresh ha
  obtain ⟨G, gin, gout⟩ := restrict h2 fun b => decide (b ≠ a)
  have gk : ∀ b, b ≠ a → G.get? b = h2.get? b := fun b nb => gin b (decide_eq_true nb)
  have ga : G.get? a = none := gout a (by simp)
  have off : ∀ {b : Addr} {o : Obj}, hp.get? b = some o → b ≠ a := fun {b o} q => Nat.ne_of_lt (Nat.lt_of_lt_of_le (Heap.lt_size q) ha)
  have un0 : ∀ {b : Addr}, b ≠ a → H1 b = none → upd H1 a (exo a C none) b = none := fun {b} nb n => by
    rw [upd_ne nb]
    exact n
  have un1 : ∀ {b : Addr} {o : HO}, H1 b = some o → upd H1 a (exo a C none) b = some o ∧ b ≠ a := fun {b o} q => by
    have nb := ne_of_none q new
    exact ⟨by rw [upd_ne nb]; exact q, nb⟩
  have U : Un (frs X.stack) [] H1 (del H2 a) hp G :=
    { keep := fun b o q n hf hx => by
        rw [gk b (off q)]
        exact un.keep b o (k b o q) (un0 (off q) n) hf hx
      slot := fun b o q n hf hx => by
        rw [gk b (off q)]
        exact un.slot b o (k b o q) (un0 (off q) n) hf hx
      free := fun b o q n hx => by
        rw [del_ne (off q)]
        exact un.free b o (k b o q) (un0 (off q) n) hx
      there := fun b o q hx => by
        rw [gk b (off q)]
        exact un.there b o (k b o q) hx
      tups := fun b xs q => by
        rw [del_ne (un1 q).2]
        exact un.tups b xs (un1 q).1
      frzs := fun b o v q => by
        rw [del_ne (un1 q).2]
        exact un.frzs b o v (un1 q).1
      tbls := fun b ps q => by
        rw [del_ne (un1 q).2]
        exact un.tbls b ps (un1 q).1 }
  have hokG : HOk X.prog X.w (del H2 a) G := fun b o q => by
    have nb : b ≠ a := fun e => by
      rw [e, del_same] at q
      cases q
    rw [del_ne nb] at q
    have noO : ∀ {c : Addr}, H2 c = some (.own b) → c ≠ a := fun {c} hc => at_ne ea hc exo_own
    refine (hok b o q).stay (fun c v hc y => ?_) (fun c hc => by rw [del_ne (noO hc)]; exact hc) (fun c xs hc => by rw [del_ne (at_ne ea hc exo_tup)]; exact hc)
    have nc : c ≠ a := by
      rcases hc with hc | hc
      · rw [hc]
        exact nb
      · exact noO hc
    rw [gk c nc]
    exact y
  refine ⟨t0, G, I1.call' (ch := []) ho U hokG hb (fun b q => absurd q (by simp)), fun b o q => ?_, ga, at2⟩
  by_cases nb : b = a
  · rw [nb, ga] at q
    cases q
  · exact (gk b nb).symm.trans q
/-- C(e, ..) that is to be raised -/
def tMkE (C : Addr) (sp : Sp) (gV : List V → List V → List V) (ta : TA) : L2.St → Hp → XK → Prop := fun σ H Q => ta σ H fun vs H1 => vs.length ≤ 1000 ∧ ∀ a, H1 a = none → sp (gV (.ref a :: vs) []) (upd H1 a (exo a C none))
  (fun v H2 => v = .non ∧ ((∃ (d : Addr) (fs : List (Str × V)), H2 a = some (exo a C (some d)) ∧ H2 d = some (exd d fs) ∧ H1 d = none ∧ Q (.ref C) (some d) (upd (del H2 a) d (.xd fs))) ∨ (H2 a = some (exo a C none) ∧ Q (.ref C) none (del H2 a)))) fun _ _ _ => False
theorem run_mk {C fI : Addr} {B newId initId Bs : String} {bmB : List Value} {k : Nat} {fd : FuncData} {ps : List Str} {sp : Sp} {g : List Value → List Value → List Value} {gV : List V → List V → List V} {H : Hp} {s : Shared} {vs : List V} {us : List Value} {Q : XK}
    (T : ExC X.K C fI B newId initId Bs bmB) (F1 : FnOk X.prog X.w X.K X.mg X.base CX0 k fI fd ps sp) (hr : Room (k + 1) X.A) (kb : KBinds X.K fd ps [] g gV) (I : Inv X pins σ H s) (r : Vals vs us) (few : vs.length ≤ 1000)
    (hyp : ∀ a, H a = none → sp (gV (.ref a :: vs) []) (upd H a (exo a C none)) (fun v H2 => v = .non ∧ ((∃ (d : Addr) (fs : List (Str × V)), H2 a = some (exo a C (some d)) ∧ H2 d = some (exd d fs) ∧ H d = none ∧ Q (.ref C) (some d) (upd (del H2 a) d (.xd fs))) ∨ (H2 a = some (exo a C none) ∧ Q (.ref C) none (del H2 a)))) fun _ _ _ => False) :
    wpAny (model X.prog X.w) X.A (call (.ref C) us) (MkP X pins σ Q) X.xe s := by
  obtain ⟨_, bmE, eb⟩ := T.un.eb
  have KX := I.kIn
  obtain ⟨nm, N', qn, bs, bm, hdct, sn, sub, ab, col, dd, k0, k1, k2, k3, k5, hC, hT⟩ := PySem.W.excInit_of KX T.made
  have con : ∀ z : String, (Value.ref C :: bm).contains (.type z) = bmB.contains (.type z) := fun z => by
    rw [List.contains_cons, hT]
    rfl
  obtain ⟨hp, g0, dr, tk, os⟩ := s
  have new : H (hp.objs.size + 1) = none := I.hok.fresh (Nat.le_succ _)
  have hq := hyp (hp.objs.size + 1) new
  have up : ∀ b o, hp.get? b = some o → ((hp.push (PySem.W.kdv_tup us)).push (HandSPX.excO C hp.objs.size)).get? b = some o := fun b o e => Heap.get?_push_of_some _ (Heap.get?_push_of_some _ e)
  have mine : ((hp.push (PySem.W.kdv_tup us)).push (HandSPX.excO C hp.objs.size)).get? (hp.objs.size + 1) = some (HandSPX.excO C hp.objs.size) := by heap_get
  have I2 : Inv X pins σ (upd H (hp.objs.size + 1) (exo (hp.objs.size + 1) C none)) ⟨(hp.push (PySem.W.kdv_tup us)).push (HandSPX.excO C hp.objs.size), g0, dr, tk, os⟩ :=
    I.laid (t' := tk) (a := hp.objs.size + 1) (o := exo (hp.objs.size + 1) C none) (h' := (hp.push (PySem.W.kdv_tup us)).push (HandSPX.excO C hp.objs.size)) up (Nat.le_succ _) (exo_ok mine)
  have r1 : Vals (V.ref (hp.objs.size + 1) :: vs) (Value.ref (hp.objs.size + 1) :: us) := .cons rfl r
  have r2 := kb.rel r1 Paired.nil
  have hl : (g (Value.ref (hp.objs.size + 1) :: us) []).length = ps.length := by
    rw [← r2.length, F1.len _ _ _ _ hq]
  have hus : us.length ≤ sizeLine := by
    rw [← Paired.length r, sizeLine_eq]
    omega
  obtain ⟨oI, hoI, hcI⟩ : ∃ oI, hp.get? fI = some oI ∧ oI.cls = .type "function" := by
    obtain ⟨o, ho, hc⟩ := Option.map_eq_some_iff.mp (show (X.K.lookup fI).map (·.cls) = some (.type "function") from beq_iff_eq.mp T.isF)
    exact ⟨o, KX _ _ ho, hc⟩
  refine wpAny_call (E6.call_made (kw := []) eb ((con B).trans T.un.hasB) ((con _).trans T.un.noA) ((con _).trans T.un.noN) hC (PySem.W.looks_findIn KX T.ini) (fun self => PySem.W.exc_bind hoI hcI self) hus ?_)
  refine codeAny_mono (F1.run _ X.stack _ _ ⟨Value.ref (hp.objs.size + 1) :: us, []⟩ (g (Value.ref (hp.objs.size + 1) :: us) []) _ _ (fun _ _ _ => False) (hr.make C us []) (I2.env0.make C us []) (kb.to _ _ [] I2.kIn hl) r2 hq) fun rr s' hq' => ?_
  match rr, hq' with
  | .error er, z => exact z.elim
  | .ok .next, z => exact z.elim
  | .ok .brk, z => exact z.elim
  | .ok .cont, z => exact z.elim
  | .ok (.ret u), ⟨v, H2, os2, bare2, un2, hok2, rv, ev, q2⟩ =>
    subst ev
    obtain ⟨h2, g2, d2, t2, os'⟩ := s'
    refine ⟨rv, ?_⟩
    rcases q2 with ⟨d, fs, ea, ed, nd, q⟩ | ⟨ea, q⟩
    · exact mk_end (raises_own T.exC T.tyC) I (Nat.le_succ _) up un2 hok2 os2 bare2 ea ed nd q
    · obtain ⟨t0, G, J, kG, ge, at2⟩ := let_go (d2 := d2) (t2 := t2) I (Nat.le_succ _) up un2 hok2 os2 bare2 ea
      exact ⟨hp.objs.size + 1, _, _, ⟨G, g2, d2, t2, os'⟩, _, .ref C, none, rfl, J, kG, ge, at2, ⟨rfl, rfl⟩, rfl, rfl, del_same, rfl, bare2, raises_own T.exC T.tyC, q⟩
end
section
variable {X : Cx} {C fI : Addr} {B newId initId Bs : String} {bmB : List Value} {k : Nat} {fd : FuncData} {ps : List Str} {sp : Sp} {g : List Value → List Value → List Value} {gV : List V → List V → List V} {x : Str} {p pos : Pos} {e : Expr} {es : List Expr} {ta : TA}
theorem pmk_err (T : ExC X.K C fI B newId initId Bs bmB) (F1 : FnOk X.prog X.w X.K X.mg X.base CX0 k fI fd ps sp) (hr : Room (k + 1) X.A) (kb : KBinds X.K fd ps [] g gV) (hg : Gl X x) (hm : X.mg x = some (.ref C)) (ha : PA X (e :: es) ta)
    (hdb : (x == ("__debug__" : Str)) = false := by decide) (he : starEach (e :: es) X.env = (false, eval e X.env) :: starEach es X.env := by rfl) (hpl : (backTo pos (starEach es X.env)).any (·.1) = false := by rfl) :
    PMk X (.Call (.Name x p) (e :: es) [] pos) (tMkE C sp gV ta) := by
  intro pins s σ H Q I hyp
  refine wpAny_Call_Name_kw (ld_glob I hg hm ?_ hdb)
  refine PySem.W.callWith_K (h₀ := X.base) I.ok.mod.kin T.kC (thn (ha.run pos pins s σ H _ I hyp) fun us s1 ⟨vs, H1, I1, r1, few, q1⟩ => ⟨I1.kIn, ?_⟩) he hpl
  exact run_mk T F1 hr kb I1 r1 few q1
theorem pmk_err0 (T : ExC X.K C fI B newId initId Bs bmB) (F1 : FnOk X.prog X.w X.K X.mg X.base CX0 k fI fd ps sp) (hr : Room (k + 1) X.A) (kb : KBinds X.K fd ps [] g gV) (hg : Gl X x) (hm : X.mg x = some (.ref C)) (hdb : (x == ("__debug__" : Str)) = false := by decide) :
    PMk X (.Call (.Name x p) [] [] pos) (tMkE C sp gV tNil) := by
  intro pins s σ H Q I hyp
  refine wpAny_Call_Name_kw (ld_glob I hg hm ?_ hdb)
  exact PySem.W.callWith_K0 I.kIn T.kC (run_mk (us := []) (vs := []) T F1 hr kb I .nil hyp.1 hyp.2)
theorem pe_err0 (T : ExC X.K C fI B newId initId Bs bmB) (F1 : FnOk X.prog X.w X.K X.mg X.base CX0 k fI fd ps sp) (hr : Room (k + 1) X.A) (kb : KBinds X.K fd ps [] g gV) (hg : Gl X x) (hm : X.mg x = some (.ref C)) (hdb : (x == ("__debug__" : Str)) = false := by decide) :
    PE X (.Call (.Name x p) [] [] pos) (tErr C sp gV tNil tNil) := by
  refine ⟨fun pins s σ H Q I hyp => wpAny_Call_Name_kw (ld_glob I hg hm ?_ hdb)⟩
  exact PySem.W.callWith_K0 I.kIn T.kC (run_err (ks := []) (ws := []) (zs := []) (us := []) (vs := []) T F1 hr kb I .nil .nil hyp.1 hyp.2)
end
end EA

set_option maxHeartbeats 4000000
namespace G5
open PySem PySem.Spec PyProof.Rows L2 G3
/-- a def's promise where no repr is under way -/
structure FnG (P : Program) (w : World) (K : PySem.W.Frag) (mg : Str → Option Value) (base : Heap) (CX : CXT) (k : Nat) (f : Addr) (fd : FuncData) (ps : List Str) (sp : Sp) : Prop where
  len : ∀ vs H Q E, sp vs H Q E → vs.length = ps.length
  run : ∀ (A : Around) (outer : List Env) (s : Shared) (H : Hp) (args : Args) (us : List Value) (vs : List V) (Q : VK) (E : XK), A.guards = some [] → Room k A → Env0 P w K mg base A outer s H → BindsTo s fd args (ps.zip us) → Vals vs us → sp vs H Q E →
    codeAny (model P w) A (.call (.ref f) args) (CR CX outer P w H s Q E) s
theorem FnG.of {P : Program} {w : World} {K : PySem.W.Frag} {mg : Str → Option Value} {base : Heap} {CX : CXT} {k : Nat} {f : Addr} {fd : FuncData} {ps : List Str} {sp : Sp} (F : FnOk P w K mg base CX k f fd ps sp) : FnG P w K mg base CX k f fd ps sp :=
  ⟨F.len, fun A outer s H args us vs Q E _ => F.run A outer s H args us vs Q E⟩
section
variable {P : Program} {w : World} {K : PySem.W.Frag} {mg : Str → Option Value} {base : Heap} {CX : CXT}
/-- a def by its body -/
theorem body_of {x ql : Str} {st : Stmt} {f : Addr} {fd : FuncData} {N ps : List Str} {k : Nat} {sp : Sp} (F : Fun K x ql st f fd) (S : FnScope N ps (defScope st)) (len : ∀ vs H Q E, sp vs H Q E → vs.length = ps.length)
    (body : ∀ (cdv : Value) (A : Around) (outer : List Env) (s : Shared) (H : Hp) (vs : List V) (Q : VK) (E : XK), A.guards = some [] → Room k (A.deeper (envOfC ql (defScope st) s.heap.objs.size f cdv)) → sp vs H Q E →
      ∃ t, PSs (cxOf CX P w K mg base N ql (defScope st) f cdv A outer s H E) (defBody st) t ∧ t { nx := fun _ H' => Q .non H', rt := Q } (start N vs) H) : FnG P w K mg base CX (k + 1) f fd ps sp := by
  obtain ⟨oc, od, kV, doc, pm, an, cdv, ct, osl, rfl, lk, hcd⟩ := F.ex
  refine ⟨len, fun A outer s H args us vs Q E gu hr e0 hb r hyp => ?_⟩
  have inS : K.In s.heap := e0.mod.kin.keeps fun b o e => (e0.bs b o e).1
  have noL : s.heap.NoLimit := e0.mod.nolimit.keeps fun b o e => (e0.bs b o e).1
  refine codeAny_call_function hr.depth (inS _ _ lk) rfl S.co S.gen rfl (PySem.W.codeRec_of inS hcd) (hb _ _ _ _ ?_)
  refine wpAny_newFunctionEnv_cells S.kind (fun ⟨n, v⟩ hy => ?_) fun env he s1 y => ?_
  · rcases S.par n (List.of_mem_zip hy).1 with q | q
    · exact Or.inl q
    · exact Or.inr ⟨q, PySem.W.cellsFrom_some _ _ _ (Or.inl q)⟩
  subst he
  refine ⟨noL.keeps y.toInCall.keep, codeAny_func ?_⟩
  obtain ⟨t, pt, tt⟩ := body cdv A outer s H vs Q E gu (hr.deeper _) hyp
  have I : Inv (cxOf CX P w K mg base N ql (defScope st) f cdv A outer s H E) [] (start N vs) H s1 := inv_start S hr.hd e0 (len _ _ _ _ hyp) r y
  refine wpAny_mono (pt.run [] s1 _ H _ I tt) (fun fl s2 h2 => ?_) fun e s2 h2 => h2
  cases fl with
  | ret u =>
    obtain ⟨v, σ2, H2, J, rv, q⟩ := h2
    exact ⟨v, H2, J.os, J.bare, J.base, J.hok, rv, q⟩
  | next =>
    obtain ⟨σ2, H2, J, q⟩ := h2
    exact ⟨.non, H2, J.os, J.bare, J.base, J.hok, rfl, q⟩
  | brk =>
    obtain ⟨_, _, _, q⟩ := h2
    exact q.elim
  | cont =>
    obtain ⟨_, _, _, q⟩ := h2
    exact q.elim
/-- the same where nothing is raised -/
theorem body_of0 {x ql : Str} {st : Stmt} {f : Addr} {fd : FuncData} {N ps : List Str} {k : Nat} {sp : Sp} (F : Fun K x ql st f fd) (S : FnScope N ps (defScope st)) (len : ∀ vs H Q E, sp vs H Q E → vs.length = ps.length)
    (body : ∀ (cdv : Value) (A : Around) (outer : List Env) (s : Shared) (H : Hp) (vs : List V) (Q : VK) (E : XK), A.guards = some [] → Room k (A.deeper (envOfC ql (defScope st) s.heap.objs.size f cdv)) → sp vs H Q E →
      ∃ t, PSs (cxOf CX0 P w K mg base N ql (defScope st) f cdv A outer s H E).nox (defBody st) t ∧ t { nx := fun _ H' => Q .non H', rt := Q } (start N vs) H) : FnG P w K mg base CX0 (k + 1) f fd ps sp :=
  body_of F S len fun cdv A outer s H vs Q E gu hr hyp => by
    obtain ⟨t, h1, h2⟩ := body cdv A outer s H vs Q E gu hr hyp
    exact ⟨t, h1.nox, h2⟩
end
section
variable {X : Cx} {CX : CXT} {k : Nat} {f : Addr} {fd : FuncData} {ps ks : List Str} {sp : Sp} {E : XK} {x : Str} {p pos : Pos} {e : Expr} {es : List Expr} {t tk : TA} {kws : List Keyword} {g : List Value → List Value → List Value} {gV : List V → List V → List V}
theorem run_G {pins : List (Addr × Obj)} {σ : L2.St} {H : Hp} {s : Shared} {Q : VK} {us ws : List Value} {vs zs : List V} (F : FnG X.prog X.w X.K X.mg X.base CX k f fd ps sp) (gu : X.A.guards = some []) (hr : Room k X.A) (kb : KBinds X.K fd ps ks g gV) (hx : Passes CX X E)
    (I : Inv X pins σ H s) (r : Vals vs us) (rz : Vals zs ws) (hyp : sp (gV vs zs) H Q E) : wpAny (model X.prog X.w) X.A (call (.ref f) us (ks.zip ws)) (EP X pins σ Q) X.xe s := by
  have r2 := kb.rel r rz
  have hl : (g us ws).length = ps.length := by rw [← r2.length]; exact F.len _ _ _ _ hyp
  refine wpAny_call (codeAny_mono (F.run X.A X.stack s H ⟨us, ks.zip ws⟩ (g us ws) _ Q E gu hr I.env0 (kb.to s us ws I.kIn hl) r2 hyp) fun rr s' hq => ?_)
  match rr, hq with
  | .error er, z => exact hx pins σ H s er s' I z
  | .ok .next, z => exact False.elim z
  | .ok .brk, z => exact False.elim z
  | .ok .cont, z => exact False.elim z
  | .ok (.ret u), z => exact I.after z
/-- by place alone -/
theorem kb_place {K : PySem.W.Frag} (b : Binds K fd ps []) : KBinds K fd ps [] (fun us _ => us) (fun vs _ => vs) := by
  refine ⟨fun s us ws X hl => ?_, fun r1 _ => r1⟩
  have h := b s us X (by rw [List.append_nil]; exact hl)
  rw [List.append_nil] at h
  cases ws <;> exact h
theorem pe_callG (F : FnG X.prog X.w X.K X.mg X.base CX k f fd ps sp) (gu : X.A.guards = some []) (hr : Room k X.A) (hg : Gl X x) (hm : X.mg x = some (.ref f)) (hk : PySem.W.keepIn X.K (.ref f) = true) (b : Binds X.K fd ps []) (hx : Passes CX X E) (ha : PA X (e :: es) t)
    (hdb : (x == ("__debug__" : Str)) = false := by decide) (he : starEach (e :: es) X.env = (false, eval e X.env) :: starEach es X.env := by rfl) (hpl : (backTo pos (starEach es X.env)).any (·.1) = false := by rfl) :
    PE X (.Call (.Name x p) (e :: es) [] pos) (fun σ H Q => t σ H fun vs H1 => sp vs H1 Q E) := by
  refine ⟨fun pins s σ H Q I hyp => wpAny_Call_Name_kw (ld_glob I hg hm ?_ hdb)⟩
  refine PySem.W.callWith_K (h₀ := X.base) I.ok.mod.kin hk (thn (ha.run pos pins s σ H _ I hyp) fun us s1 ⟨vs, H1, I1, r, q⟩ => ⟨I1.kIn, ?_⟩) he hpl
  exact run_G (ks := []) (ws := []) (zs := []) F gu hr (kb_place b) hx I1 r .nil q
end
end G5

set_option maxHeartbeats 4000000
namespace EB
open PySem PySem.Spec PyProof.Rows L2 E2 E3 E4 E5 E7 E8 E9
/-- isinstance(err, c) -/
def rIsErr (K : PySem.W.Frag) : List V → Hp → VK → Prop := fun xs H Q => ∃ (a C : Addr) (fs : List (Str × V)) (c : V) (u : Value) (b : Bool), xs = [.ref a, c] ∧ ErrAt H a C fs ∧ ExcC K C ∧ ClsV c u ∧ PySem.W.kitOne K (.ref C) u = some b ∧ Q (.bl b) H
theorem call_isErr {X : Cx} : CallR X (.builtin "isinstance") (rIsErr X.K) := by
  intro pins s σ H xs us Q I r hyp
  obtain ⟨a, C, fs, c, u, b, rfl, ea, T, cv, e, q⟩ := hyp
  cases r with
  | cons rx rr =>
    cases rr with
    | cons rt rr =>
      cases rr
      cases rx
      have ec := cv.eq rt
      subst ec
      have hcl : (PySem.W.clsIn X.K C).isSome = true := by
        obtain ⟨cd, hc, _⟩ := PySem.W.any_some T.hd
        rw [hc]
        rfl
      have fin : ∀ {ox : Obj} {od : Option Obj}, PySem.W.InstAt s.heap a ox C od → wpAny (model X.prog X.w) X.A (call (.builtin "isinstance") [.ref a, _]) (EP X pins σ Q) X.xe s := fun {ox od} J =>
        PySem.W.kia_one (PySem.W.kitx_exc hcl T.hg T.hk T.hs T.ha T.hn T.ht T.hm) I.kIn J e (fun z => nomatch z) fun tk => ⟨.bl b, H, I.kept (t' := tk) fun _ _ z => z, rfl, q⟩
      rcases ea with ⟨_, ea⟩ | ⟨dx, ea, ed⟩
      · obtain ⟨t1, at0⟩ := exo_at I.hok ea
        exact fin (ox := _) (od := none) ⟨at0, rfl, rfl, trivial⟩
      · obtain ⟨t1, at0⟩ := exo_at I.hok ea
        obtain ⟨mA, ⟨oD, es, ep, hoD, _⟩, _⟩ := exd_at I.hok ed
        exact fin (ox := _) (od := some oD) ⟨at0, rfl, rfl, hoD⟩
end EB

set_option maxHeartbeats 4000000
namespace EC
open PySem PySem.Spec PyProof.Rows L2 E2 E3 E4 E5 E7 E8 E9
/-- an error that was caught and is kept -/
def exk (a : Addr) (cls : Value) (d : Option Addr) : HO := .ext fun h => ∃ (oe : Obj) (vs : Array Value), h.get? a = some oe ∧ Zc cls d oe ∧ oe.data = .fields vs
theorem exk_ok {P : Program} {w : World} {H : Hp} {h : Heap} {a : Addr} {cls : Value} {d : Option Addr} {oe : Obj} {vs : Array Value} (e : h.get? a = some oe) (z : Zc cls d oe) (dt : oe.data = .fields vs) : ObjOk P w H h a (exk a cls d) :=
  ⟨⟨oe, vs, e, z, dt⟩, ⟨_, e⟩, fun h1 h2 ⟨o, v, q1, q2, q3⟩ k => ⟨o, v, k _ q1, q2, q3⟩⟩
theorem exk_at {P : Program} {w : World} {H : Hp} {h : Heap} {a : Addr} {cls : Value} {d : Option Addr} (hok : HOk P w H h) (e : H a = some (exk a cls d)) : ∃ (oe : Obj) (vs : Array Value), h.get? a = some oe ∧ Zc cls d oe ∧ oe.data = .fields vs := by
  have x : ObjOk P w H h a (.ext fun h => ∃ (oe : Obj) (vs : Array Value), h.get? a = some oe ∧ Zc cls d oe ∧ oe.data = .fields vs) := hok a _ e
  exact x.1
/-- a place that came new -/
structure Fresh (X : Cx) (pins : List (Addr × Obj)) (a : Addr) : Prop where
  n0 : X.s_0.heap.get? a = none
  nL : X.env.locals ≠ a
  nC : ∀ x c, X.env.cells.lookup x = some c → c ≠ a
  nP : ∀ p ∈ X.pn ++ pins, p.1 ≠ a
theorem fresh_of {X : Cx} {pins : List (Addr × Obj)} {σ : L2.St} {H : Hp} {s : Shared} {a : Addr} (I : Inv X pins σ H s) (ga : s.heap.get? a = none) (hx : X.ex = []) : Fresh X pins a := by
  refine ⟨?_, fun e => ?_, fun x c h e => ?_, fun p hp e => ?_⟩
  · cases q : X.s_0.heap.get? a with
    | none => rfl
    | some o =>
      obtain ⟨o', q'⟩ := I.base.there a o q (by rw [hx]; exact List.not_mem_nil)
      rw [ga] at q'
      cases q'
  · obtain ⟨m, ⟨o, es, ep, q, _⟩, _⟩ := I.loc
    rw [e, ga] at q
    cases q
  · obtain ⟨v, o, q, _⟩ := I.cell x c h
    rw [e, ga] at q
    cases q
  · have q := (I.pin p hp).1
    rw [e, ga] at q
    cases q
theorem retrack {X : Cx} {pins : List (Addr × Obj)} {σ : L2.St} {H : Hp} {s : Shared} {a : Addr} {o : HO} (F : Fresh X pins a) (I : Inv X pins σ H s) (na : H a = none) (ok : ObjOk X.prog X.w (upd H a o) s.heap a o) : Inv X pins σ (upd H a o) s := by
  have ne : ∀ {b : Addr} {u : HO}, H b = some u → b ≠ a := fun {b u} q => ne_of_none q na
  refine ⟨I.ok, I.os, I.bare, ?_, I.loc, I.cell, ?_, fun x c h => ?_, fun p hp => ?_, HOk.laidN I.hok (fun _ _ e => e) na ok, I.len⟩
  · exact { keep := I.base.keep, slot := I.base.slot,
            free := fun b u q n hx => by
              rw [upd_ne (fun e => by rw [e, F.n0] at q; cases q)]
              exact I.base.free b u q n hx
            there := I.base.there
            tups := fun b xs q => by
              have z := I.base.tups b xs q
              rw [upd_ne (ne z)]
              exact z
            frzs := fun b u v q => by
              have z := I.base.frzs b u v q
              rw [upd_ne (ne z)]
              exact z
            tbls := fun b ps q => by
              obtain ⟨m, z⟩ := I.base.tbls b ps q
              exact ⟨m, by rw [upd_ne (ne z)]; exact z⟩ }
  · rw [upd_ne F.nL]
    exact I.free
  · rw [upd_ne (F.nC x c h)]
    exact I.freeC x c h
  · obtain ⟨q1, q2, q3⟩ := I.pin p hp
    exact ⟨q1, by rw [upd_ne (F.nP p hp)]; exact q2, q3⟩
/-- except C as n: .., and the error is kept behind it -/
def wKept (K : PySem.W.Frag) (c : Value) (i : Nat) (ts : Addr → Value → Option Addr → TS) (Wout : WX) (D : Ends) : WX := fun cls d σ H =>
  ∃ b, PySem.W.exmOne K cls c = some b ∧ (b = true → ∀ a, H a = none → ts a cls d { nx := fun σ' H' => H' a = none ∧ D.nx (σ'.set i none) (upd H' a (exk a cls d)), rt := fun _ _ => False, bk := fun _ _ => False, ct := fun _ _ => False } (σ.set i (some (.ref a))) H) ∧
    (b = false → Wout cls d σ H)
section
variable {X : Cx} {x n : Str} {c : Value} {i : Nat} {body suite : List Stmt} {b0 : Stmt} {np pos pos' : Pos} {tb : WX → TS} {ts : Addr → Value → Option Addr → TS} {Wout : WX}
theorem ps_try_kept (hs : X.stack = X.env :: X.outer) (hf : X.env.frame = some X.env.locals) (hN : X.N.Nodup) (hi : X.N[i]? = some n) (hln : X.env.kindOf n = some .local) (hc : Names X x c) (hx : X.ex = [])
    (hb : ∀ (W : WX) (pn : List (Addr × Obj)) (xe : Value → Shared → Prop), Takes (X.tr pn xe) W → PassesOwn (model X.prog X.w) X.A X.env xe → PSs (X.tr pn xe) body (tb W))
    (hsu : ∀ (a : Addr) (oe : Obj) (cls : Value) (d : Option Addr) (pn : List (Addr × Obj)), Zc cls d oe → (∃ vs, oe.data = .fields vs) → PSs (X.suite a ((a, oe) :: pn)) (b0 :: suite) (ts a cls d)) :
    PS X (.Try body [.ExceptHandler (some (.Name x np)) (some n) (b0 :: suite) pos'] [] [] pos) (fun D σ H => tb (wKept X.K c i ts (fun _ _ _ _ => False) D) D σ H) := by
  refine ⟨fun pins s σ H D I hyp => ?_⟩
  have ok := I.ok
  have frm : X.A.frames = some (X.env :: X.outer) := by rw [ok.frames, hs]
  refine wpAny_Try_except ?_
  have run := hb (wKept X.K c i ts (fun _ _ _ _ => False) D) (X.pn ++ pins) (fun e s1 => wpAny (model X.prog X.w) X.A (noteFrame e X.env) (fun _ s2 => wpAny (model X.prog X.w) X.A (setFlight e none)
    (fun _ s3 => wpAny (model X.prog X.w) X.A (handleBy e X.env [.ExceptHandler (some (.Name x np)) (some n) (b0 :: suite) pos']) (SP X pins D) X.xe s3) X.xe s2) X.xe s1)
  refine wpAny_mono ((run (fun u s' xx => ?_) PassesOwn.looking).run [] s σ H D (I.toTry _) hyp) (fun fl s1 sp => ?_) (fun e s1 he => he)
  · obtain ⟨a, B, sI, pins', σ', H', cls, d, rfl, J', nb, up, sky, na, os, ag, b, hb1, yes, no⟩ := xx
    have J : Inv X pins σ' H' sI := J'.ofTry ok
    have sky2 : Sky B (X.env :: X.outer) a (Zc cls d) X.env.locals s'.heap := by rw [← hs]; exact sky
    show wpAny (model X.prog X.w) X.A (noteFrame (.ref a) X.env) _ _ _
    refine Sky.land Zc.steady frm hf sky2 fun h3 fl3 up3 => ?_
    have J3 : Inv X pins σ' H' { s' with heap := h3 } := J.landed nb fl3.1 (up.trans up3) os ag
    obtain ⟨oe3, vs3, at3, z3, d3⟩ := fl3.there
    have nfr : a ∉ frs (X.env :: X.outer) := fun hm => by
      obtain ⟨_, o', e', nf⟩ := fl3.2.2.1.mem hm
      rw [at3] at e'
      cases e'
      exact nf _ d3
    have gone : sI.heap.get? a = none := by
      cases q : sI.heap.get? a with
      | none => rfl
      | some o =>
        have z := nb a o q (by rw [show (frs X.stack) = frs (X.env :: X.outer) by rw [hs]]; exact nfr)
        rw [fl3.2.1] at z
        cases z
    have Fr := fresh_of J gone hx
    have nF : a ∉ X.fs := fun hm => by
      obtain ⟨e, he, q⟩ := List.mem_filterMap.mp hm
      exact nfr (List.mem_filterMap.mpr ⟨e, List.mem_cons_of_mem _ he, q⟩)
    have S3 := J3.suite at3 d3 na (fun e => Fr.nL e.symm) nF
    refine wpAny_handleBy_cons (codeAny_handlers_test ?_) (by intro q; cases q)
    have LT : PySem.W.Looks (model X.prog X.w) h3 (typeOf (.ref a)) cls := fun A Q E s k q => wpAny_typeOf_ref (k _ _ at3) (by rw [z3.1]; exact q)
    have LM := PySem.W.exm_one (M := model X.prog X.w) (J3.kIn) LT hb1
    have test : ∀ {Q : Value → Shared → Prop} {E : Value → Shared → Prop}, Q c { s' with heap := h3 } → wpAny (model X.prog X.w) (X.A.mark (some (.ref a))) (eval (.Name x np) X.env) Q E { s' with heap := h3 } := fun {Q E} q => by
      obtain ⟨hg, hdbg, hm | ⟨hm, hv, hnn⟩⟩ := hc
      · exact ld_glob (X := X.suite a ((a, oe3) :: (X.pn ++ pins))) S3 hg hm q hdbg
      · exact ld_blt (X := X.suite a ((a, oe3) :: (X.pn ++ pins))) S3 hg hm hv q hnn hdbg
    refine test (LM.here ?_)
    cases b with
    | false => exact (no rfl).elim
    | true =>
      refine codeAny_handlers_suite_as (HandSPX.lands_againZ fl3 fun h4 fl4 up4 => ?_)
      have J4 : Inv X pins σ' H' { s' with heap := h4 } := J.landed nb fl4.1 ((up.trans up3).trans up4) os ag
      obtain ⟨oe4, vs4, at4, z4, d4⟩ := fl4.there
      have S4 := J4.suite at4 d4 na (fun e => Fr.nL e.symm) nF
      refine store_ok (X := X.suite a ((a, oe4) :: (X.pn ++ pins))) (v := .ref a) S4 hN hi (.inl hln) rfl (fun s5 S5 => ?_) (.inr hln)
      refine wpAny_mono ((hsu a oe4 cls d (X.pn ++ pins) z4 ⟨_, d4⟩).run [] s5 _ H' _ S5 (yes rfl a na)) (fun fl s6 sp => ?_) (fun _ _ z => False.elim z)
      cases fl with
      | next =>
        obtain ⟨σ6, H6, S6, n6, q6⟩ := sp
        have at6 := (S6.pin (a, oe4) (List.mem_append_left _ List.mem_cons_self)).1
        have J6 := retrack (o := exk a cls d) Fr (S6.unsuite ok) n6 (exk_ok at6 z4 d4)
        exact gone_ok J6 hN hi hln fun s7 J7 => ⟨_, _, J7, q6⟩
      | brk =>
        obtain ⟨_, _, _, q⟩ := sp
        exact q.elim
      | cont =>
        obtain ⟨_, _, _, q⟩ := sp
        exact q.elim
      | ret u =>
        obtain ⟨_, _, _, _, _, q⟩ := sp
        exact q.elim
  · cases fl with
    | next =>
      obtain ⟨σ', H', J', q⟩ := sp
      exact wpAny_execs_nil ⟨σ', H', J'.ofTry ok, q⟩
    | brk =>
      obtain ⟨σ', H', J', q⟩ := sp
      exact ⟨σ', H', J'.ofTry ok, q⟩
    | cont =>
      obtain ⟨σ', H', J', q⟩ := sp
      exact ⟨σ', H', J'.ofTry ok, q⟩
    | ret u =>
      obtain ⟨v, σ', H', J', r, q⟩ := sp
      exact ⟨v, σ', H', J'.ofTry ok, r, q⟩
end
/-- kept.f -/
def tKeptF (K : PySem.W.Frag) (f : Str) (te : TE) : TE := fun σ H Q => te σ H fun x H1 => ∃ (a C d : Addr) (fs : List (Str × V)) (v : V), x = .ref a ∧ ExcC K C ∧ PySem.W.findIn K (.ref C) f = some none ∧ H1 a = some (exk a (.ref C) (some d)) ∧ H1 d = some (.xd fs) ∧ fs.lookup f = some v ∧ Q v H1
theorem pe_keptF {X : Cx} {e : Expr} {te : TE} {pos : Pos} {n : Str} (he : PE X e te) (hb : attributeBase e n X.env (eval e X.env) = eval e X.env := by rfl) : PE X (.Attribute e n pos) (tKeptF X.K n te) := by
  refine ⟨fun pins s σ H Q I hyp => attr_of hb (thn (he.run pins s σ H _ I hyp) fun u s1 hh => ?_)⟩
  obtain ⟨x, H1, I1, rx, a, C, d, fs, v, ex, T, no, ea, ed, l, q⟩ := hh
  subst ex
  obtain rfl : u = Value.ref a := rx
  obtain ⟨oe, vs, at0, z0, dt⟩ := exk_at I1.hok ea
  obtain ⟨mA, nsD, rel⟩ := (show ObjOk X.prog X.w H1 s1.heap d (.xd fs) from I1.hok d _ ed)
  obtain ⟨od, ho, hl⟩ := lookIn_ns nsD
  obtain ⟨u, hu, ru⟩ := RelO.some_of (v := v) (o := mA n) (by rw [← l]; exact rel n)
  have J : PySem.W.InstAt s1.heap a oe C (some od) := ⟨at0, z0.1, by unfold PySem.W.notCls; rw [dt] <;> rfl, by rw [z0.2]; exact ho⟩
  exact HandSPX.exc_get I1.kIn J T.hg T.hk T.hs (PySem.W.findObj_own T.hd no rfl (by rw [hl, hu])) (handed_of ru) ⟨v, H1, I1.tok _, ru, q⟩
end EC

set_option maxHeartbeats 4000000
namespace G6
open PySem PySem.Spec PyProof.Rows L2
/-- a dict with one text for a key and the empty list behind it -/
def DictB (H : Hp) (z : Str) (d : Addr) : Prop := ∃ i, H d = some (.dK [(Sum.inr z, .ref i)]) ∧ H i = some (.lst [])
def tB (z : Str) : Str := dictText [reprText z ++ ": " ++ "[]"]
section
variable {X : Cx} {pins : List (Addr × Obj)} {σ : L2.St} {H : Hp} {s : Shared} {d : Addr} {z : Str}
structure AtB (h : Heap) (prog : Program) (w : World) (d i : Addr) (z : Str) : Prop where
  di : d ≠ i
  dict : ∃ o es n, h.get? d = some o ∧ o.cls = .type "dict" ∧ o.data = .dict es n ∧ (d == sysModules) = false ∧ ReprEntriesK prog w [i] h 0 es.toList [reprText z ++ ": " ++ "[]"]
  emp : ∃ o n, h.get? i = some o ∧ o.cls = .type "list" ∧ o.data = .seq #[] n
theorem at_b (I : Inv X pins σ H s) (hz : (reprText z).length ≤ sizeLine) (h : DictB H z d) : ∃ i, AtB s.heap X.prog X.w d i z ∧ H i = some (.lst []) := by
  obtain ⟨i, hd, hi⟩ := h
  obtain ⟨_, its, n, rv, ei⟩ := (show ObjOk X.prog X.w H s.heap i (.lst []) from I.hok i _ hi)
  cases rv
  obtain ⟨_, nsys, vs, kv, o, es, ep, eo, ex, dt, ks, prs, _⟩ := (show ObjOk X.prog X.w H s.heap d (.dK [(Sum.inr z, .ref i)]) from I.hok d _ hd)
  have hdi : d ≠ i := ne_of hd hi (by intro q; cases q)
  refine ⟨i, ⟨hdi, ⟨o, es, ep, eo, ex.1, dt, nsys, ?_⟩, ⟨_, n, ei, rfl, rfl⟩⟩, hi⟩
  match vs, kv with
  | [(k', u)], .cons r1 .nil =>
    have e1 : k' = Sum.inr z := r1.1.symm
    have e2 : u = Value.ref i := r1.2
    subst e1 e2
    generalize es.toList = l at prs ⊢
    match l, prs with
    | [e], .cons p1 p2 .nil =>
      obtain ⟨key, t, e3, e4⟩ : ∃ x t, (Sum.inr z : Key) = Sum.inr x ∧ e.key = Value.str x t := by
        rcases keyIs_shape (show keyIs (Sum.inr z) e.key = true from p1) with ⟨_, _, q, _⟩ | ⟨x, t, q1, q2⟩
        · cases q
        · exact ⟨x, t, q1, q2⟩
      cases e3
      refine .cons ?_ ?_ .nil
      · rw [e4]
        exact .of_is (ReprIs.str z t hz) _ _ _
      · rw [show e.val = Value.ref i from p2]
        exact ReprK.listEmpty ei rfl rfl
/-- repr of such a dict, and of a list of the same over and over -/
def rReprB : List V → Hp → VK → Prop := fun xs H Q => ∃ (z : Str) (d : Addr), (reprText z).length ≤ 100 ∧ (tB z).length ≤ 200 ∧ DictB H z d ∧ ((xs = [.ref d] ∧ Q (.str (tB z)) H) ∨
  ∃ (l : Addr) (n : Nat), xs = [.ref l] ∧ H l = some (.lst (List.replicate (n + 1) (.ref d))) ∧ n ≤ 100 ∧ Q (.str (listText (List.replicate (n + 1) (tB z)))) H)
theorem vals_same {d : Addr} : ∀ {n : Nat} {its : List Value}, Vals (List.replicate n (V.ref d)) its → its = List.replicate n (Value.ref d)
  | 0, _, .nil => rfl
  | n + 1, _, r => by
    rw [List.replicate_succ] at r
    cases r with
    | cons r1 r2 =>
      cases r1
      rw [vals_same r2, List.replicate_succ]
theorem call_reprB (gu : X.A.guards = some []) (ro : X.A.units + 64 < cLine) : CallR X (.builtin "repr") rReprB := by
  intro pins s σ H xs us Q I rel hyp
  obtain ⟨z, d, hz, ln, hb, hyp⟩ := hyp
  have hz2 : (reprText z).length ≤ sizeLine := Nat.le_trans hz (by decide)
  obtain ⟨i, B, hi⟩ := at_b I hz2 hb
  obtain ⟨o, es, n, eo, ec, ed, nsys, ent⟩ := B.dict
  have one : ReprK X.prog X.w [d, i] s.heap 1 (.ref d) (tB z) := ReprK.dict eo ec ed nsys (by simp [B.di]) ent
  rcases hyp with ⟨rfl, fin⟩ | ⟨l, n, rfl, hl, hn, fin⟩
  · obtain ⟨u, rfl, ru⟩ := vals1 rel
    obtain rfl : u = Value.ref d := ru
    refine call_repr_slot (by omega) ⟨o, eo, ec⟩ F.slot_dict_repr (call_dict_reprK (d := 0) eo ec ed nsys (by simp [B.di]) ent gu (fun b _ => Clear.nil b) (by show X.A.units + 1 + 1 < cLine; omega) (fun _ _ e => e) (fun h' u tk k => ⟨_, _, rfl, .str _, H, I.kept k, ⟨_, rfl⟩, fin⟩) (Nat.le_trans ln (by decide)))
  · obtain ⟨u, rfl, ru⟩ := vals1 rel
    obtain rfl : u = Value.ref l := ru
    obtain ⟨_, its, m, rv, el⟩ := (show ObjOk X.prog X.w H s.heap l (.lst (List.replicate (n + 1) (.ref d))) from I.hok l _ hl)
    have eit := vals_same rv
    subst eit
    have hld : l ≠ d := by
      obtain ⟨i', hd, _⟩ := hb
      exact ne_of hl hd (by intro q; cases q)
    have hli : l ≠ i := ne_of hl hi (by intro q; rw [List.replicate_succ] at q; cases q)
    rw [List.replicate_succ] at el
    refine call_repr_slot (by omega) ⟨_, el, rfl⟩ F.slot_list_repr.toG (call_list_reprK (as := [d, i]) (d := 1) (ts := List.replicate (n + 1) (tB z)) el rfl rfl (by simp [hld, hli]) (by simp) (fun j y ej => ?_) gu (fun b _ => Clear.nil b) (by show X.A.units + 1 + (1 + 1) < cLine; omega) (fun _ _ e => e)
      (fun h' u tk k => ⟨_, _, rfl, .str _, H, I.kept k, ⟨_, rfl⟩, fin⟩) ?_)
    · rw [← List.replicate_succ, List.getElem?_toArray] at ej
      have hj : j < n + 1 := by
        have := (List.getElem?_eq_some_iff.mp ej).1
        rwa [List.length_replicate] at this
      rw [List.getElem?_replicate, if_pos hj] at ej
      obtain rfl : Value.ref d = y := Option.some.inj ej
      refine ⟨tB z, ?_, one⟩
      rw [List.getElem?_replicate, if_pos hj]
    · refine Nat.le_trans (listText_len_le _) ?_
      rw [List.map_replicate, List.sum_replicate_nat, List.length_replicate]
      refine Nat.le_trans (show (n + 1) * (tB z).length + 2 * (n + 1) + 3 ≤ 101 * 200 + 2 * 101 + 3 from ?_) (by decide)
      have := Nat.mul_le_mul (show n + 1 ≤ 101 by omega) ln
      omega
end
end G6

set_option maxHeartbeats 4000000
/-! own errors as any law needs them: found, made, raised, caught -/
namespace EE
open PySem PySem.Spec PyProof.Rows L2 G3 G5 E2 E3 E4 E5 E7 E8 E9 EB EC
def initOf (s : Stmt) : Stmt := match s with
  | .ClassDef _ _ _ b _ _ _ _ _ _ _ => b.getD 0 (.Pass ⟨0, 0, 0, 0⟩)
  | s => s
/-- all that can be asked of the class by looking -/
def lookC (K : PySem.W.Frag) (C fI : Addr) (B newId initId : String) (bmB : List Value) (fn : List Str) : Bool :=
  PySem.W.excInitIn K C bmB newId && (PySem.W.excOver K C bmB && (PySem.W.hasDictIn K C && (decide (PySem.W.findIn K (.ref C) "__setattr__" = some (some (.builtin "object.__setattr__"))) && (decide (PySem.W.findIn K (.ref C) "__init__" = some (some (.ref fI))) &&
  (PySem.W.isFn K (.ref fI) && (decide (PySem.W.ks_superIn K C C "__init__" = some (some (.builtin initId))) && (decide (PySem.W.subIn K (.ref C) (.type B) = some true) && (decide (PySem.W.subIn K (.ref C) (.ref C) = some true) && (decide (PySem.W.nsIn K cStatics "thirdparty.any" = some none) &&
  (decide (PySem.W.subIn K (.ref C) (.type "BaseException") = some true) && (decide (PySem.W.typeIn K (.ref C) = some (.type "type")) && (PySem.W.keepIn K (.ref C) && (decide (PySem.W.findIn K (.ref C) "__getattribute__" = some (some (.builtin "BaseException.__getattribute__"))) &&
  (decide (PySem.W.findIn K (.ref C) "__getattr__" = some none) && (decide (PySem.W.findIn K (.ref C) "__class__" = some (some (.builtin "object.__class__"))) && (decide (PySem.W.specialIn K (.builtin "object.__class__") "__get__" = some (some (.builtin "getset_descriptor.__get__"))) &&
  (decide (PySem.W.takesIn K (.builtin "object.__class__") = some true) && (decide (PySem.W.mroIn K C (.type "object") = some true) && fn.all fun f => decide (PySem.W.takerIn K C f = some none) && decide (PySem.W.findIn K (.ref C) f = some none)))))))))))))))))))
theorem looked {K : PySem.W.Frag} {C fI : Addr} {B newId initId Bs : String} {bmB : List Value} {fn : List Str} (U : Under B newId initId Bs bmB) (h : lookC K C fI Bs newId initId bmB fn = true) :
    ExC K C fI B newId initId Bs bmB ∧ ExcC K C ∧ ∀ f ∈ fn, PySem.W.takerIn K C f = some none ∧ PySem.W.findIn K (.ref C) f = some none := by
  unfold lookC at h
  simp only [Bool.and_eq_true, decide_eq_true_eq, List.all_eq_true] at h
  obtain ⟨h1, h2, h3, h4, h5, h6, h7, h8, h9, h10, h11, h12, h13, h14, h15, h16, h17, h18, h19, h20⟩ := h
  obtain ⟨cd, hc, hd⟩ := PySem.W.any_some h3
  exact ⟨⟨U, h1, h2, ⟨cd, hc, hd⟩, h4, h5, h6, h7, h8, h9, h10, h11, h12, h13⟩, ⟨h14, h15, h11, h3, h16, h17, h18, h19⟩, h20⟩
/-- by place; by names, the last first -/
def kwG {α : Type} (k : Nat) (us ws : List α) : List α := match us with
  | [a] => a :: (ws.take k).reverse
  | _ => []
/-- an own error class that the law may make -/
structure Err (P : Program) (w : World) (K : PySem.W.Frag) (mg : Str → Option Value) (base : Heap) (nm : Str) (fn : List Str) where
  C : Addr
  fI : Addr
  fd : FuncData
  B : String
  newId : String
  initId : String
  Bs : String
  bmB : List Value
  g : mg nm = some (.ref C)
  T : ExC K C fI B newId initId Bs bmB
  E : ExcC K C
  ok : FnOk P w K mg base CX0 1 fI fd ("self" :: fn) (spI C fn)
  fld : ∀ f ∈ fn, PySem.W.findIn K (.ref C) f = some none
  kb : KBinds K fd ("self" :: fn) [] (fun us _ => us) (fun vs _ => vs)
  kn : KBinds K fd ("self" :: fn) fn.reverse (kwG fn.length) (kwG fn.length)
theorem vals_rev : ∀ {vs : List V} {us : List Value}, Vals vs us → Vals vs.reverse us.reverse
  | _, _, .nil => .nil
  | _, _, .cons r t => by
    rw [List.reverse_cons, List.reverse_cons]
    exact (vals_rev t).append (.cons r .nil)
theorem kw_rel {k : Nat} {vs zs : List V} {us ws : List Value} (r : Vals vs us) (rz : Vals zs ws) : Vals (kwG k vs zs) (kwG k us ws) := by
  match vs, us, r with
  | _, _, .nil => exact .nil
  | _, _, .cons r1 .nil => exact .cons r1 (vals_rev (rz.take k))
  | _, _, .cons r1 (.cons r2 r3) => exact .nil
theorem uValue : Under "ValueError" "ValueError.__new__" "ValueError.__init__" "ValueError" [.type "ValueError", .type "Exception", .type "BaseException", .type "object"] :=
  ⟨⟨_, _, F.excBase_ValueError⟩, InitF.of F.excBase_ValueError.toExcCallFacts, PySem.W.kxs_ValueError, F.store_ValueError, by decide +kernel, by decide +kernel, by decide +kernel⟩
theorem uIndex : Under "IndexError" "IndexError.__new__" "IndexError.__init__" "IndexError" [.type "IndexError", .type "LookupError", .type "Exception", .type "BaseException", .type "object"] :=
  ⟨⟨_, _, F.excBase_IndexError⟩, InitF.of F.excBase_IndexError.toExcCallFacts, PySem.W.kxs_IndexError, PySem.F.store_IndexError, by decide +kernel, by decide +kernel, by decide +kernel⟩
theorem uOver : Under "OverflowError" "OverflowError.__new__" "OverflowError.__init__" "OverflowError" [.type "OverflowError", .type "ArithmeticError", .type "Exception", .type "BaseException", .type "object"] :=
  ⟨⟨_, _, F.excBase_OverflowError⟩, InitF.of F.excBase_OverflowError.toExcCallFacts, PySem.W.kxs_OverflowError, PySem.F.store_OverflowError, by decide +kernel, by decide +kernel, by decide +kernel⟩
theorem uRun : Under "RuntimeError" "RuntimeError.__new__" "RuntimeError.__init__" "RuntimeError" [.type "RuntimeError", .type "Exception", .type "BaseException", .type "object"] :=
  ⟨⟨_, _, F.excBase_RuntimeError⟩, InitF.of F.excBase_RuntimeError.toExcCallFacts, PySem.W.kxs_RuntimeError, PySem.F.store_RuntimeError, by decide +kernel, by decide +kernel, by decide +kernel⟩
abbrev keyTail : List Value := [.type "KeyError", .type "LookupError", .type "Exception", .type "BaseException", .type "object"]
theorem key_store : StoreFacts "KeyError" keyTail "object.__setattr__" "object" := by
  refine { mro := by kernel_rfl, slot := ?_, entry := PySem.F.entry_object_sa, kind := by decide +kernel, split := by decide +kernel, hasOwner := by decide +kernel, args := fun a b c => by unfold argsOk; kernel_rfl, passes := fun self => by kernel_rfl }
  refine Slot.of (owner := "object") (n := "__setattr__") ?_ (by decide +kernel) (by decide +kernel) (by decide +kernel) ?_ ?_
  · rw [typeLookup_type, builtinLookup_eq_fast]
    kernel_rfl
  · first | exact .inl (by decide +kernel) | exact .inr (by decide +kernel)
  · rw [isSubtype_type]
    kernel_rfl
theorem key_get : PySem.W.KxsFacts "KeyError" "KeyError.__init__" := by
  refine ⟨?_, ?_⟩
  · show builtinType _ = _
    rw [builtinType_eq_fast]
    kernel_rfl
  · first | kernel_rfl | rfl
theorem uKey : Under "LookupError" "LookupError.__new__" "KeyError.__init__" "KeyError" keyTail :=
  ⟨⟨_, _, F.excBase_LookupError⟩, ⟨excClass_KeyError.initKind, excClass_KeyError.initSig, excClass_KeyError.notStar, excClass_KeyError.init.plain, excClass_KeyError.initEntry⟩, key_get, key_store, by decide +kernel, by decide +kernel, by decide +kernel⟩
theorem nmOk {x : Str} (h : ((x == ("__debug__" : Str)) || (x == ("__classdict__" : Str))) = false) : Nm x := by
  rw [Bool.or_eq_false_iff] at h
  exact ⟨h.1, h.2⟩
/-- a new error that is raised -/
def tNewR (C : Addr) (fn : List Str) (ta : TA) : L2.St → Hp → XK → Prop := fun σ H Q => ta σ H fun vs H1 => vs.length ≤ 1000 ∧ vs.length = fn.length ∧ names fn vs ≠ [] ∧ ∀ d H', H1 d = none → Same H1 H' → H' d = some (.xd (names fn vs)) → Q (.ref C) (some d) H'
theorem pmk_new {X : Cx} {nm : Str} {fn : List Str} {p pos : Pos} {e : Expr} {es : List Expr} {ta : TA} (S : Err X.prog X.w X.K X.mg X.base nm fn) (hr : Room 2 X.A) (hg : Gl X nm) (ha : PA X (e :: es) ta)
    (hdb : (nm == ("__debug__" : Str)) = false := by decide) (he : starEach (e :: es) X.env = (false, eval e X.env) :: starEach es X.env := by rfl) (hpl : (backTo pos (starEach es X.env)).any (·.1) = false := by rfl) :
    PMk X (.Call (.Name nm p) (e :: es) [] pos) (tNewR S.C fn ta) := by
  intro pins s σ H Q I hyp
  refine wpAny_Call_Name_kw (ld_glob I hg S.g ?_ hdb)
  refine PySem.W.callWith_K (h₀ := X.base) I.ok.mod.kin S.T.kC (thn (ha.run pos pins s σ H _ I hyp) fun us s1 ⟨vs, H1, I1, r1, few, hl, hne, q1⟩ => ⟨I1.kIn, ?_⟩) he hpl
  refine EA.run_mk S.T S.ok hr S.kb I1 r1 few fun a na => ⟨a, vs, rfl, hl, upd_same, fun H2 gr en => ⟨rfl, .inl ?_⟩⟩
  rcases en with ⟨z, _⟩ | ⟨dx, ea, ed, nd⟩
  · exact (hne z).elim
  · have ne : dx ≠ a := fun e => by
      rw [e, upd_same] at nd
      cases nd
    have nd1 : H1 dx = none := by
      rw [upd_ne ne] at nd
      exact nd
    refine ⟨dx, _, ea, ed, nd1, q1 dx _ nd1 (fun b o hb => ?_) upd_same⟩
    have nba := ne_of_none hb na
    rw [upd_ne (ne_of_none hb nd1), del_ne nba]
    exact gr b o (by rw [upd_ne nba]; exact hb) nba
theorem ps_raiseN {X : Cx} {nm : Str} {fn : List Str} {p pos pos' : Pos} {e : Expr} {es : List Expr} {ta : TA} {W : WX} (hc : X.calm = true) (tk : Takes X W) (S : Err X.prog X.w X.K X.mg X.base nm fn) (hr : Room 2 X.A) (hg : Gl X nm) (ha : PA X (e :: es) ta)
    (hdb : (nm == ("__debug__" : Str)) = false := by decide) (he : starEach (e :: es) X.env = (false, eval e X.env) :: starEach es X.env := by rfl) (hpl : (backTo pos (starEach es X.env)).any (·.1) = false := by rfl) :
    PS X (.Raise (some (.Call (.Name nm p) (e :: es) [] pos)) none pos') (fun _ σ H => tNewR S.C fn ta σ H fun cls d H' => W cls d σ H') := ps_raise hc tk (pmk_new S hr hg ha hdb he hpl)
/-- e.f in the suite that caught it -/
def tByE (C : Addr) (a : Addr) (cls : Value) (d : Option Addr) (f : Str) (te : TE) : TE := fun σ H Q => te σ H fun x H1 => x = .ref a ∧ cls = .ref C ∧ ∃ (dd : Addr) (fs : List (Str × V)) (v : V), d = some dd ∧ H1 dd = some (.xd fs) ∧ fs.lookup f = some v ∧ Q v H1
theorem pe_byE {X : Cx} {C a : Addr} {oe : Obj} {cls : Value} {d : Option Addr} {pn : List (Addr × Obj)} {e : Expr} {te : TE} {pos : Pos} {f : Str} (T : ExcC X.K C) (no : PySem.W.findIn X.K (.ref C) f = some none) (hz : Zc cls d oe) (hf : ∃ vs, oe.data = .fields vs) (he : PE (X.suite a ((a, oe) :: pn)) e te)
    (hb : attributeBase e f X.env (eval e X.env) = eval e X.env := by rfl) :
    PE (X.suite a ((a, oe) :: pn)) (.Attribute e f pos) (tByE C a cls d f te) := by
  refine ⟨fun pins s σ H Q I h => ?_⟩
  refine attr_of hb (thn (he.run pins s σ H _ I h) fun u s1 hh => ?_)
  obtain ⟨x, H1, I1, rx, ex, ec, dd, fs, v, ed, ea, l, q⟩ := hh
  subst ex
  obtain rfl : u = Value.ref a := rx
  subst ec
  subst ed
  obtain ⟨ha, _⟩ := I1.pin (a, oe) (List.mem_append_left _ List.mem_cons_self)
  obtain ⟨vs, hd⟩ := hf
  have hx : ObjOk X.prog X.w H1 s1.heap dd (.xd fs) := I1.hok dd _ ea
  obtain ⟨mA, hns, hr⟩ := hx
  obtain ⟨od, ho, hl⟩ := lookIn_ns hns
  obtain ⟨u, hu, ru⟩ := RelO.some_of (v := v) (o := mA f) (by rw [← l]; exact hr f)
  have J : PySem.W.InstAt s1.heap a oe C (some od) := ⟨ha, hz.1, by unfold PySem.W.notCls; rw [hd] <;> rfl, by rw [hz.2]; exact ho⟩
  exact HandSPX.exc_get I1.kIn J T.hg T.hk T.hs (PySem.W.findObj_own T.hd no rfl (by rw [hl, hu])) (handed_of ru) ⟨v, H1, I1.tok _, ru, q⟩
/-- a def where the top has put it -/
def At (K : PySem.W.Frag) (x : Str) (st : Stmt) (f : Addr) : Prop :=
  PySem.W.nsIn K mainGlobals x = some (some (.ref f)) ∧ ∃ (od an : Option Addr) (sl : Array (Option Value)) (oc kV dc pm cd ct : Value),
    K.lookup f = some ⟨oc, od, .func (PySem.W.fnOf x x (defArgs st) (defBody st) (defScope st) .none kV dc pm an cd ct), sl⟩ ∧ PySem.W.codeIn K cd x = true ∧ PySem.W.keepIn K (.ref f) = true
theorem at_mk {K : PySem.W.Frag} {x : Str} {st : Stmt} {f : Addr} {od an : Option Addr} {sl : Array (Option Value)} {oc kV dc pm cd ct : Value} (a : PySem.W.nsIn K mainGlobals x = some (some (.ref f)))
    (l : K.lookup f = some ⟨oc, od, .func (PySem.W.fnOf x x (defArgs st) (defBody st) (defScope st) .none kV dc pm an cd ct), sl⟩) (c : PySem.W.codeIn K cd x = true) (k : PySem.W.keepIn K (.ref f) = true) : At K x st f := ⟨a, od, an, sl, oc, kV, dc, pm, cd, ct, l, c, k⟩
theorem At.fn {K : PySem.W.Frag} {x : Str} {st : Stmt} {f : Addr} (h : At K x st f) : ∃ fd, Fun K x x st f fd := by
  obtain ⟨_, od, an, sl, oc, kV, dc, pm, cd, ct, l, c, k⟩ := h
  exact ⟨_, fun_mk l c k⟩
/-- a class where the top has put it -/
def CAt (P : Program) (K : PySem.W.Frag) (nm ql : Str) (st : Stmt) (B newId initId : String) (bmB : List Value) (fn : List Str) (C fI : Addr) : Prop :=
  PySem.W.nsIn K mainGlobals nm = some (some (.ref C)) ∧ lookC K C fI B newId initId bmB fn = true ∧ ∃ fd, InitFn P K C fI ql (defArgs st) (defBody st) (defScope st) fd
theorem cat_mk {P : Program} {K : PySem.W.Frag} {nm ql : Str} {st : Stmt} {B newId initId : String} {bmB : List Value} {fn : List Str} {C fI cl cc : Addr} {od an od2 od3 : Option Addr} {sl sl2 sl3 : Array (Option Value)} {oc kV dc pm ct oc2 oc3 : Value} {fv : Array Value} {file : Str} {tf : Tok}
    (a : PySem.W.nsIn K mainGlobals nm = some (some (.ref C))) (i : PySem.W.findIn K (.ref C) "__init__" = some (some (.ref fI)))
    (l : K.lookup fI = some ⟨oc, od, .func (fnCl "__init__" ql (defArgs st) (defBody st) (defScope st) kV dc pm an (.ref cc) ct cl), sl⟩) (c : PySem.W.codeIn K (.ref cc) ql = true)
    (m : K.lookup cl = some ⟨oc2, od2, .cell (some (.ref C)), sl2⟩) (n : K.lookup cc = some ⟨oc3, od3, .fields fv, sl3⟩) (o : fv[2]? = some (.str file tf)) (p : ((P.main.file : Str) == file) = true) (top : (P.main.scope.names.lookup ("super" : Str)).isSome = false)
    (q : lookC K C fI B newId initId bmB fn = true) : CAt P K nm ql st B newId initId bmB fn C fI :=
  ⟨a, q, _, ⟨oc, kV, dc, pm, .ref cc, ct, od, an, sl, cl, cc, _, _, fv, file, tf, rfl, l, c, m, rfl, rfl, n, rfl, o, p⟩, top⟩
end EE

set_option maxHeartbeats 4000000
/-! comprehensions over anything whose items are known: each item turned, some left out -/
namespace LC
open PySem PySem.Spec PyProof.Rows L2 G3
theorem small_line {n : Nat} (h : n ≤ 1000000) : n < sizeLine := Nat.lt_of_le_of_lt h (by decide)
section
variable {J : It} {G : Hp → Prop} {xs : List V} {g : TG} {tt : TT} {te : TE} {vs : List Nat} {σ : L2.St} {H1 : Hp} {D : Addr} {Qd : Hp → Prop}
theorem lc_map (w : Walk J xs.length G (YAt xs)) (hG : ∀ H, Same H1 H → G H) (len : xs.length ≤ 100000) (nD : H1 D = none) (f : V → V)
    (turn : ∀ x H (R : V → Hp → Prop), x ∈ xs → Same H1 H → (∀ H', Same H H' → R (f x) H') → g x (wipe σ vs) H fun σ2 H2 => wipe σ2 vs = wipe σ vs ∧ te σ2 H2 R)
    (fin : ∀ H', Same H1 H' → H' D = some (.lst (xs.map f)) → Qd H') :
    ∃ W : Nat → Nat → Hp → Prop, (∃ m, W 0 m (upd H1 D (.lst []))) ∧ ∀ i m H, W i m H →
      (J.stop i H ∧ Qd H) ∨ (J.go i H ∧ ∃ Nx : Hp → Prop, (∀ H', Nx H' → ∃ m', m' < m ∧ W (i + 1) m' H') ∧ ∀ x H', J.yld i H x H' → g x (wipe σ vs) H' fun σ2 H2 => wipe σ2 vs = wipe σ vs ∧ tYes σ2 H2 fun b H3 =>
        if b = true then te σ2 H3 fun y H4 => ∃ acc, H4 D = some (.lst acc) ∧ acc.length < sizeLine ∧ Nx (upd H4 D (.lst (acc ++ [y]))) else Nx H3) := by
  refine lc_it w (fun i H => Same H1 H ∧ H D = some (.lst ((xs.take i).map f))) ⟨same_new nD, upd_same⟩ (fun i H _ h => hG H h.1) (fun i x H H' hi h y => ?_) (fun H h => fin H h.1 ?_)
  · obtain ⟨rfl, ex⟩ := y
    have t := turn x H' (fun y H4 => ∃ acc, H4 D = some (.lst acc) ∧ acc.length < sizeLine ∧ (Same H1 (upd H4 D (.lst (acc ++ [y]))) ∧ (upd H4 D (.lst (acc ++ [y]))) D = some (.lst ((xs.take (i + 1)).map f)))) (List.mem_of_getElem? ex) h.1 (fun H5 s => ?_)
    · dsimp only [tYes]
      simp only [if_true]
      exact t
    · refine ⟨_, s _ _ h.2, ?_, same_put (h.1.trans s) nD, ?_⟩
      · rw [List.length_map, List.length_take]
        exact small_line (by omega)
      · rw [upd_same, List.take_succ, ex]
        simp
  · have e : xs.take xs.length = xs := List.take_length
    rw [e] at h
    exact h.2
theorem lc_sift (w : Walk J xs.length G (YAt xs)) (hG : ∀ H, Same H1 H → G H) (len : xs.length ≤ 100000) (nD : H1 D = none) (p : V → Bool)
    (turn : ∀ x H (R : L2.St → Bool → Hp → Prop), x ∈ xs → Same H1 H → (∀ σ2 H', Same H H' → (∀ Q' : VK, Q' x H' → te σ2 H' Q') → R σ2 (p x) H') → g x (wipe σ vs) H fun σ2 H2 => wipe σ2 vs = wipe σ vs ∧ tt σ2 H2 (R σ2))
    (fin : ∀ H', Same H1 H' → H' D = some (.lst (xs.filter p)) → Qd H') :
    ∃ W : Nat → Nat → Hp → Prop, (∃ m, W 0 m (upd H1 D (.lst []))) ∧ ∀ i m H, W i m H →
      (J.stop i H ∧ Qd H) ∨ (J.go i H ∧ ∃ Nx : Hp → Prop, (∀ H', Nx H' → ∃ m', m' < m ∧ W (i + 1) m' H') ∧ ∀ x H', J.yld i H x H' → g x (wipe σ vs) H' fun σ2 H2 => wipe σ2 vs = wipe σ vs ∧ tt σ2 H2 fun b H3 =>
        if b = true then te σ2 H3 fun y H4 => ∃ acc, H4 D = some (.lst acc) ∧ acc.length < sizeLine ∧ Nx (upd H4 D (.lst (acc ++ [y]))) else Nx H3) := by
  refine lc_it w (fun i H => Same H1 H ∧ H D = some (.lst ((xs.take i).filter p))) ⟨same_new nD, upd_same⟩ (fun i H _ h => hG H h.1) (fun i x H H' hi h y => ?_) (fun H h => fin H h.1 ?_)
  · obtain ⟨rfl, ex⟩ := y
    have tk : xs.take (i + 1) = xs.take i ++ [x] := by rw [List.take_succ, ex]; rfl
    refine turn x H' (fun σ2 b H3 => if b = true then te σ2 H3 fun y H4 => ∃ acc, H4 D = some (.lst acc) ∧ acc.length < sizeLine ∧ (Same H1 (upd H4 D (.lst (acc ++ [y]))) ∧ (upd H4 D (.lst (acc ++ [y]))) D = some (.lst ((xs.take (i + 1)).filter p)))
      else Same H1 H3 ∧ H3 D = some (.lst ((xs.take (i + 1)).filter p))) (List.mem_of_getElem? ex) h.1 (fun σ2 H5 s t => ?_)
    refine ite2 (fun e1 => ?_) (fun e1 => ?_)
    · refine t _ ⟨_, s _ _ h.2, ?_, same_put (h.1.trans s) nD, ?_⟩
      · have z := List.length_filter_le p (xs.take i)
        rw [List.length_take] at z
        exact small_line (by omega)
      · rw [upd_same, tk, List.filter_append, List.filter_cons_of_pos (p := p) e1]
        rfl
    · refine ⟨h.1.trans s, ?_⟩
      rw [tk, List.filter_append, List.filter_cons_of_neg (p := p) e1, List.filter_nil, List.append_nil]
      exact s _ _ h.2
  · have e : xs.take xs.length = xs := List.take_length
    rw [e] at h
    exact h.2
end
/-- the signs of a text -/
def sgn (z : Str) : List V := z.cps.toList.map fun c => V.str ⟨#[c]⟩
theorem walk_sgn (z : Str) : Walk (Its z) (sgn z).length (fun _ => True) (YAt (sgn z)) := by
  have e : (sgn z).length = z.cps.size := by
    unfold sgn
    rw [List.length_map, Array.length_toList]
  rw [e]
  refine (walk_str (z := z)).mono (fun _ h => h) fun i H x H' hi _ y => ?_
  obtain ⟨e1, c, hc, rfl⟩ := y
  refine ⟨e1, ?_⟩
  unfold sgn
  rw [List.getElem?_map, Array.getElem?_toList, hc]
  rfl
end LC

set_option maxHeartbeats 4000000
namespace PP
open PySem PySem.Spec PyProof.Rows L2
def topS (i : Nat) : Stmt := PySem.Challenge.pw_fewturnsover_k02_hands_and_rows_told.main.body.getD i (.Pass ⟨0, 0, 0, 0⟩)
abbrev s_TurnsError : Stmt := EE.initOf (topS 1)
abbrev s_NoProgram : Stmt := EE.initOf (topS 2)
abbrev s_NoHand : Stmt := EE.initOf (topS 3)
abbrev s_NoPoint : Stmt := EE.initOf (topS 4)
abbrev s_is_whole : Stmt := topS 7
abbrev s_is_between : Stmt := topS 9
abbrev s_is_tuple : Stmt := topS 10
abbrev s_is_source : Stmt := topS 12
abbrev s_are_ways : Stmt := topS 13
abbrev s_are_rows : Stmt := topS 14
abbrev s_are_boxes : Stmt := topS 24
abbrev s_scopes_of : Stmt := topS 25
abbrev s_are_all_rows : Stmt := topS 26
abbrev s_is_row_of : Stmt := topS 27
abbrev s_refuse_first_wrong : Stmt := topS 28
abbrev s_look_at_program : Stmt := topS 29
abbrev s_look_at_hand : Stmt := topS 30
abbrev s_is_point : Stmt := topS 31
abbrev s_row_of : Stmt := topS 32
abbrev s_all_begun : Stmt := topS 33
abbrev s_numbers_from_first : Stmt := topS 34
abbrev s_hands_of : Stmt := topS 35
abbrev s_first_hands : Stmt := topS 36
abbrev s_like_hands : Stmt := topS 37
abbrev s_row_at : Stmt := topS 38
abbrev s_law_pool : Stmt := topS 40
abbrev s_law_take : Stmt := topS 41
abbrev s_law_source : Stmt := topS 42
abbrev s_law_row : Stmt := topS 43
abbrev s_law_texts : Stmt := topS 44
abbrev s_law_program : Stmt := topS 45
abbrev s_law_named : Stmt := topS 46
abbrev s_law_lots : Stmt := topS 47
abbrev s_law_twice : Stmt := topS 48
abbrev s_law_told : Stmt := topS 49
abbrev s_law_due : Stmt := topS 50
abbrev s_law_lists_right : Stmt := topS 51
abbrev s_law_likes_right : Stmt := topS 52
abbrev s_law : Stmt := topS 53
structure Def (P : Program) (w : World) (K : PySem.W.Frag) (mg : Str → Option Value) (base : Heap) (CX : CXT) (k : Nat) (x : Str) (ps : List Str) (sp : Sp) where
  f : Addr
  d : FuncData
  ok : FnOk P w K mg base CX k f d ps sp
  g : mg x = some (.ref f)
  kp : PySem.W.keepIn K (.ref f) = true
  b : Binds K d ps []
end PP

set_option maxHeartbeats 4000000
namespace PP
open PySem PySem.Spec PyProof.Rows L2 G3 M0 PA
theorem small_le {n : Nat} (h : n ≤ 1000000) : n ≤ sizeLine := Nat.le_trans h (by decide)
theorem small_lt {n : Nat} (h : n ≤ 1000000) : n < sizeLine := Nat.lt_of_le_of_lt h (by decide)
theorem upd_id {H : Hp} {a : Addr} {o : HO} (h : H a = some o) : upd H a o = H := by
  funext b
  by_cases e : b = a
  · rw [e, upd_same, h]
  · rw [upd_ne e]
section
variable {X : Cx}
theorem op_isIB : OpR X (compareOp .Is) (fun x y H Q => ∃ i b, x = .int i ∧ y = .bl b ∧ Q (.bl false) H) := by
  intro pins s σ H x y v u Q I rx ry h
  obtain ⟨i, b, rfl, rfl, q⟩ := h
  obtain ⟨t, rfl⟩ := rx
  cases (show u = Value.bool b from ry)
  exact wpAny_is_other rfl (fun z => nomatch z) ⟨.bl false, H, I, rfl, q⟩
end
def boxK (b : Box) : Key × V := (Sum.inr b.1, .int b.2)
theorem val_boxes (kvs : List (Key × V)) : ∀ (bs : List Box) (z : Str), valV kvs (Sum.inr z) = none → (∀ b ∈ bs, b.1 ≠ z) → valV (kvs ++ bs.map boxK) (Sum.inr z) = none := by
  intro bs z h hb
  unfold valV at h ⊢
  rw [Option.map_eq_none_iff] at h ⊢
  rw [List.find?_eq_none] at h ⊢
  intro kv hm
  rcases List.mem_append.mp hm with m | m
  · exact h kv m
  · obtain ⟨b, hb1, rfl⟩ := List.mem_map.mp m
    intro e
    exact hb b hb1 (Sum.inr.inj (of_decide_eq_true e))
theorem dp2 {K : PySem.W.Frag} {H : Hp} {v : V} {d e : PyData} (h : Dp K H v (.tuple [d, e])) : ∃ a x y, v = .ref a ∧ SqT K H a [x, y] ∧ Dp K H x d ∧ Dp K H y e := by
  cases h with
  | tup hs ha =>
    cases ha with
    | cons h1 h2 =>
      cases h2 with
      | cons h3 h4 =>
        cases h4
        exact ⟨_, _, _, rfl, hs, h1, h3⟩
theorem dp_tup {K : PySem.W.Frag} {H : Hp} {v : V} {ds : List PyData} (h : Dp K H v (.tuple ds)) : ∃ a xs, v = .ref a ∧ SqT K H a xs ∧ DpAll K H xs ds := by
  cases h with
  | tup hs ha => exact ⟨_, _, rfl, hs, ha⟩
theorem dp_str {K : PySem.W.Frag} {H : Hp} {v : V} {z : Str} (h : Dp K H v (.str z)) : v = .str z := by
  cases h
  rfl
theorem dp_int {K : PySem.W.Frag} {H : Hp} {v : V} {z : Int} (h : Dp K H v (.int z)) : v = .int z := by
  cases h
  rfl
def isStr : PyData → Bool
  | .str _ => true
  | _ => false
theorem kit_str (K : PySem.W.Frag) {v : V} {H : Hp} {d : PyData} (h : Dp K H v d) : PySem.W.kitOne K (.type (tyName d)) (.type "str") = some (isStr d) := by
  cases h <;> kernel_rfl
/-- changes at a dict keep the tuples -/
theorem dict_tup {K : PySem.W.Frag} {H : Hp} {a b : Addr} {kvs kvs2 : List (Key × V)} {xs : List V} (hd : H a = some (.dK kvs)) (h : SqT K H b xs) : SqT K (upd H a (.dK kvs2)) b xs := by
  rcases h with (h | ⟨o, h⟩) | h
  · exact .inl (.inl (by rw [upd_ne (ne_of h hd (by intro z; cases z))]; exact h))
  · exact .inl (.inr ⟨o, by rw [upd_ne (ne_of h hd (by intro z; cases z))]; exact h⟩)
  · exact .inr h
abbrev nBoxes : List Str := ["thing", "most", "greatest", "sizes", "box", "name", "size"]
theorem scBoxes : FnScope nBoxes ["thing", "most", "greatest", "sizes"] (defScope s_are_boxes) := ⟨rfl, rfl, rfl, by decide +kernel, rfl, by decide +kernel, by decide +kernel⟩
theorem name_parts {z : Str} (h : nameB z = true) : z.length ≤ 8 ∧ Txt.isascii z = true ∧ Txt.isalpha z = true ∧ Txt.islower z = true := by
  unfold nameB at h
  simp only [Bool.and_eq_true, decide_eq_true_eq] at h
  exact h
section
variable {P : Program} {w : World} {K : PySem.W.Frag} {mg : Str → Option Value} {base : Heap}
def spBoxes (K : PySem.W.Frag) : Sp := fun vs H Q _ => ∃ (v : V) (bs : List Box) (most : Nat) (gr : Int) (sz : Addr) (kvs : List (Key × V)), vs = [v, .int most, .int gr, .ref sz] ∧ Dp K H v (boxesD bs) ∧ H sz = some (.dK kvs) ∧ kvs.length + bs.length ≤ 1000 ∧
  bs.length ≤ most ∧ (∀ b ∈ bs, nameB b.1 = true ∧ 1 ≤ b.2 ∧ b.2 ≤ gr ∧ valV kvs (Sum.inr b.1) = none) ∧ (bs.map (·.1)).Nodup ∧ Q (.bl true) (upd H sz (.dK (kvs ++ bs.map boxK)))
theorem ok_boxes {f : Addr} {fd : FuncData} {k : Nat} {t8 : Tok} (F : Fun K "are_boxes" "are_boxes" s_are_boxes f fd) (mi : mg "isinstance" = none) (mt : mg "tuple" = none) (ms : mg "str" = none) (mn : mg "int" = none) (ml : mg "len" = none) (m8 : mg "LONGEST_NAME" = some (.int 8 t8)) :
    FnOk P w K mg base CX0 (k + 1) f fd ["thing", "most", "greatest", "sizes"] (spBoxes K) := by
  refine F.ok scBoxes (fun vs H Q E h => ?_) (fun cdv A outer s H vs Q E hr h => ?_)
  · obtain ⟨v, bs, most, gr, sz, kvs, rfl, _⟩ := h
    rfl
  obtain ⟨v, bs, most, gr, sz, kvs, rfl, hv, hz, hlen, hmost, hnm, hnd, q⟩ := h
  have nd := scBoxes.nd
  have hu := hu_of hr
  refine ⟨_, pss_cons (ps_if (PW.pt (pw_or (pt_not (pt_val (pe_callB call_isi (by rfl) mi PyProof.Rows.boot_isinstance (pa_cons (pv 0) (pa_cons (pe_bltn (by rfl) mt (u := .type "tuple") (by decide +kernel) (show RelV (.ty "tuple") (.type "tuple") from rfl)) pa_nil)))))
        (pw_or1 (pt_cmpR op_gt (pe_callB call_len_seq (by rfl) ml PySem.boot_len (pa_cons (pv 0) pa_nil)) (pv 1) (nomark _)))))
      (pss_one ps_dead) pss_nil)
    (pss_cons (ps_for PassesOwn.never rfl (pi_tup (pv 0)) (pg_name (i := 4) nd rfl (.inl rfl))
      (pss_cons (ps_if (PW.pt (pw_or (pt_not (pt_val (pe_callB call_isi (by rfl) mi PyProof.Rows.boot_isinstance (pa_cons (pv 4) (pa_cons (pe_bltn (by rfl) mt (u := .type "tuple") (by decide +kernel) (show RelV (.ty "tuple") (.type "tuple") from rfl)) pa_nil)))))
          (pw_or1 (pt_cmpR op_ne (pe_callB call_len_seq (by rfl) ml PySem.boot_len (pa_cons (pv 4) pa_nil)) pe_int (nomark _)))))
        (pss_one ps_dead) pss_nil)
      (pss_cons (ps_asg (pv 4) (pg_tup rfl (pgs_cons (pg_name (i := 5) nd rfl (.inl rfl)) (pgs_cons (pg_name (i := 6) nd rfl (.inl rfl)) pgs_nil))))
      (pss_cons (ps_if (PW.pt (pw_or (pt_not (pt_val (pe_callB call_isi (by rfl) mi PyProof.Rows.boot_isinstance (pa_cons (pv 5) (pa_cons (pe_bltn (by rfl) ms (u := .type "str") (by decide +kernel) (show RelV (.ty "str") (.type "str") from rfl)) pa_nil)))))
          (pw_or (pt_cmp (pc_din hu (pv 5) (pv 3)))
          (pw_or1 (pt_cmpR op_gt (pe_callB call_len_str (by rfl) ml PySem.boot_len (pa_cons (pv 5) pa_nil)) (pe_glob (v := .int 8) (by rfl) m8 ⟨_, rfl⟩) (nomark _))))))
        (pss_one ps_dead) pss_nil)
      (pss_cons (ps_if (PW.pt (pw_or (pt_not (pt_val (pe_m0 PySem.F.slot_str_isascii PySem.F.type_str_isascii mt_isascii (pv 5))))
          (pw_or (pt_not (pt_val (pe_m0 PySem.F.slot_str_isalpha PySem.F.type_str_isalpha mt_isalpha (pv 5))))
          (pw_or1 (pt_not (pt_val (pe_m0 PySem.F.slot_str_islower PySem.F.type_str_islower mt_islower (pv 5))))))))
        (pss_one ps_dead) pss_nil)
      (pss_cons (ps_if (PW.pt (pw_or (pt_not (pt_val (pe_callB call_isi (by rfl) mi PyProof.Rows.boot_isinstance (pa_cons (pv 6) (pa_cons (pe_bltn (by rfl) mn (u := .type "int") (by decide +kernel) (show RelV (.ty "int") (.type "int") from rfl)) pa_nil)))))
          (pw_or (pt_not (pt_chain op_le op_le pe_int (pv 6) (pv 2)))
          (pw_or1 (pt_cmpR op_isIB (pv 6) pe_bl (nomark _))))))
        (pss_one ps_dead) pss_nil)
      (pss_one (ps_dput hu (pv 3) (pv 5) (pv 6) rfl))))))))
    (pss_one (ps_ret pe_bl))), ?_⟩
  obtain ⟨a, xs, rfl, hs, hall⟩ := dp_tup hv
  have hxl : xs.length = bs.length := by rw [dpAll_len hall, List.length_map]
  refine ⟨_, rfl, _, _, _, _, _, rfl, .ty "tuple", dp_ty hv, kit_tup K hv, _, rfl, iteF ⟨_, rfl, a, _, rfl, .inr hs, _, rfl, _, _, rfl, rfl, _, rfl, ?_⟩⟩
  rw [decide_eq_false (show ¬ (most : Int) < (xs.length : Int) by omega)]
  refine iteF ⟨_, rfl, a, rfl, ⟨_, hs⟩, for_tup (xs := xs)
    (fun i σ H3 => ∃ y4 y5 y6, σ = [some (.ref a), some (.int most), some (.int gr), some (.ref sz), y4, y5, y6] ∧ H3 = upd H sz (.dK (kvs ++ (bs.take i).map boxK)))
    ⟨none, none, none, rfl, by rw [List.take_zero, List.map_nil, List.append_nil, upd_id hz]⟩ (fun i σ H3 _ hP => ?_) (fun i x σ H3 hx hP => ?_) (fun σ H3 hP => ?_)⟩
  · obtain ⟨_, _, _, _, rfl⟩ := hP
    exact dict_tup hz hs
  · obtain ⟨y4, y5, y6, rfl, rfl⟩ := hP
    obtain ⟨d, hd, hxd⟩ := dpAll_get hall hx
    rw [List.getElem?_map] at hd
    obtain ⟨b, hb, rfl⟩ := Option.map_eq_some_iff.mp hd
    have mb := List.mem_of_getElem? hb
    obtain ⟨n1, n2, n3, n4⟩ := hnm b mb
    obtain ⟨p1, p2, p3, p4⟩ := name_parts n1
    obtain ⟨c, v1, v2, rfl, hc, h1, h2⟩ := dp2 hxd
    cases dp_str h1
    cases dp_int h2
    have hc2 := dict_tup (kvs2 := kvs ++ (bs.take i).map boxK) hz hc
    have hxd2 : Dp K (upd H sz (.dK (kvs ++ (bs.take i).map boxK))) (.ref c) (boxD b) := .tup hc2 (.cons (.str _) (.cons (.int _) .nil))
    have hz2 : (upd H sz (.dK (kvs ++ (bs.take i).map boxK))) sz = some (.dK (kvs ++ (bs.take i).map boxK)) := upd_same
    have hno : valV (kvs ++ (bs.take i).map boxK) (Sum.inr b.1) = none := val_boxes kvs _ _ n4 (take_fresh (·.1) hnd hb)
    refine ⟨_, rfl, _, _, _, _, _, rfl, .ty "tuple", dp_ty hxd2, kit_tup K hxd2, _, rfl, iteF ⟨_, rfl, c, _, rfl, .inr hc2, rfl, _, rfl, iteNS rfl ?_⟩⟩
    refine ⟨_, rfl, c, _, rfl, hc2, rfl, _, _, rfl, _, _, rfl, rfl, ?_⟩
    refine ⟨_, rfl, _, _, _, _, _, rfl, .ty "str", dp_ty (.str b.1), kit_str K (H := H) (.str b.1), _, rfl, iteF ⟨_, rfl, _, rfl, sz, _, rfl, DGet.k (k := Sum.inr b.1) hz2, _, rfl, ?_⟩⟩
    rw [hno]
    refine iteF ⟨_, rfl, b.1, rfl, small_le (by omega), _, _, rfl, rfl, _, rfl, ?_⟩
    rw [decide_eq_false (show ¬ (8 : Int) < (b.1.length : Int) by omega)]
    refine iteF ⟨_, rfl, ⟨_, rfl⟩, _, rfl, rfl, trivial, _, rfl, ?_⟩
    rw [p2]
    refine iteF ⟨_, rfl, ⟨_, rfl⟩, _, rfl, rfl, trivial, _, rfl, ?_⟩
    rw [p3]
    refine iteF ⟨_, rfl, ⟨_, rfl⟩, _, rfl, rfl, trivial, _, rfl, ?_⟩
    rw [p4]
    refine iteF ⟨_, rfl, _, _, _, _, _, rfl, .ty "int", dp_ty (.int b.2), kit_int K (H := H) (.int b.2), _, rfl, iteF ?_⟩
    refine ⟨_, rfl, _, _, rfl, rfl, _, rfl, ?_⟩
    rw [decide_eq_true n2]
    refine iteT ⟨_, rfl, _, _, rfl, rfl, _, rfl, ?_⟩
    rw [decide_eq_true n3]
    refine iteF ⟨_, rfl, _, _, rfl, rfl, _, rfl, iteF ?_⟩
    refine ⟨_, rfl, _, rfl, _, rfl, sz, _, rfl, DPut.k (k := Sum.inr b.1) hz2 ?_, ?_⟩
    · rw [List.length_append, List.length_map, List.length_take]
      exact small_lt (by omega)
    · refine ⟨_, _, _, rfl, ?_⟩
      have e1 : (bs.take (i + 1)).map boxK = (bs.take i).map boxK ++ [boxK b] := by
        rw [List.take_succ, hb, List.map_append]
        rfl
      rw [putK_new _ hno, e1, ← List.append_assoc]
      funext e
      by_cases z : e = sz
      · rw [z, upd_same, upd_same]
        rfl
      · rw [upd_ne z, upd_ne z, upd_ne z]
  · obtain ⟨y4, y5, y6, rfl, rfl⟩ := hP
    rw [List.take_of_length_le (by omega)]
    exact q
end
end PP

set_option maxHeartbeats 4000000
namespace PP
open PySem PySem.Spec PyProof.Rows L2 G3 M0 PA
abbrev nSource : List Str := ["source", "size", "box", "sizes", "word", "thing"]
abbrev nWays : List Str := ["thing", "end", "ahead", "way"]
theorem scSource : FnScope nSource ["source", "size", "box", "sizes"] (defScope s_is_source) := ⟨rfl, rfl, rfl, by decide +kernel, rfl, by decide +kernel, by decide +kernel⟩
theorem scWays : FnScope nWays ["thing", "end"] (defScope s_are_ways) := ⟨rfl, rfl, rfl, by decide +kernel, rfl, by decide +kernel, by decide +kernel⟩
/-- a dict of sizes -/
def SizesAt (H : Hp) (a : Addr) (bs : List Box) : Prop := ∃ kvs, Rd H a (.dK kvs) ∧ ∀ o m, size? bs o = some m → valV kvs (Sum.inr o) = some (.int m)
theorem SizesAt.get {H : Hp} {a : Addr} {bs : List Box} {o : Str} {m : Int} (h : SizesAt H a bs) (e : size? bs o = some m) : DGet H a (.str o) (some (.int m)) := by
  obtain ⟨kvs, hr, hk⟩ := h
  exact .inl ⟨kvs, Sum.inr o, hr, rfl, (hk o m e).symm⟩
theorem dp1 {K : PySem.W.Frag} {H : Hp} {v : V} {d : PyData} (h : Dp K H v (.tuple [d])) : ∃ a x, v = .ref a ∧ SqT K H a [x] ∧ Dp K H x d := by
  cases h with
  | tup hs ha =>
    cases ha with
    | cons h1 h2 =>
      cases h2
      exact ⟨_, _, rfl, hs, h1⟩
section
variable {P : Program} {w : World} {K : PySem.W.Frag} {mg : Str → Option Value} {base : Heap}
def spSource (K : PySem.W.Frag) : Sp := fun vs H Q _ => ∃ (v : V) (bs : List Box) (b : Str) (n : Int) (sr : Src) (sz : Addr), vs = [v, .int n, .str b, .ref sz] ∧ Dp K H v sr.data ∧ SizesAt H sz bs ∧ SrcOk bs b n sr ∧ Q (.bl true) H
theorem ok_source {f : Addr} {fd : FuncData} {k : Nat} (F : Fun K "is_source" "is_source" s_is_source f fd) (mi : mg "isinstance" = none) (ms : mg "str" = none) (mn : mg "int" = none) (ml : mg "len" = none) :
    FnOk P w K mg base CX0 (k + 1) f fd ["source", "size", "box", "sizes"] (spSource K) := by
  refine F.ok scSource (fun vs H Q E h => ?_) (fun cdv A outer s H vs Q E hr h => ?_)
  · obtain ⟨v, bs, b, n, sr, sz, rfl, _⟩ := h
    rfl
  obtain ⟨v, bs, b, n, sr, sz, rfl, hv, hz, ok, q⟩ := h
  have nd := scSource.nd
  have hu := hu_of hr
  refine ⟨_, pss_cons (ps_if (pt_cmpR op_ne (pe_callB call_len_seq (by rfl) ml PySem.boot_len (pa_cons (pv 0) pa_nil)) pe_int (nomark _))
      (pss_one (ps_ret (pe_and (pe_cmpR op_eq (pe_callB call_len_seq (by rfl) ml PySem.boot_len (pa_cons (pv 0) pa_nil)) pe_int (nomark _))
        (pe_and (pe_callB call_isi (by rfl) mi PyProof.Rows.boot_isinstance (pa_cons (pe_ix ix_tup (pv 0) pe_int (fun _ _ => rfl)) (pa_cons (pe_bltn (by rfl) ms (u := .type "str") (by decide +kernel) (show RelV (.ty "str") (.type "str") from rfl)) pa_nil)))
        (pe_one (pe_cmpR op_eq (pe_ix ix_tup (pv 0) pe_int (fun _ _ => rfl)) pe_str (nomark _))))))) pss_nil)
    (pss_cons (ps_asg (pv 0) (pg_tup rfl (pgs_cons (pg_name (i := 4) nd rfl (.inl rfl)) (pgs_cons (pg_name (i := 5) nd rfl (.inl rfl)) pgs_nil))))
    (pss_cons (ps_if (pt_not (pt_val (pe_callB call_isi (by rfl) mi PyProof.Rows.boot_isinstance (pa_cons (pv 4) (pa_cons (pe_bltn (by rfl) ms (u := .type "str") (by decide +kernel) (show RelV (.ty "str") (.type "str") from rfl)) pa_nil)))))
      (pss_one ps_dead) pss_nil)
    (pss_cons (ps_if (pt_val (pe_callB call_isi (by rfl) mi PyProof.Rows.boot_isinstance (pa_cons (pv 5) (pa_cons (pe_bltn (by rfl) mn (u := .type "int") (by decide +kernel) (show RelV (.ty "int") (.type "int") from rfl)) pa_nil))))
      (pss_cons (ps_if (PW.pt (pw_or (pt_cmpR op_isIB (pv 5) pe_bl (nomark _)) (pw_or1 (pt_cmpR op_isIB (pv 5) pe_bl (nomark _))))) (pss_one ps_dead) pss_nil)
      (pss_one (ps_ret (pe_ifExp (pt_cmpR op_eq (pv 4) pe_str (nomark _)) (pe_chain op_le op_lt pe_int (pv 5) (pv 1)) (pe_and (pe_cmpR op_eq (pv 4) pe_str (nomark _)) (pe_one (pe_chain op_le op_le pe_int (pv 5) pe_int))))))) pss_nil)
    (pss_one (ps_ret (pe_and (pe_cmpR op_eq (pv 4) pe_str (nomark _)) (pe_and (pe_callB call_isi (by rfl) mi PyProof.Rows.boot_isinstance (pa_cons (pv 5) (pa_cons (pe_bltn (by rfl) ms (u := .type "str") (by decide +kernel) (show RelV (.ty "str") (.type "str") from rfl)) pa_nil)))
      (pe_and (pe_cmpR op_ne (pv 5) (pv 2) (nomark _)) (pe_one (pe_cmpR op_le (pe_dget hu (pv 3) (pv 5) (fun _ _ => rfl)) (pv 1) (nomark _))))))))))), ?_⟩
  cases sr with
  | any =>
    obtain ⟨a, x, rfl, hs, hx⟩ := dp1 hv
    cases dp_str hx
    refine ⟨_, rfl, a, _, rfl, .inr hs, rfl, _, rfl, iteT ?_⟩
    refine ⟨_, rfl, a, _, rfl, .inr hs, rfl, _, rfl, iteT ?_⟩
    refine ⟨_, rfl, a, _, 0, _, rfl, rfl, hs, atI_nat (j := 0) rfl, _, _, _, _, _, rfl, .ty "str", dp_ty (.str "any"), kit_str K (H := H) (.str "any"), _, rfl, iteT ?_⟩
    exact ⟨_, rfl, a, _, 0, _, rfl, rfl, hs, atI_nat (j := 0) rfl, rfl, q⟩
  | of o =>
    obtain ⟨a, x, y, rfl, hs, hx, hy⟩ := dp2 hv
    cases dp_str hx
    cases dp_str hy
    obtain ⟨h1, m, h2, h3⟩ := ok
    refine ⟨_, rfl, a, _, rfl, .inr hs, rfl, _, rfl, iteF ?_⟩
    refine ⟨_, rfl, a, _, rfl, hs, rfl, _, _, rfl, _, _, rfl, rfl, ?_⟩
    refine ⟨_, rfl, _, _, _, _, _, rfl, .ty "str", dp_ty (.str "of"), kit_str K (H := H) (.str "of"), _, rfl, iteF ?_⟩
    refine ⟨_, rfl, _, _, _, _, _, rfl, .ty "int", dp_ty (.str o), kit_int K (H := H) (.str o), _, rfl, iteF ?_⟩
    refine ⟨_, rfl, rfl, _, rfl, iteT ?_⟩
    refine ⟨_, rfl, _, _, _, _, _, rfl, .ty "str", dp_ty (.str o), kit_str K (H := H) (.str o), _, rfl, iteT ?_⟩
    refine ⟨_, rfl, _, rfl, rfl, _, rfl, ?_⟩
    rw [decide_eq_false (show ¬ V.str o = V.str b from fun z => h1 (V.str.inj z))]
    refine iteT ⟨_, rfl, _, rfl, sz, _, rfl, hz.get h2, _, rfl, _, _, rfl, rfl, ?_⟩
    show Q (.bl (decide (m ≤ n))) H
    rw [decide_eq_true h3]
    exact q
  | to m =>
    obtain ⟨a, x, y, rfl, hs, hx, hy⟩ := dp2 hv
    cases dp_str hx
    cases dp_int hy
    obtain ⟨h1, h2⟩ := ok
    refine ⟨_, rfl, a, _, rfl, .inr hs, rfl, _, rfl, iteF ?_⟩
    refine ⟨_, rfl, a, _, rfl, hs, rfl, _, _, rfl, _, _, rfl, rfl, ?_⟩
    refine ⟨_, rfl, _, _, _, _, _, rfl, .ty "str", dp_ty (.str "to"), kit_str K (H := H) (.str "to"), _, rfl, iteF ?_⟩
    refine ⟨_, rfl, _, _, _, _, _, rfl, .ty "int", dp_ty (.int m), kit_int K (H := H) (.int m), _, rfl, iteT ?_⟩
    refine ⟨_, rfl, _, _, rfl, rfl, _, rfl, iteF ⟨_, rfl, _, _, rfl, rfl, _, rfl, iteF ?_⟩⟩
    refine ⟨_, rfl, rfl, _, rfl, iteT ⟨_, rfl, _, _, rfl, rfl, _, rfl, ?_⟩⟩
    rw [decide_eq_true h1]
    refine iteT ⟨_, rfl, _, _, rfl, rfl, ?_⟩
    show Q (.bl (decide (m < n))) H
    rw [decide_eq_true h2]
    exact q
  | on m =>
    obtain ⟨a, x, y, rfl, hs, hx, hy⟩ := dp2 hv
    cases dp_str hx
    cases dp_int hy
    obtain ⟨h1, h2⟩ := ok
    refine ⟨_, rfl, a, _, rfl, .inr hs, rfl, _, rfl, iteF ?_⟩
    refine ⟨_, rfl, a, _, rfl, hs, rfl, _, _, rfl, _, _, rfl, rfl, ?_⟩
    refine ⟨_, rfl, _, _, _, _, _, rfl, .ty "str", dp_ty (.str "on"), kit_str K (H := H) (.str "on"), _, rfl, iteF ?_⟩
    refine ⟨_, rfl, _, _, _, _, _, rfl, .ty "int", dp_ty (.int m), kit_int K (H := H) (.int m), _, rfl, iteT ?_⟩
    refine ⟨_, rfl, _, _, rfl, rfl, _, rfl, iteF ⟨_, rfl, _, _, rfl, rfl, _, rfl, iteF ?_⟩⟩
    refine ⟨_, rfl, rfl, _, rfl, iteF ⟨_, rfl, rfl, _, rfl, iteT ⟨_, rfl, _, _, rfl, rfl, _, rfl, ?_⟩⟩⟩
    rw [decide_eq_true h1]
    refine iteT ⟨_, _, rfl, rfl, ?_⟩
    show Q (.bl (decide (m ≤ 3))) H
    rw [decide_eq_true h2]
    exact q
def spWays (K : PySem.W.Frag) : Sp := fun vs H Q _ => ∃ (v : V) (rs : List Int) (e : Int), vs = [v, .int e] ∧ Dp K H v (.tuple (rs.map .int)) ∧ 1 ≤ rs.length ∧ rs.length ≤ 4 ∧ Rising (-1) rs ∧ (∀ r ∈ rs, r ≤ e) ∧ Q (.bl true) H
theorem ok_ways {f : Addr} {fd : FuncData} {k : Nat} (F : Fun K "are_ways" "are_ways" s_are_ways f fd) (mi : mg "isinstance" = none) (mt : mg "tuple" = none) (mn : mg "int" = none) (ml : mg "len" = none) :
    FnOk P w K mg base CX0 (k + 1) f fd ["thing", "end"] (spWays K) := by
  refine F.ok scWays (fun vs H Q E h => ?_) (fun cdv A outer s H vs Q E hr h => ?_)
  · obtain ⟨v, rs, e, rfl, _⟩ := h
    rfl
  obtain ⟨v, rs, e, rfl, hv, l1, l4, ris, hle, q⟩ := h
  have nd := scWays.nd
  refine ⟨_, pss_cons (ps_if (PW.pt (pw_or (pt_not (pt_val (pe_callB call_isi (by rfl) mi PyProof.Rows.boot_isinstance (pa_cons (pv 0) (pa_cons (pe_bltn (by rfl) mt (u := .type "tuple") (by decide +kernel) (show RelV (.ty "tuple") (.type "tuple") from rfl)) pa_nil)))))
        (pw_or1 (pt_not (pt_chain op_le op_le pe_int (pe_callB call_len_seq (by rfl) ml PySem.boot_len (pa_cons (pv 0) pa_nil)) pe_int)))))
      (pss_one ps_dead) pss_nil)
    (pss_cons (ps_set (i := 2) nd rfl (.inl rfl) (pe_un un_neg pe_int))
    (pss_cons (ps_for PassesOwn.never rfl (pi_tup (pv 0)) (pg_name (i := 3) nd rfl (.inl rfl))
      (pss_cons (ps_if (PW.pt (pw_or (pt_not (pt_val (pe_callB call_isi (by rfl) mi PyProof.Rows.boot_isinstance (pa_cons (pv 3) (pa_cons (pe_bltn (by rfl) mn (u := .type "int") (by decide +kernel) (show RelV (.ty "int") (.type "int") from rfl)) pa_nil)))))
          (pw_or (pt_not (pt_chain op_lt op_le (pv 2) (pv 3) (pv 1)))
          (pw_or (pt_cmpR op_isIB (pv 3) pe_bl (nomark _)) (pw_or1 (pt_cmpR op_isIB (pv 3) pe_bl (nomark _)))))))
        (pss_one ps_dead) pss_nil)
      (pss_one (ps_set (i := 2) nd rfl (.inl rfl) (pv 3)))))
    (pss_one (ps_ret pe_bl)))), ?_⟩
  obtain ⟨a, xs, rfl, hs, hall⟩ := dp_tup hv
  have hxl : xs.length = rs.length := by rw [dpAll_len hall, List.length_map]
  refine ⟨_, rfl, _, _, _, _, _, rfl, .ty "tuple", dp_ty hv, kit_tup K hv, _, rfl, iteF ⟨_, rfl, a, _, rfl, .inr hs, _, _, rfl, rfl, _, rfl, ?_⟩⟩
  rw [decide_eq_true (show (1 : Int) ≤ (xs.length : Int) by omega)]
  refine iteT ⟨_, _, rfl, rfl, _, rfl, ?_⟩
  rw [decide_eq_true (show (xs.length : Int) ≤ 4 by omega)]
  refine iteF ⟨1, rfl, ?_⟩
  refine ⟨_, rfl, a, rfl, ⟨_, hs⟩, for_tup (xs := xs)
    (fun i σ H3 => ∃ (c : Int) (y3 : Option V), σ = [some (.ref a), some (.int e), some (.int c), y3] ∧ H3 = H ∧ Rising c (rs.drop i))
    ⟨-1, none, rfl, rfl, ris⟩ (fun i σ H3 _ hP => ?_) (fun i x σ H3 hx hP => ?_) (fun σ H3 hP => ?_)⟩
  · obtain ⟨_, _, _, rfl, _⟩ := hP
    exact hs
  · obtain ⟨c, y3, rfl, rfl, hR⟩ := hP
    obtain ⟨d, hd, hxd⟩ := dpAll_get hall hx
    rw [List.getElem?_map] at hd
    obtain ⟨r, hr1, rfl⟩ := Option.map_eq_some_iff.mp hd
    cases dp_int hxd
    have hi := (List.getElem?_eq_some_iff.mp hr1).1
    rw [List.drop_eq_getElem_cons hi, (List.getElem?_eq_some_iff.mp hr1).2] at hR
    obtain ⟨hc, hR2⟩ := hR
    refine ⟨_, rfl, _, _, _, _, _, rfl, .ty "int", dp_ty (.int r), kit_int K (H := H3) (.int r), _, rfl, iteF ?_⟩
    refine ⟨_, rfl, _, rfl, _, _, rfl, rfl, _, rfl, ?_⟩
    rw [decide_eq_true hc]
    refine iteT ⟨_, rfl, _, _, rfl, rfl, _, rfl, ?_⟩
    rw [decide_eq_true (hle r (List.mem_of_getElem? hr1))]
    refine iteF ⟨_, rfl, _, _, rfl, rfl, _, rfl, iteF ⟨_, rfl, _, _, rfl, rfl, _, rfl, iteF ?_⟩⟩
    exact ⟨_, rfl, r, _, rfl, rfl, hR2⟩
  · obtain ⟨c, y3, rfl, rfl, _⟩ := hP
    exact q
end
end PP

set_option maxHeartbeats 4000000
namespace PP
open PySem PySem.Spec PyProof.Rows L2 G3 M0 PA
abbrev nRows : List Str := ["rows", "end", "sizes", "texts", "hands", "name", "row", "many", "word", "box", "thing", "value", "way"]
theorem scRows : FnScope nRows ["rows", "end", "sizes", "texts", "hands", "name"] (defScope s_are_rows) := ⟨rfl, rfl, rfl, by decide +kernel, rfl, by decide +kernel, by decide +kernel⟩
theorem rd_same {H H' : Hp} {a : Addr} {u : HO} (s : Same H H') (h : Rd H a u) : Rd H' a u := by
  rcases h with h | ⟨o, h⟩
  · exact .inl (s _ _ h)
  · exact .inr ⟨o, s _ _ h⟩
theorem SizesAt.same {H H' : Hp} {a : Addr} {bs : List Box} (h : SizesAt H a bs) (s : Same H H') : SizesAt H' a bs := by
  obtain ⟨kvs, h1, h2⟩ := h
  exact ⟨kvs, rd_same s h1, h2⟩
/-- a dict that has these keys -/
def KeysAt (H : Hp) (a : Addr) (zs : List Str) : Prop := ∃ kvs, Rd H a (.dK kvs) ∧ ∀ z ∈ zs, (valV kvs (Sum.inr z)).isSome = true
theorem KeysAt.same {H H' : Hp} {a : Addr} {zs : List Str} (h : KeysAt H a zs) (s : Same H H') : KeysAt H' a zs := by
  obtain ⟨kvs, h1, h2⟩ := h
  exact ⟨kvs, rd_same s h1, h2⟩
theorem dp3 {K : PySem.W.Frag} {H : Hp} {v : V} {d e g : PyData} (h : Dp K H v (.tuple [d, e, g])) : ∃ a x y z, v = .ref a ∧ SqT K H a [x, y, z] ∧ Dp K H x d ∧ Dp K H y e ∧ Dp K H z g := by
  cases h with
  | tup hs ha =>
    cases ha with
    | cons h1 h2 =>
      cases h2 with
      | cons h3 h4 =>
        cases h4 with
        | cons h5 h6 =>
          cases h6
          exact ⟨_, _, _, _, rfl, hs, h1, h3, h5⟩
theorem dp4 {K : PySem.W.Frag} {H : Hp} {v : V} {d e g i : PyData} (h : Dp K H v (.tuple [d, e, g, i])) : ∃ a x y z u, v = .ref a ∧ SqT K H a [x, y, z, u] ∧ Dp K H x d ∧ Dp K H y e ∧ Dp K H z g ∧ Dp K H u i := by
  cases h with
  | tup hs ha =>
    cases ha with
    | cons h1 h2 =>
      cases h2 with
      | cons h3 h4 =>
        cases h4 with
        | cons h5 h6 =>
          cases h6 with
          | cons h7 h8 =>
            cases h8
            exact ⟨_, _, _, _, _, rfl, hs, h1, h3, h5, h7⟩
theorem src_tup {s : Src} : ∃ ds, s.data = .tuple ds := by
  cases s <;> exact ⟨_, rfl⟩
section
variable {P : Program} {w : World} {K : PySem.W.Frag} {mg : Str → Option Value} {base : Heap}
def spRows (K : PySem.W.Frag) : Sp := fun vs H Q _ => ∃ (v : V) (rs : List PA.Row) (e : Int) (sz tx hd : Addr) (nm : Str) (bs : List Box) (titles others : List Str), vs = [v, .int e, .ref sz, .ref tx, .ref hd, .str nm] ∧ Dp K H v (rowsD rs) ∧ SizesAt H sz bs ∧ KeysAt H tx titles ∧ KeysAt H hd others ∧
  nm ∉ others ∧ (∀ r ∈ rs, RowOk bs titles others e r) ∧ ∀ H', Same H H' → Q (.bl true) H'
set_option maxHeartbeats 8000000 in
theorem ok_rows {f : Addr} {fd : FuncData} {k : Nat} (F : Fun K "are_rows" "are_rows" s_are_rows f fd) (DS : Def P w K mg base CX0 (k + 1) "is_source" ["source", "size", "box", "sizes"] (spSource K)) (DW : Def P w K mg base CX0 (k + 1) "are_ways" ["thing", "end"] (spWays K))
    (mi : mg "isinstance" = none) (mt : mg "tuple" = none) (ms : mg "str" = none) (mn : mg "int" = none) (ml : mg "len" = none) : FnOk P w K mg base CX0 (k + 1 + 1) f fd ["rows", "end", "sizes", "texts", "hands", "name"] (spRows K) := by
  refine F.ok scRows (fun vs H Q E h => ?_) (fun cdv A outer s H vs Q E hr h => ?_)
  · obtain ⟨v, rs, e, sz, tx, hd, nm, bs, titles, others, rfl, _⟩ := h
    rfl
  obtain ⟨v, rs, e, sz, tx, hd, nm, bs, titles, others, rfl, hv, hz, ht, hh, hnm, hok, q⟩ := h
  have nd := scRows.nd
  have hu := hu_of hr
  refine ⟨_, pss_cons (ps_for PassesOwn.never rfl (pi_tup (pv 0)) (pg_name (i := 6) nd rfl (.inl rfl))
      (pss_cons (ps_if (pt_not (pt_val (pe_callB call_isi (by rfl) mi PyProof.Rows.boot_isinstance (pa_cons (pv 6) (pa_cons (pe_bltn (by rfl) mt (u := .type "tuple") (by decide +kernel) (show RelV (.ty "tuple") (.type "tuple") from rfl)) pa_nil))))) (pss_one ps_dead) pss_nil)
      (pss_cons (ps_set (i := 7) nd rfl (.inl rfl) (pe_callB call_len_seq (by rfl) ml PySem.boot_len (pa_cons (pv 6) pa_nil)))
      (pss_one (ps_if (pt_cmpR op_eq (pv 7) pe_int (nomark _))
        (pss_cons (ps_asg (pv 6) (pg_tup rfl (pgs_cons (pg_name (i := 8) nd rfl (.inl rfl)) (pgs_cons (pg_name (i := 9) nd rfl (.inl rfl)) (pgs_cons (pg_name (i := 10) nd rfl (.inl rfl)) pgs_nil)))))
        (pss_cons (ps_if (PW.pt (pw_or (pt_not (pt_val (pe_callB call_isi (by rfl) mi PyProof.Rows.boot_isinstance (pa_cons (pv 8) (pa_cons (pe_bltn (by rfl) ms (u := .type "str") (by decide +kernel) (show RelV (.ty "str") (.type "str") from rfl)) pa_nil)))))
            (pw_or1 (pt_not (pt_val (pe_callB call_isi (by rfl) mi PyProof.Rows.boot_isinstance (pa_cons (pv 9) (pa_cons (pe_bltn (by rfl) ms (u := .type "str") (by decide +kernel) (show RelV (.ty "str") (.type "str") from rfl)) pa_nil)))))))) (pss_one ps_dead) pss_nil)
        (pss_one (ps_if (pt_cmpR op_eq (pv 8) pe_str (nomark _))
          (pss_one (ps_if (PW.pt (pw_or (pt_not (pt_val (pe_callB call_isi (by rfl) mi PyProof.Rows.boot_isinstance (pa_cons (pv 10) (pa_cons (pe_bltn (by rfl) mt (u := .type "tuple") (by decide +kernel) (show RelV (.ty "tuple") (.type "tuple") from rfl)) pa_nil)))))
            (pw_or1 (pt_not (pt_val (pe_call DS.ok hr (by rfl) DS.g DS.kp DS.b .nil pass0 (pa_cons (pv 10) (pa_cons (pe_dget hu (pv 2) (pv 9) (fun _ _ => rfl)) (pa_cons (pv 9) (pa_cons (pv 2) pa_nil)))))))))) (pss_one ps_dead) pss_nil))
          (pss_one (ps_if (PW.pt (pw_or (pt_cmpR op_ne (pv 8) pe_str (nomark _))
              (pw_or (pt_not (pt_val (pe_callB call_isi (by rfl) mi PyProof.Rows.boot_isinstance (pa_cons (pv 10) (pa_cons (pe_bltn (by rfl) mn (u := .type "int") (by decide +kernel) (show RelV (.ty "int") (.type "int") from rfl)) pa_nil)))))
              (pw_or1 (pt_not (pt_chain op_le op_lt pe_int (pv 10) (pe_dget hu (pv 2) (pv 9) (fun _ _ => rfl))))))))
            (pss_one ps_dead)
            (pss_one (ps_if (PW.pt (pw_or (pt_cmpR op_isIB (pv 10) pe_bl (nomark _)) (pw_or1 (pt_cmpR op_isIB (pv 10) pe_bl (nomark _))))) (pss_one ps_dead) pss_nil))))))))
        (pss_one (ps_if (pt_cmpR op_eq (pv 7) pe_int (nomark _))
          (pss_cons (ps_asg (pv 6) (pg_tup rfl (pgs_cons (pg_name (i := 8) nd rfl (.inl rfl)) (pgs_cons (pg_name (i := 10) nd rfl (.inl rfl)) pgs_nil))))
          (pss_cons (ps_if (pt_not (pt_val (pe_callB call_isi (by rfl) mi PyProof.Rows.boot_isinstance (pa_cons (pv 8) (pa_cons (pe_bltn (by rfl) ms (u := .type "str") (by decide +kernel) (show RelV (.ty "str") (.type "str") from rfl)) pa_nil))))) (pss_one ps_dead) pss_nil)
          (pss_one (ps_if (pt_cmpR op_eq (pv 8) pe_str (nomark _))
            (pss_one (ps_if (pt_not (pt_val (pe_call DW.ok hr (by rfl) DW.g DW.kp DW.b .nil pass0 (pa_cons (pv 10) (pa_cons (pv 1) pa_nil))))) (pss_one ps_dead) pss_nil))
            (pss_one (ps_if (pt_not (pt_val (pe_callB call_isi (by rfl) mi PyProof.Rows.boot_isinstance (pa_cons (pv 10) (pa_cons (pe_bltn (by rfl) ms (u := .type "str") (by decide +kernel) (show RelV (.ty "str") (.type "str") from rfl)) pa_nil))))) (pss_one ps_dead)
              (pss_one (ps_if (pt_cmp (pc_dnotin hu (pv 10) (pe_ifExp (pt_cmpR op_eq (pv 8) pe_str (nomark _)) (pv 3) (pe_ifExp (PW.pt (pw_and (pt_cmpR op_eq (pv 8) pe_str (nomark _)) (pw_and1 (pt_cmpR op_ne (pv 10) (pv 5) (nomark _))))) (pv 4) pe_dead))) rfl) (pss_one ps_dead) pss_nil))))))))
          (pss_one (ps_if (pt_cmpR op_eq (pv 7) pe_int (nomark _))
            (pss_cons (ps_asg (pv 6) (pg_tup rfl (pgs_cons (pg_name (i := 8) nd rfl (.inl rfl)) (pgs_cons (pg_name (i := 9) nd rfl (.inl rfl)) (pgs_cons (pg_name (i := 11) nd rfl (.inl rfl)) (pgs_cons (pg_name (i := 12) nd rfl (.inl rfl)) pgs_nil))))))
            (pss_cons (ps_if (PW.pt (pw_or (pt_not (pt_val (pe_callB call_isi (by rfl) mi PyProof.Rows.boot_isinstance (pa_cons (pv 8) (pa_cons (pe_bltn (by rfl) ms (u := .type "str") (by decide +kernel) (show RelV (.ty "str") (.type "str") from rfl)) pa_nil)))))
                (pw_or (pt_cmpR op_ne (pv 8) pe_str (nomark _))
                (pw_or1 (pt_not (pt_val (pe_callB call_isi (by rfl) mi PyProof.Rows.boot_isinstance (pa_cons (pv 9) (pa_cons (pe_bltn (by rfl) ms (u := .type "str") (by decide +kernel) (show RelV (.ty "str") (.type "str") from rfl)) pa_nil))))))))) (pss_one ps_dead) pss_nil)
            (pss_cons (ps_if (PW.pt (pw_or (pt_not (pt_val (pe_callB call_isi (by rfl) mi PyProof.Rows.boot_isinstance (pa_cons (pv 11) (pa_cons (pe_bltn (by rfl) mn (u := .type "int") (by decide +kernel) (show RelV (.ty "int") (.type "int") from rfl)) pa_nil)))))
                (pw_or (pt_not (pt_chain op_le op_lt pe_int (pv 11) (pe_dget hu (pv 2) (pv 9) (fun _ _ => rfl))))
                (pw_or (pt_cmpR op_isIB (pv 11) pe_bl (nomark _)) (pw_or1 (pt_cmpR op_isIB (pv 11) pe_bl (nomark _))))))) (pss_one ps_dead) pss_nil)
            (pss_one (ps_if (PW.pt (pw_or (pt_not (pt_val (pe_callB call_isi (by rfl) mi PyProof.Rows.boot_isinstance (pa_cons (pv 12) (pa_cons (pe_bltn (by rfl) mn (u := .type "int") (by decide +kernel) (show RelV (.ty "int") (.type "int") from rfl)) pa_nil)))))
                (pw_or (pt_not (pt_chain op_le op_le pe_int (pv 12) (pv 1)))
                (pw_or (pt_cmpR op_isIB (pv 12) pe_bl (nomark _)) (pw_or1 (pt_cmpR op_isIB (pv 12) pe_bl (nomark _))))))) (pss_one ps_dead) pss_nil)))))
            (pss_one (ps_if (PW.pt (pw_or (pt_cmpR op_ne (pv 7) pe_int (nomark _))
                (pw_or (pt_not (pt_val (pe_callB call_isi (by rfl) mi PyProof.Rows.boot_isinstance (pa_cons (pe_ix ix_tup (pv 6) pe_int (fun _ _ => rfl)) (pa_cons (pe_bltn (by rfl) ms (u := .type "str") (by decide +kernel) (show RelV (.ty "str") (.type "str") from rfl)) pa_nil)))))
                (pw_or1 (pt_cmpR op_notIn_seq (pe_ix ix_tup (pv 6) pe_int (fun _ _ => rfl)) (pe_tup (pa_cons pe_str (pa_cons pe_str pa_nil))) rfl))))) (pss_one ps_dead) pss_nil)))))))))))
    (pss_one (ps_ret pe_bl)), ?_⟩
  obtain ⟨a, xs, rfl, hs, hall⟩ := dp_tup hv
  have hxl : xs.length = rs.length := by rw [dpAll_len hall, List.length_map]
  refine ⟨_, rfl, a, rfl, ⟨_, hs⟩, for_tup (xs := xs)
    (fun i σ H3 => ∃ y6 y7 y8 y9 y10 y11 y12, σ = [some (.ref a), some (.int e), some (.ref sz), some (.ref tx), some (.ref hd), some (.str nm), y6, y7, y8, y9, y10, y11, y12] ∧ Same H H3)
    ⟨none, none, none, none, none, none, none, rfl, Same.refl _⟩ (fun i σ H3 _ hP => ?_) (fun i x σ H3 hx hP => ?_) (fun σ H3 hP => ?_)⟩
  · obtain ⟨_, _, _, _, _, _, _, _, sm⟩ := hP
    exact same_tup sm hs
  · obtain ⟨y6, y7, y8, y9, y10, y11, y12, rfl, sm⟩ := hP
    obtain ⟨d, hd1, hxd0⟩ := dpAll_get hall hx
    rw [List.getElem?_map] at hd1
    obtain ⟨r, hr1, rfl⟩ := Option.map_eq_some_iff.mp hd1
    have okr := hok r (List.mem_of_getElem? hr1)
    have hxd := dp_same sm _ _ hxd0
    have hz3 := hz.same sm
    have ht3 := ht.same sm
    have hh3 := hh.same sm
    clear hxd0 hd1 hz ht hh
    cases r with
    | set b sr =>
      obtain ⟨n, h1, h2⟩ := okr
      obtain ⟨c, v1, v2, v3, rfl, hc, g1, g2, g3⟩ := dp3 hxd
      cases dp_str g1
      cases dp_str g2
      refine ⟨_, rfl, _, _, _, _, _, rfl, .ty "tuple", dp_ty hxd, kit_tup K hxd, _, rfl, iteF ⟨_, rfl, c, _, rfl, .inr hc, ?_⟩⟩
      refine ⟨_, rfl, rfl, _, rfl, iteT ⟨_, rfl, c, _, rfl, hc, rfl, _, _, rfl, _, _, rfl, _, _, rfl, rfl, ?_⟩⟩
      refine ⟨_, rfl, _, _, _, _, _, rfl, .ty "str", dp_ty (.str "set"), kit_str K (H := H) (.str "set"), _, rfl, iteF ?_⟩
      refine ⟨_, rfl, _, _, _, _, _, rfl, .ty "str", dp_ty (.str b), kit_str K (H := H) (.str b), _, rfl, iteF ?_⟩
      refine ⟨_, rfl, rfl, _, rfl, iteT ?_⟩
      obtain ⟨ds, eds⟩ := src_tup (s := sr)
      have g3' := g3
      rw [eds] at g3'
      refine ⟨_, rfl, _, _, _, _, _, rfl, .ty "tuple", dp_ty g3', kit_tup K g3', _, rfl, iteF ?_⟩
      refine ⟨_, rfl, _, rfl, _, rfl, sz, _, rfl, hz3.get h1, _, rfl, _, rfl, v3, bs, b, n, sr, sz, rfl, g3, hz3, h2, _, rfl, iteF ?_⟩
      exact ⟨_, _, _, _, _, _, _, rfl, sm⟩
    | wait b v =>
      obtain ⟨n, h1, h2, h3⟩ := okr
      obtain ⟨c, v1, v2, v3, rfl, hc, g1, g2, g3⟩ := dp3 hxd
      cases dp_str g1
      cases dp_str g2
      cases dp_int g3
      refine ⟨_, rfl, _, _, _, _, _, rfl, .ty "tuple", dp_ty hxd, kit_tup K hxd, _, rfl, iteF ⟨_, rfl, c, _, rfl, .inr hc, ?_⟩⟩
      refine ⟨_, rfl, rfl, _, rfl, iteT ⟨_, rfl, c, _, rfl, hc, rfl, _, _, rfl, _, _, rfl, _, _, rfl, rfl, ?_⟩⟩
      refine ⟨_, rfl, _, _, _, _, _, rfl, .ty "str", dp_ty (.str "wait"), kit_str K (H := H) (.str "wait"), _, rfl, iteF ?_⟩
      refine ⟨_, rfl, _, _, _, _, _, rfl, .ty "str", dp_ty (.str b), kit_str K (H := H) (.str b), _, rfl, iteF ?_⟩
      refine ⟨_, rfl, rfl, _, rfl, iteF ⟨_, rfl, rfl, _, rfl, iteNS rfl ?_⟩⟩
      refine ⟨_, rfl, _, _, _, _, _, rfl, .ty "int", dp_ty (.int v), kit_int K (H := H) (.int v), _, rfl, iteF ?_⟩
      refine ⟨_, rfl, _, _, rfl, rfl, _, rfl, ?_⟩
      rw [decide_eq_true h2]
      refine iteT ⟨_, rfl, _, rfl, sz, _, rfl, hz3.get h1, _, _, rfl, rfl, _, rfl, ?_⟩
      rw [decide_eq_true h3]
      refine iteF ⟨_, rfl, _, _, rfl, rfl, _, rfl, iteF ⟨_, rfl, _, _, rfl, rfl, _, rfl, iteF ?_⟩⟩
      exact ⟨_, _, _, _, _, _, _, rfl, sm⟩
    | go ws =>
      obtain ⟨h1, h2, h3, h4⟩ := okr
      obtain ⟨c, v1, v2, rfl, hc, g1, g2⟩ := dp2 hxd
      cases dp_str g1
      refine ⟨_, rfl, _, _, _, _, _, rfl, .ty "tuple", dp_ty hxd, kit_tup K hxd, _, rfl, iteF ⟨_, rfl, c, _, rfl, .inr hc, ?_⟩⟩
      refine ⟨_, rfl, rfl, _, rfl, iteF ⟨_, rfl, rfl, _, rfl, iteT ⟨_, rfl, c, _, rfl, hc, rfl, _, _, rfl, _, _, rfl, rfl, ?_⟩⟩⟩
      refine ⟨_, rfl, _, _, _, _, _, rfl, .ty "str", dp_ty (.str "go"), kit_str K (H := H) (.str "go"), _, rfl, iteF ?_⟩
      refine ⟨_, rfl, rfl, _, rfl, iteT ⟨_, rfl, _, rfl, v2, ws, e, rfl, g2, h1, h2, h3, h4, _, rfl, iteF ?_⟩⟩
      exact ⟨_, _, _, _, _, _, _, rfl, sm⟩
    | call t =>
      have okr' : t ∈ titles := okr
      obtain ⟨c, v1, v2, rfl, hc, g1, g2⟩ := dp2 hxd
      cases dp_str g1
      cases dp_str g2
      obtain ⟨kt, rt, st⟩ := ht3
      refine ⟨_, rfl, _, _, _, _, _, rfl, .ty "tuple", dp_ty hxd, kit_tup K hxd, _, rfl, iteF ⟨_, rfl, c, _, rfl, .inr hc, ?_⟩⟩
      refine ⟨_, rfl, rfl, _, rfl, iteF ⟨_, rfl, rfl, _, rfl, iteT ⟨_, rfl, c, _, rfl, hc, rfl, _, _, rfl, _, _, rfl, rfl, ?_⟩⟩⟩
      refine ⟨_, rfl, _, _, _, _, _, rfl, .ty "str", dp_ty (.str "call"), kit_str K (H := H) (.str "call"), _, rfl, iteF ?_⟩
      refine ⟨_, rfl, rfl, _, rfl, iteF ?_⟩
      refine ⟨_, rfl, _, _, _, _, _, rfl, .ty "str", dp_ty (.str t), kit_str K (H := H) (.str t), _, rfl, iteF ?_⟩
      refine ⟨_, rfl, _, rfl, rfl, _, rfl, iteT ⟨_, rfl, tx, _, rfl, .inl ⟨kt, Sum.inr t, rt, rfl, rfl⟩, _, rfl, ?_⟩⟩
      rw [st t okr']
      exact iteF ⟨_, _, _, _, _, _, _, rfl, sm⟩
    | begin h =>
      have okr' : h ∈ others := okr
      have ne : h ≠ nm := fun z => hnm (z ▸ okr')
      obtain ⟨c, v1, v2, rfl, hc, g1, g2⟩ := dp2 hxd
      cases dp_str g1
      cases dp_str g2
      obtain ⟨kt, rt, st⟩ := hh3
      refine ⟨_, rfl, _, _, _, _, _, rfl, .ty "tuple", dp_ty hxd, kit_tup K hxd, _, rfl, iteF ⟨_, rfl, c, _, rfl, .inr hc, ?_⟩⟩
      refine ⟨_, rfl, rfl, _, rfl, iteF ⟨_, rfl, rfl, _, rfl, iteT ⟨_, rfl, c, _, rfl, hc, rfl, _, _, rfl, _, _, rfl, rfl, ?_⟩⟩⟩
      refine ⟨_, rfl, _, _, _, _, _, rfl, .ty "str", dp_ty (.str "begin"), kit_str K (H := H) (.str "begin"), _, rfl, iteF ?_⟩
      refine ⟨_, rfl, rfl, _, rfl, iteF ?_⟩
      refine ⟨_, rfl, _, _, _, _, _, rfl, .ty "str", dp_ty (.str h), kit_str K (H := H) (.str h), _, rfl, iteF ?_⟩
      refine ⟨_, rfl, _, rfl, rfl, _, rfl, iteF ⟨_, rfl, rfl, _, rfl, iteT ⟨_, rfl, _, rfl, rfl, _, rfl, ?_⟩⟩⟩
      rw [decide_eq_false (show ¬ V.str h = V.str nm from fun z => ne (V.str.inj z))]
      refine iteT ⟨_, rfl, hd, _, rfl, .inl ⟨kt, Sum.inr h, rt, rfl, rfl⟩, _, rfl, ?_⟩
      rw [st h okr']
      exact iteF ⟨_, _, _, _, _, _, _, rfl, sm⟩
    | ift b v r =>
      obtain ⟨n, h1, h2, h3, h4, h5⟩ := okr
      obtain ⟨c, v1, v2, v3, v4, rfl, hc, g1, g2, g3, g4⟩ := dp4 hxd
      cases dp_str g1
      cases dp_str g2
      cases dp_int g3
      cases dp_int g4
      refine ⟨_, rfl, _, _, _, _, _, rfl, .ty "tuple", dp_ty hxd, kit_tup K hxd, _, rfl, iteF ⟨_, rfl, c, _, rfl, .inr hc, ?_⟩⟩
      refine ⟨_, rfl, rfl, _, rfl, iteF ⟨_, rfl, rfl, _, rfl, iteF ⟨_, rfl, rfl, _, rfl, iteT ⟨_, rfl, c, _, rfl, hc, rfl, _, _, rfl, _, _, rfl, _, _, rfl, _, _, rfl, rfl, ?_⟩⟩⟩⟩
      refine ⟨_, rfl, _, _, _, _, _, rfl, .ty "str", dp_ty (.str "if"), kit_str K (H := H) (.str "if"), _, rfl, iteF ?_⟩
      refine ⟨_, rfl, rfl, _, rfl, iteNS rfl ?_⟩
      refine ⟨_, rfl, _, _, _, _, _, rfl, .ty "str", dp_ty (.str b), kit_str K (H := H) (.str b), _, rfl, iteF ?_⟩
      refine ⟨_, rfl, _, _, _, _, _, rfl, .ty "int", dp_ty (.int v), kit_int K (H := H) (.int v), _, rfl, iteF ?_⟩
      refine ⟨_, rfl, _, _, rfl, rfl, _, rfl, ?_⟩
      rw [decide_eq_true h2]
      refine iteT ⟨_, rfl, _, rfl, sz, _, rfl, hz3.get h1, _, _, rfl, rfl, _, rfl, ?_⟩
      rw [decide_eq_true h3]
      refine iteF ⟨_, rfl, _, _, rfl, rfl, _, rfl, iteF ⟨_, rfl, _, _, rfl, rfl, _, rfl, iteF ?_⟩⟩
      refine ⟨_, rfl, _, _, _, _, _, rfl, .ty "int", dp_ty (.int r), kit_int K (H := H) (.int r), _, rfl, iteF ?_⟩
      refine ⟨_, rfl, _, _, rfl, rfl, _, rfl, ?_⟩
      rw [decide_eq_true h4]
      refine iteT ⟨_, rfl, _, _, rfl, rfl, _, rfl, ?_⟩
      rw [decide_eq_true h5]
      refine iteF ⟨_, rfl, _, _, rfl, rfl, _, rfl, iteF ⟨_, rfl, _, _, rfl, rfl, _, rfl, iteF ?_⟩⟩
      exact ⟨_, _, _, _, _, _, _, rfl, sm⟩
    | back =>
      obtain ⟨c, v1, rfl, hc, g1⟩ := dp1 hxd
      cases dp_str g1
      refine ⟨_, rfl, _, _, _, _, _, rfl, .ty "tuple", dp_ty hxd, kit_tup K hxd, _, rfl, iteF ⟨_, rfl, c, _, rfl, .inr hc, ?_⟩⟩
      refine ⟨_, rfl, rfl, _, rfl, iteF ⟨_, rfl, rfl, _, rfl, iteF ⟨_, rfl, rfl, _, rfl, iteF ⟨_, rfl, rfl, _, rfl, iteNS rfl ?_⟩⟩⟩⟩
      refine ⟨_, rfl, c, _, 0, _, rfl, rfl, hc, atI_nat (j := 0) rfl, _, _, _, _, _, rfl, .ty "str", dp_ty (.str "back"), kit_str K (H := H) (.str "back"), _, rfl, iteF ?_⟩
      refine ⟨_, rfl, c, _, 0, _, rfl, rfl, hc, atI_nat (j := 0) rfl, by show 2 ≤ sizeLine; decide, fun p np => ?_⟩
      refine ⟨p, _, rfl, .inr (SqT.of upd_same), rfl, rfl, false, rfl, iteF ?_⟩
      exact ⟨_, _, _, _, _, _, _, rfl, sm.trans (same_new np)⟩
    | fault =>
      obtain ⟨c, v1, rfl, hc, g1⟩ := dp1 hxd
      cases dp_str g1
      refine ⟨_, rfl, _, _, _, _, _, rfl, .ty "tuple", dp_ty hxd, kit_tup K hxd, _, rfl, iteF ⟨_, rfl, c, _, rfl, .inr hc, ?_⟩⟩
      refine ⟨_, rfl, rfl, _, rfl, iteF ⟨_, rfl, rfl, _, rfl, iteF ⟨_, rfl, rfl, _, rfl, iteF ⟨_, rfl, rfl, _, rfl, iteNS rfl ?_⟩⟩⟩⟩
      refine ⟨_, rfl, c, _, 0, _, rfl, rfl, hc, atI_nat (j := 0) rfl, _, _, _, _, _, rfl, .ty "str", dp_ty (.str "fault"), kit_str K (H := H) (.str "fault"), _, rfl, iteF ?_⟩
      refine ⟨_, rfl, c, _, 0, _, rfl, rfl, hc, atI_nat (j := 0) rfl, by show 2 ≤ sizeLine; decide, fun p np => ?_⟩
      refine ⟨p, _, rfl, .inr (SqT.of upd_same), rfl, rfl, false, rfl, iteF ?_⟩
      exact ⟨_, _, _, _, _, _, _, rfl, sm.trans (same_new np)⟩
  · obtain ⟨_, _, _, _, _, _, _, rfl, sm⟩ := hP
    exact q H3 sm
end
end PP

set_option maxHeartbeats 4000000
namespace PP
open PySem PySem.Spec PyProof.Rows L2 G3 M0 PA
abbrev nScopes : List Str := ["common", "hands", "scopes", "hand", "name", "own", "thing", "sizes", "texts", "text", "title", "rows"]
theorem scScopes : FnScope nScopes ["common", "hands"] (defScope s_scopes_of) := ⟨rfl, rfl, rfl, by decide +kernel, rfl, by decide +kernel, by decide +kernel⟩
def txtK (x : Text × V) : Key × V := (Sum.inr x.1.1, x.2)
/-- what stands for a hand -/
def HandAt (K : PySem.W.Frag) (H0 H : Hp) (sc : Addr) (bs : List Box) (h : Hand) (e : Key × V) : Prop := ∃ (t z x : Addr) (vs : List V), e = (Sum.inr h.1, .ref t) ∧ H t = some (.tup [.ref z, .ref x]) ∧ H z = some (.dK ((bs ++ h.2.1).map boxK)) ∧ H x = some (.dK ((h.2.2.zip vs).map txtK)) ∧ z ≠ sc ∧ x ≠ sc ∧ H0 x = none ∧
  DpAll K H0 vs (h.2.2.map fun t => rowsD t.2)
def ScopesAt (K : PySem.W.Frag) (H0 H : Hp) (sc : Addr) (bs : List Box) (hs : List Hand) : Prop := ∃ kvs, H sc = some (.dK kvs) ∧ kvs.length = hs.length ∧ ∀ (i : Nat) (h : Hand) (e : Key × V), hs[i]? = some h → kvs[i]? = some e → HandAt K H0 H sc bs h e
theorem HandAt.keep {K : PySem.W.Frag} {H0 H H' : Hp} {sc : Addr} {bs : List Box} {h : Hand} {e : Key × V} (a : HandAt K H0 H sc bs h e) (s : ∀ b o, b ≠ sc → H b = some o → H' b = some o) (ns : ∀ xs, H sc ≠ some (.tup xs)) : HandAt K H0 H' sc bs h e := by
  obtain ⟨t, z, x, vs, e1, h1, h2, h3, n1, n2, nx, d⟩ := a
  exact ⟨t, z, x, vs, e1, s _ _ (fun q => ns _ (q ▸ h1)) h1, s _ _ n1 h2, s _ _ n2 h3, n1, n2, nx, d⟩
theorem val_names {kvs : List (Key × V)} {hs : List Hand} {nm : Str} (hl : kvs.length ≤ hs.length) (hk : ∀ (i : Nat) (h : Hand) (e : Key × V), hs[i]? = some h → kvs[i]? = some e → e.1 = Sum.inr h.1) (hn : ∀ h ∈ hs.take kvs.length, h.1 ≠ nm) : valV kvs (Sum.inr nm) = none := by
  unfold valV
  rw [Option.map_eq_none_iff, List.find?_eq_none]
  intro e he z
  obtain ⟨i, hi, rfl⟩ := List.getElem_of_mem he
  have hh : i < hs.length := by omega
  have e1 := hk i hs[i] kvs[i] (List.getElem?_eq_getElem hh) (List.getElem?_eq_getElem hi)
  have e2 := of_decide_eq_true z
  rw [e1] at e2
  refine hn hs[i] ?_ (Sum.inr.inj e2)
  exact List.mem_take_iff_getElem.mpr ⟨i, by omega, rfl⟩
theorem val_txts {ts : List Text} {vs : List V} {j : Nat} {z : Str} (hn : ∀ t ∈ ts.take j, t.1 ≠ z) : valV (((ts.zip vs).take j).map txtK) (Sum.inr z) = none := by
  unfold valV
  rw [Option.map_eq_none_iff, List.find?_eq_none]
  intro e he q
  obtain ⟨x, hx, rfl⟩ := List.mem_map.mp he
  obtain ⟨i, hi, ei⟩ := List.mem_take_iff_getElem.mp hx
  have hz : i < (ts.zip vs).length := by omega
  have ht : i < ts.length := by
    rw [List.length_zip] at hz
    omega
  have e2 : x.1 = ts[i] := by
    rw [← ei, List.getElem_zip]
  refine hn x.1 ?_ (Sum.inr.inj (of_decide_eq_true q))
  rw [e2]
  exact List.mem_take_iff_getElem.mpr ⟨i, by omega, rfl⟩
/-- the rows of each text -/
theorem txts_of {K : PySem.W.Frag} {H : Hp} : ∀ {tl : List Text} {ws : List V}, DpAll K H ws (tl.map textD) → ∃ us : List V, us.length = tl.length ∧ (∀ (j : Nat) (t : Text) (y : V), tl[j]? = some t → ws[j]? = some y → ∃ (ca : Addr) (r : V), us[j]? = some r ∧ y = .ref ca ∧ SqT K H ca [.str t.1, r] ∧ Dp K H r (rowsD t.2)) ∧ DpAll K H us (tl.map fun t => rowsD t.2)
  | [], _, h => by
    cases h
    exact ⟨[], rfl, fun j t y e => by simp at e, .nil⟩
  | t :: tl, _, h => by
    cases h with
    | cons k1 k2 =>
      obtain ⟨ca, r1, r2, rfl, kc, m1, m2⟩ := dp2 k1
      cases dp_str m1
      obtain ⟨us, e1, e2, e3⟩ := txts_of k2
      refine ⟨r2 :: us, by rw [List.length_cons, List.length_cons, e1], fun j t' y a b => ?_, .cons m2 e3⟩
      cases j with
      | zero =>
        simp at a b
        subst a b
        exact ⟨ca, r2, rfl, rfl, kc, m2⟩
      | succ j =>
        simp at a b
        obtain ⟨ca', r', q1, q2⟩ := e2 j t' y a b
        exact ⟨ca', r', by simpa using q1, q2⟩
structure HandsOk (bs : List Box) (hs : List Hand) : Prop where
  few : hs.length ≤ 4
  nm : ∀ h ∈ hs, nameB h.1 = true
  nd : (hs.map (·.1)).Nodup
  own : ∀ h ∈ hs, BoxesOk h.2.1 24 8 (bs.map (·.1))
  txt : ∀ h ∈ hs, 1 ≤ h.2.2.length ∧ h.2.2.length ≤ 32 ∧ (∀ t ∈ h.2.2, nameB t.1 = true ∧ 1 ≤ t.2.length ∧ t.2.length ≤ 2000) ∧ (h.2.2.map (·.1)).Nodup
theorem val_bs {bs : List Box} {z : Str} (h : z ∉ bs.map (·.1)) : valV (bs.map boxK) (Sum.inr z) = none := by
  have := val_boxes [] bs z rfl fun b hb e => h (e ▸ List.mem_map_of_mem hb)
  rw [List.nil_append] at this
  exact this
section
variable {P : Program} {w : World} {K : PySem.W.Frag} {mg : Str → Option Value} {base : Heap}
def spScopes (K : PySem.W.Frag) : Sp := fun vs H Q _ => ∃ (cA : Addr) (v : V) (bs : List Box) (hs : List Hand), vs = [.ref cA, v] ∧ H cA = some (.dK (bs.map boxK)) ∧ bs.length ≤ 8 ∧ Dp K H v (.tuple (hs.map handD)) ∧ HandsOk bs hs ∧
  ∀ H' sc, Same H H' → H sc = none → ScopesAt K H H' sc bs hs → Q (.ref sc) H'
set_option maxHeartbeats 8000000 in
theorem ok_scopes {f : Addr} {fd : FuncData} {k : Nat} {t8 t24 t9 t32 t2k : Tok} (F : Fun K "scopes_of" "scopes_of" s_scopes_of f fd) (DB : Def P w K mg base CX0 (k + 1) "are_boxes" ["thing", "most", "greatest", "sizes"] (spBoxes K))
    (mi : mg "isinstance" = none) (mt : mg "tuple" = none) (ms : mg "str" = none) (ml : mg "len" = none) (m8 : mg "LONGEST_NAME" = some (.int 8 t8)) (m24 : mg "MOST_OWN" = some (.int 24 t24)) (m9 : mg "GREATEST_OWN" = some (.int 8 t9)) (m32 : mg "MOST_TEXTS" = some (.int 32 t32)) (m2k : mg "MOST_ROWS" = some (.int 2000 t2k)) :
    FnOk P w K mg base CX0 (k + 1 + 1) f fd ["common", "hands"] (spScopes K) := by
  refine F.ok scScopes (fun vs H Q E h => ?_) (fun cdv A outer s H vs Q E hr h => ?_)
  · obtain ⟨cA, v, bs, hs, rfl, _⟩ := h
    rfl
  obtain ⟨cA, v, bs, hs, rfl, hcA, hb8, hv, ok, q⟩ := h
  have nd := scScopes.nd
  have hu := hu_of hr
  refine ⟨_, pss_cons (ps_set (i := 2) nd rfl (.inl rfl) pe_dnewK)
    (pss_cons (ps_for PassesOwn.never rfl (pi_tup (pv 1)) (pg_name (i := 3) nd rfl (.inl rfl))
      (pss_cons (ps_if (PW.pt (pw_or (pt_not (pt_val (pe_callB call_isi (by rfl) mi PyProof.Rows.boot_isinstance (pa_cons (pv 3) (pa_cons (pe_bltn (by rfl) mt (u := .type "tuple") (by decide +kernel) (show RelV (.ty "tuple") (.type "tuple") from rfl)) pa_nil)))))
          (pw_or1 (pt_cmpR op_ne (pe_callB call_len_seq (by rfl) ml PySem.boot_len (pa_cons (pv 3) pa_nil)) pe_int (nomark _))))) (pss_one ps_dead) pss_nil)
      (pss_cons (ps_asg (pv 3) (pg_tup rfl (pgs_cons (pg_name (i := 4) nd rfl (.inl rfl)) (pgs_cons (pg_name (i := 5) nd rfl (.inl rfl)) (pgs_cons (pg_name (i := 6) nd rfl (.inl rfl)) pgs_nil)))))
      (pss_cons (ps_if (PW.pt (pw_or (pt_not (pt_val (pe_callB call_isi (by rfl) mi PyProof.Rows.boot_isinstance (pa_cons (pv 4) (pa_cons (pe_bltn (by rfl) ms (u := .type "str") (by decide +kernel) (show RelV (.ty "str") (.type "str") from rfl)) pa_nil)))))
          (pw_or (pt_cmp (pc_din hu (pv 4) (pv 2)))
          (pw_or (pt_cmpR op_gt (pe_callB call_len_str (by rfl) ml PySem.boot_len (pa_cons (pv 4) pa_nil)) (pe_glob (v := .int 8) (by rfl) m8 ⟨_, rfl⟩) (nomark _))
          (pw_or1 (pt_not (pt_val (pe_callB call_isi (by rfl) mi PyProof.Rows.boot_isinstance (pa_cons (pv 6) (pa_cons (pe_bltn (by rfl) mt (u := .type "tuple") (by decide +kernel) (show RelV (.ty "tuple") (.type "tuple") from rfl)) pa_nil)))))))))) (pss_one ps_dead) pss_nil)
      (pss_cons (ps_if (PW.pt (pw_or (pt_not (pt_val (pe_m0 PySem.F.slot_str_isascii PySem.F.type_str_isascii mt_isascii (pv 4))))
          (pw_or (pt_not (pt_val (pe_m0 PySem.F.slot_str_isalpha PySem.F.type_str_isalpha mt_isalpha (pv 4))))
          (pw_or (pt_not (pt_val (pe_m0 PySem.F.slot_str_islower PySem.F.type_str_islower mt_islower (pv 4))))
          (pw_or1 (pt_not (pt_chain op_le op_le pe_int (pe_callB call_len_seq (by rfl) ml PySem.boot_len (pa_cons (pv 6) pa_nil)) (pe_glob (v := .int 32) (by rfl) m32 ⟨_, rfl⟩)))))))) (pss_one ps_dead) pss_nil)
      (pss_cons (ps_set (i := 7) nd rfl (.inl rfl) (pe_bm0 PySem.F.plainAttrs_dict PySem.F.slot_dict_copy PySem.F.type_dict_copy mt_copy (pv 0)))
      (pss_cons (ps_if (pt_not (pt_val (pe_call DB.ok hr (by rfl) DB.g DB.kp DB.b .nil pass0 (pa_cons (pv 5) (pa_cons (pe_glob (v := .int 24) (by rfl) m24 ⟨_, rfl⟩) (pa_cons (pe_glob (v := .int 8) (by rfl) m9 ⟨_, rfl⟩) (pa_cons (pv 7) pa_nil))))))) (pss_one ps_dead) pss_nil)
      (pss_cons (ps_set (i := 8) nd rfl (.inl rfl) pe_dnewK)
      (pss_cons (ps_for PassesOwn.never rfl (pi_tup (pv 6)) (pg_name (i := 9) nd rfl (.inl rfl))
        (pss_cons (ps_if (PW.pt (pw_or (pt_not (pt_val (pe_callB call_isi (by rfl) mi PyProof.Rows.boot_isinstance (pa_cons (pv 9) (pa_cons (pe_bltn (by rfl) mt (u := .type "tuple") (by decide +kernel) (show RelV (.ty "tuple") (.type "tuple") from rfl)) pa_nil)))))
            (pw_or1 (pt_cmpR op_ne (pe_callB call_len_seq (by rfl) ml PySem.boot_len (pa_cons (pv 9) pa_nil)) pe_int (nomark _))))) (pss_one ps_dead) pss_nil)
        (pss_cons (ps_asg (pv 9) (pg_tup rfl (pgs_cons (pg_name (i := 10) nd rfl (.inl rfl)) (pgs_cons (pg_name (i := 11) nd rfl (.inl rfl)) pgs_nil))))
        (pss_cons (ps_if (PW.pt (pw_or (pt_not (pt_val (pe_callB call_isi (by rfl) mi PyProof.Rows.boot_isinstance (pa_cons (pv 10) (pa_cons (pe_bltn (by rfl) ms (u := .type "str") (by decide +kernel) (show RelV (.ty "str") (.type "str") from rfl)) pa_nil)))))
            (pw_or (pt_cmp (pc_din hu (pv 10) (pv 8)))
            (pw_or1 (pt_cmpR op_gt (pe_callB call_len_str (by rfl) ml PySem.boot_len (pa_cons (pv 10) pa_nil)) (pe_glob (v := .int 8) (by rfl) m8 ⟨_, rfl⟩) (nomark _)))))) (pss_one ps_dead) pss_nil)
        (pss_cons (ps_if (PW.pt (pw_or (pt_not (pt_val (pe_m0 PySem.F.slot_str_isascii PySem.F.type_str_isascii mt_isascii (pv 10))))
            (pw_or (pt_not (pt_val (pe_m0 PySem.F.slot_str_isalpha PySem.F.type_str_isalpha mt_isalpha (pv 10))))
            (pw_or1 (pt_not (pt_val (pe_m0 PySem.F.slot_str_islower PySem.F.type_str_islower mt_islower (pv 10)))))))) (pss_one ps_dead) pss_nil)
        (pss_cons (ps_if (PW.pt (pw_or (pt_not (pt_val (pe_callB call_isi (by rfl) mi PyProof.Rows.boot_isinstance (pa_cons (pv 11) (pa_cons (pe_bltn (by rfl) mt (u := .type "tuple") (by decide +kernel) (show RelV (.ty "tuple") (.type "tuple") from rfl)) pa_nil)))))
            (pw_or1 (pt_not (pt_chain op_le op_le pe_int (pe_callB call_len_seq (by rfl) ml PySem.boot_len (pa_cons (pv 11) pa_nil)) (pe_glob (v := .int 2000) (by rfl) m2k ⟨_, rfl⟩)))))) (pss_one ps_dead) pss_nil)
        (pss_one (ps_dput hu (pv 8) (pv 10) (pv 11) rfl))))))))
      (pss_one (ps_dput hu (pv 2) (pv 4) (pe_tup (pa_cons (pv 7) (pa_cons (pv 8) pa_nil))) rfl)))))))))))
    (pss_one (ps_ret (pv 2)))), ?_⟩
  obtain ⟨a, xs, rfl, hs1, hall⟩ := dp_tup hv
  have hxl : xs.length = hs.length := by rw [dpAll_len hall, List.length_map]
  intro sc nsc
  have s1 : Same H (upd H sc (.dK [])) := same_new nsc
  refine ⟨_, rfl, a, rfl, ⟨_, same_tup s1 hs1⟩, for_tup (xs := xs)
    (fun i σ H3 => ∃ y3 y4 y5 y6 y7 y8 y9 y10 y11 kvs, σ = [some (.ref cA), some (.ref a), some (.ref sc), y3, y4, y5, y6, y7, y8, y9, y10, y11] ∧ Same H H3 ∧ H3 sc = some (.dK kvs) ∧ kvs.length = i ∧ ∀ (j : Nat) (h : Hand) (e : Key × V), hs[j]? = some h → kvs[j]? = some e → HandAt K H H3 sc bs h e)
    ⟨none, none, none, none, none, none, none, none, none, [], rfl, s1, upd_same, rfl, fun j h e _ z => by simp at z⟩ (fun i σ H3 _ hP => ?_) (fun i x σ H3 hx hP => ?_) (fun σ H3 hP => ?_)⟩
  · obtain ⟨_, _, _, _, _, _, _, _, _, _, _, sm, _⟩ := hP
    exact same_tup sm hs1
  · obtain ⟨y3, y4, y5, y6, y7, y8, y9, y10, y11, kvs, rfl, sm, hsc, hkl, hat⟩ := hP
    obtain ⟨d, hd1, hxd0⟩ := dpAll_get hall hx
    rw [List.getElem?_map] at hd1
    obtain ⟨h, hh1, rfl⟩ := Option.map_eq_some_iff.mp hd1
    have mh := List.mem_of_getElem? hh1
    have hi : i < hs.length := (List.getElem?_eq_some_iff.mp hh1).1
    have hfew := ok.few
    obtain ⟨p1, p2, p3, p4⟩ := name_parts (ok.nm h mh)
    obtain ⟨t1, t32, tnm, tnd⟩ := ok.txt h mh
    have own := ok.own h mh
    have hxd := dp_same sm _ _ hxd0
    obtain ⟨c, v1, v2, v3, rfl, hc0, g1, g20, g30⟩ := dp3 hxd0
    cases dp_str g1
    obtain ⟨ta, ws, rfl, hta0, hws⟩ := dp_tup g30
    have hc := same_tup sm hc0
    have g2 := dp_same sm _ _ g20
    have g3 := dp_same sm _ _ g30
    have hta := same_tup sm hta0
    have hwl : ws.length = h.2.2.length := by rw [dpAll_len hws, List.length_map]
    have hno : valV kvs (Sum.inr h.1) = none := val_names (hs := hs) (by omega) (fun j h' e a b => by
      obtain ⟨t, z, x, vs, e1, _⟩ := hat j h' e a b
      rw [e1]) (by rw [hkl]; exact take_fresh (·.1) ok.nd hh1)
    refine ⟨_, rfl, _, _, _, _, _, rfl, .ty "tuple", dp_ty hxd, kit_tup K hxd, _, rfl, iteF ⟨_, rfl, c, _, rfl, .inr hc, rfl, _, rfl, iteNS rfl ?_⟩⟩
    refine ⟨_, rfl, c, _, rfl, hc, rfl, _, _, rfl, _, _, rfl, _, _, rfl, rfl, ?_⟩
    refine ⟨_, rfl, _, _, _, _, _, rfl, .ty "str", dp_ty (.str h.1), kit_str K (H := H) (.str h.1), _, rfl, iteF ⟨_, rfl, _, rfl, sc, _, rfl, DGet.k (k := Sum.inr h.1) hsc, _, rfl, ?_⟩⟩
    rw [hno]
    refine iteF ⟨_, rfl, h.1, rfl, small_le (by omega), _, _, rfl, rfl, _, rfl, ?_⟩
    rw [decide_eq_false (show ¬ (8 : Int) < (h.1.length : Int) by omega)]
    refine iteF ⟨_, rfl, _, _, _, _, _, rfl, .ty "tuple", dp_ty g3, kit_tup K g3, _, rfl, iteF ?_⟩
    refine ⟨_, rfl, ⟨_, rfl⟩, _, rfl, rfl, trivial, _, rfl, ?_⟩
    rw [p2]
    refine iteF ⟨_, rfl, ⟨_, rfl⟩, _, rfl, rfl, trivial, _, rfl, ?_⟩
    rw [p3]
    refine iteF ⟨_, rfl, ⟨_, rfl⟩, _, rfl, rfl, trivial, _, rfl, ?_⟩
    rw [p4]
    refine iteF ⟨_, rfl, ta, _, rfl, .inr hta, _, _, rfl, rfl, _, rfl, ?_⟩
    rw [decide_eq_true (show (1 : Int) ≤ (ws.length : Int) by omega)]
    refine iteT ⟨_, _, rfl, rfl, _, rfl, ?_⟩
    rw [decide_eq_true (show (ws.length : Int) ≤ 32 by omega)]
    -- the sizes
    have hcA3 := sm _ _ hcA
    refine iteF ⟨_, rfl, .inr (.inr (.inl ⟨rfl, .inl ⟨_, hcA3⟩⟩)), cA, _, rfl, rfl, hcA3, fun z nz => ?_⟩
    have s4 : Same H3 (upd H3 z (.dK (bs.map boxK))) := same_new nz
    have ezs : z ≠ sc := fun e => by
      rw [e, hsc] at nz
      cases nz
    have hz4 : (upd H3 z (.dK (bs.map boxK))) z = some (.dK (bs.map boxK)) := upd_same
    refine ⟨_, rfl, _, rfl, v2, h.2.1, 24, 8, z, _, rfl, dp_same s4 _ _ g2, hz4, ?_, own.len, fun b hb => ?_, own.nd, _, rfl, iteF ?_⟩
    · have := own.len
      rw [List.length_map]
      omega
    · obtain ⟨q1, q2, q3, q4⟩ := own.nm b hb
      exact ⟨q1, q2, q3, val_bs q4⟩
    have nzH : H z = none := same_none sm nz
    have e5 : upd (upd H3 z (.dK (bs.map boxK))) z (.dK (bs.map boxK ++ h.2.1.map boxK)) = upd H3 z (.dK ((bs ++ h.2.1).map boxK)) := by
      funext b
      by_cases e : b = z
      · rw [e, upd_same, upd_same, List.map_append]
      · rw [upd_ne e, upd_ne e, upd_ne e]
    rw [e5]
    have s5 : Same H3 (upd H3 z (.dK ((bs ++ h.2.1).map boxK))) := same_new nz
    have hz5 : (upd H3 z (.dK ((bs ++ h.2.1).map boxK))) z = some (.dK ((bs ++ h.2.1).map boxK)) := upd_same
    generalize upd H3 z (.dK ((bs ++ h.2.1).map boxK)) = H5 at s5 hz5 ⊢
    clear e5 s4 hz4
    -- the texts
    intro x nx
    have exs : x ≠ sc := fun e => by
      rw [e, s5 _ _ hsc] at nx
      cases nx
    have exz : x ≠ z := fun e => by
      rw [e, hz5] at nx
      cases nx
    have nxH : H x = none := same_none (sm.trans s5) nx
    have hta5 := same_tup s5 hta
    obtain ⟨us, hul, hut, hud⟩ := txts_of hws
    have s6 : Same H5 (upd H5 x (.dK [])) := same_new nx
    refine ⟨_, rfl, ta, rfl, ⟨_, same_tup s6 hta5⟩, for_tup (xs := ws)
      (fun j σ H6 => ∃ w9 w10 w11, σ = [some (.ref cA), some (.ref a), some (.ref sc), some (.ref c), some (.str h.1), some v2, some (.ref ta), some (.ref z), some (.ref x), w9, w10, w11] ∧ H6 = upd H5 x (.dK (((h.2.2.zip us).take j).map txtK)))
      ⟨y9, y10, y11, rfl, rfl⟩ (fun j σ H6 _ hQ => ?_) (fun j y σ H6 hy hQ => ?_) (fun σ H6 hQ => ?_)⟩
    · obtain ⟨_, _, _, _, rfl⟩ := hQ
      exact same_tup (same_new nx) hta5
    · obtain ⟨w9, w10, w11, rfl, rfl⟩ := hQ
      have hj : j < h.2.2.length := by
        have := (List.getElem?_eq_some_iff.mp hy).1
        omega
      obtain ⟨ca, r, hr1, rfl, hca00, hr00⟩ := hut j h.2.2[j] y (List.getElem?_eq_getElem hj) hy
      have hca0 := same_tup (sm.trans s5) hca00
      have hr0 := dp_same (sm.trans s5) _ _ hr00
      clear hca00 hr00
      have et : h.2.2[j]? = some h.2.2[j] := List.getElem?_eq_getElem hj
      generalize h.2.2[j] = t at et hca0 hr0
      have mt2 := List.mem_of_getElem? et
      obtain ⟨k1, k2, k3⟩ := tnm t mt2
      obtain ⟨n1, n2, n3, n4⟩ := name_parts k1
      have sx : Same H5 (upd H5 x (.dK (((h.2.2.zip us).take j).map txtK))) := same_new nx
      have hca := same_tup sx hca0
      have hrd := dp_same sx _ _ hr0
      have hx6 : (upd H5 x (.dK (((h.2.2.zip us).take j).map txtK))) x = some (.dK (((h.2.2.zip us).take j).map txtK)) := upd_same
      have hno2 : valV (((h.2.2.zip us).take j).map txtK) (Sum.inr t.1) = none := val_txts (take_fresh (·.1) tnd et)
      have htd : Dp K (upd H5 x (.dK (((h.2.2.zip us).take j).map txtK))) (.ref ca) (textD t) := .tup hca (.cons (.str _) (.cons hrd .nil))
      obtain ⟨ra, rws, rfl, hra, hrr⟩ := dp_tup hrd
      have hrl : rws.length = t.2.length := by rw [dpAll_len hrr, List.length_map]
      refine ⟨_, rfl, _, _, _, _, _, rfl, .ty "tuple", dp_ty htd, kit_tup K htd, _, rfl, iteF ⟨_, rfl, ca, _, rfl, .inr hca, rfl, _, rfl, iteNS rfl ?_⟩⟩
      refine ⟨_, rfl, ca, _, rfl, hca, rfl, _, _, rfl, _, _, rfl, rfl, ?_⟩
      refine ⟨_, rfl, _, _, _, _, _, rfl, .ty "str", dp_ty (.str t.1), kit_str K (H := H) (.str t.1), _, rfl, iteF ⟨_, rfl, _, rfl, x, _, rfl, DGet.k (k := Sum.inr t.1) hx6, _, rfl, ?_⟩⟩
      rw [hno2]
      refine iteF ⟨_, rfl, t.1, rfl, small_le (by omega), _, _, rfl, rfl, _, rfl, ?_⟩
      rw [decide_eq_false (show ¬ (8 : Int) < (t.1.length : Int) by omega)]
      refine iteF ⟨_, rfl, ⟨_, rfl⟩, _, rfl, rfl, trivial, _, rfl, ?_⟩
      rw [n2]
      refine iteF ⟨_, rfl, ⟨_, rfl⟩, _, rfl, rfl, trivial, _, rfl, ?_⟩
      rw [n3]
      refine iteF ⟨_, rfl, ⟨_, rfl⟩, _, rfl, rfl, trivial, _, rfl, ?_⟩
      rw [n4]
      refine iteF ⟨_, rfl, _, _, _, _, _, rfl, .ty "tuple", dp_ty hrd, kit_tup K hrd, _, rfl, iteF ?_⟩
      refine ⟨_, rfl, ra, _, rfl, .inr hra, _, _, rfl, rfl, _, rfl, ?_⟩
      rw [decide_eq_true (show (1 : Int) ≤ (rws.length : Int) by omega)]
      refine iteT ⟨_, _, rfl, rfl, _, rfl, ?_⟩
      rw [decide_eq_true (show (rws.length : Int) ≤ 2000 by omega)]
      refine iteF ⟨_, rfl, _, rfl, _, rfl, x, _, rfl, DPut.k (k := Sum.inr t.1) hx6 ?_, ?_⟩
      · rw [List.length_map, List.length_take]
        exact small_lt (by omega)
      · refine ⟨_, _, _, rfl, ?_⟩
        have ez : (h.2.2.zip us)[j]? = some (t, .ref ra) := by
          rw [List.getElem?_zip_eq_some]
          exact ⟨et, hr1⟩
        have e1 : ((h.2.2.zip us).take (j + 1)).map txtK = ((h.2.2.zip us).take j).map txtK ++ [txtK (t, .ref ra)] := by
          rw [List.take_succ, ez, List.map_append]
          rfl
        rw [putK_new _ hno2, e1]
        funext b
        by_cases e : b = x
        · rw [e, upd_same, upd_same]
          rfl
        · rw [upd_ne e, upd_ne e, upd_ne e]
    · obtain ⟨w9, w10, w11, rfl, rfl⟩ := hQ
      have ez : (h.2.2.zip us).take ws.length = h.2.2.zip us := List.take_of_length_le (by rw [List.length_zip]; omega)
      rw [ez]
      have s7 : Same H5 (upd H5 x (.dK ((h.2.2.zip us).map txtK))) := same_new nx
      have hx7 : (upd H5 x (.dK ((h.2.2.zip us).map txtK))) x = some (.dK ((h.2.2.zip us).map txtK)) := upd_same
      have hz7 := s7 _ _ hz5
      have hsc7 := s7 _ _ (s5 _ _ hsc)
      have s37 := s5.trans s7
      generalize upd H5 x (.dK ((h.2.2.zip us).map txtK)) = H7 at s7 hx7 hz7 hsc7 s37 ⊢
      refine ⟨_, rfl, _, rfl, by show 2 ≤ sizeLine; decide, fun t nt => ?_⟩
      have s8 : Same H7 (upd H7 t (.tup [.ref z, .ref x])) := same_new nt
      have ht8 : (upd H7 t (.tup [.ref z, .ref x])) t = some (.tup [.ref z, .ref x]) := upd_same
      have hsc8 := s8 _ _ hsc7
      have hx8 := s8 _ _ hx7
      have hz8 := s8 _ _ hz7
      have s38 := s37.trans s8
      generalize upd H7 t (.tup [.ref z, .ref x]) = H8 at s8 ht8 hsc8 hx8 hz8 s38 ⊢
      refine ⟨_, rfl, _, rfl, sc, _, rfl, DPut.k (k := Sum.inr h.1) hsc8 (small_lt (by omega)), ?_⟩
      rw [putK_new _ hno]
      refine ⟨_, _, _, _, _, _, _, _, _, kvs ++ [(Sum.inr h.1, .ref t)], rfl, same_put (sm.trans s38) nsc, upd_same, by rw [List.length_append, hkl]; rfl, fun j h' e a b => ?_⟩
      have up : ∀ (b : Addr) (o : HO), b ≠ sc → H8 b = some o → (upd H8 sc (.dK (kvs ++ [(Sum.inr h.1, .ref t)]))) b = some o := fun b o nb q => by
        rw [upd_ne nb]
        exact q
      by_cases ej : j = i
      · subst ej
        rw [hh1] at a
        cases a
        rw [List.getElem?_append_right (by omega)] at b
        have b2 : e = (Sum.inr h.1, .ref t) := by
          rw [hkl, Nat.sub_self] at b
          simpa using b.symm
        subst b2
        refine ⟨t, z, x, us, rfl, up _ _ (fun q => by rw [q, hsc8] at ht8; cases ht8) ht8, up _ _ ezs hz8, up _ _ exs hx8, ezs, exs, nxH, hud⟩
      · have hj : j < kvs.length := by
          have := (List.getElem?_eq_some_iff.mp b).1
          rw [List.length_append] at this
          simp at this
          omega
        rw [List.getElem?_append_left hj] at b
        exact (hat j h' e a b).keep (fun b o nb q => up b o nb (s38 _ _ q)) fun xs z => by rw [hsc] at z; cases z
  · obtain ⟨_, _, _, _, _, _, _, _, _, kvs, rfl, sm, hsc, hkl, hat⟩ := hP
    exact ⟨_, rfl, q H3 sc sm nsc ⟨kvs, hsc, by omega, hat⟩⟩
end
end PP

set_option maxHeartbeats 4000000
namespace PP
open PySem PySem.Spec PyProof.Rows L2 G3 M0 PA
abbrev nAll : List Str := ["scopes", "name", "sizes", "texts", "rows"]
abbrev nLook : List Str := ["thing", "boxes", "hands", "common", "scopes"]
theorem scAll : FnScope nAll ["scopes"] (defScope s_are_all_rows) := ⟨rfl, rfl, rfl, by decide +kernel, rfl, by decide +kernel, by decide +kernel⟩
theorem scLook : FnScope nLook ["thing"] (defScope s_look_at_program) := ⟨rfl, rfl, rfl, by decide +kernel, rfl, by decide +kernel, by decide +kernel⟩
/-- locked, gone on, let go -/
theorem unlock_same {G H' : Hp} {d : Addr} {u : HO} {od : Obj} (h : G d = some u) (s : Same (upd G d (.frz od u)) H') : Same G (upd H' d u) := fun b o e => by
  by_cases z : b = d
  · rw [z, h] at e
    rw [z, upd_same]
    exact e
  · rw [upd_ne z]
    exact s b o (by rw [upd_ne z]; exact e)
theorem size_val {bs : List Box} {o : Str} {m : Int} (h : size? bs o = some m) : valV (bs.map boxK) (Sum.inr o) = some (.int m) := by
  unfold size? at h
  unfold valV
  obtain ⟨b, hb, rfl⟩ := Option.map_eq_some_iff.mp h
  rw [List.find?_map]
  have e : bs.find? ((fun kv : Key × V => decide (kv.1 = Sum.inr o)) ∘ boxK) = bs.find? fun x => decide (x.1 = o) := by
    congr 1
    funext x
    show decide ((Sum.inr x.1 : Key) = Sum.inr o) = decide (x.1 = o)
    rw [decide_eq_decide]
    exact ⟨fun z => Sum.inr.inj z, fun z => congrArg _ z⟩
  rw [e, hb]
  rfl
theorem txt_val {ts : List Text} {us : List V} (hl : us.length = ts.length) : ∀ z ∈ ts.map (·.1), (valV ((ts.zip us).map txtK) (Sum.inr z)).isSome = true := by
  intro z hz
  obtain ⟨t, ht, rfl⟩ := List.mem_map.mp hz
  obtain ⟨i, hi, e⟩ := List.getElem_of_mem ht
  rw [← valV_any, List.any_eq_true]
  refine ⟨txtK (t, us[i]'(by omega)), List.mem_map.mpr ⟨(t, us[i]'(by omega)), ?_, rfl⟩, decide_eq_true rfl⟩
  refine List.mem_of_getElem? (i := i) ?_
  rw [List.getElem?_zip_eq_some]
  exact ⟨by rw [List.getElem?_eq_getElem hi, e], List.getElem?_eq_getElem _⟩
theorem name_val {kvs : List (Key × V)} {hs : List Hand} (hl : kvs.length = hs.length) (hk : ∀ (i : Nat) (h : Hand) (e : Key × V), hs[i]? = some h → kvs[i]? = some e → e.1 = Sum.inr h.1) : ∀ z ∈ hs.map (·.1), (valV kvs (Sum.inr z)).isSome = true := by
  intro z hz
  obtain ⟨h, hh, rfl⟩ := List.mem_map.mp hz
  obtain ⟨i, hi, e⟩ := List.getElem_of_mem hh
  rw [← valV_any, List.any_eq_true]
  have hi2 : i < kvs.length := by omega
  have e2 := hk i h kvs[i] (by rw [List.getElem?_eq_getElem hi, e]) (List.getElem?_eq_getElem hi2)
  exact ⟨kvs[i], List.getElem_mem hi2, decide_eq_true e2⟩
section
variable {P : Program} {w : World} {K : PySem.W.Frag} {mg : Str → Option Value} {base : Heap}
def spAll (K : PySem.W.Frag) : Sp := fun vs H Q _ => ∃ (sc : Addr) (H0 : Hp) (bs : List Box) (hs : List Hand), vs = [.ref sc] ∧ Same H0 H ∧ H0 sc = none ∧ ScopesAt K H0 H sc bs hs ∧
  (∀ h ∈ hs, TextsOk (bs ++ h.2.1) ((hs.map (·.1)).filter fun z => decide (z ≠ h.1)) h.2.2) ∧ ∀ H', Same H H' → Q (.bl true) H'
set_option maxHeartbeats 8000000 in
theorem ok_all {f : Addr} {fd : FuncData} {k : Nat} (F : Fun K "are_all_rows" "are_all_rows" s_are_all_rows f fd) (DR : Def P w K mg base CX0 (k + 1) "are_rows" ["rows", "end", "sizes", "texts", "hands", "name"] (spRows K)) (ml : mg "len" = none) (mk : mg "KeyError" = none) : FnOk P w K mg base CX0 (k + 1 + 1) f fd ["scopes"] (spAll K) := by
  refine F.ok scAll (fun vs H Q E h => ?_) (fun cdv A outer s H vs Q E hr h => ?_)
  · obtain ⟨sc, H0, bs, hs, rfl, _⟩ := h
    rfl
  obtain ⟨sc, H0, bs, hs, rfl, s0, nsc, ⟨kvs, hsc, hkl, hat⟩, htx, q⟩ := h
  have nd := scAll.nd
  refine ⟨_, pss_cons (ps_try_only (c := .type "KeyError") (tb := fun _ => tLock (tFor (iItems (tVar 0)) (gTup K 2 (gCons (gName 1) (gCons (gTup K 2 (gCons (gName 2) (gCons (gName 3) gNil))) gNil)))
        (tLock (tFor (iVals (tVar 3)) (gName 4) (tIfS (tNot (tB (tCall (spRows K) [] E0 (tCons (tVar 4) (tCons (tCB (fun xs H Q => ∃ p ys, xs = [.ref p] ∧ (SqL K H p ys ∨ SqT K H p ys) ∧ Q (.int ys.length) H) (tCons (tVar 4) tNil)) (tCons (tVar 2) (tCons (tVar 3) (tCons (tVar 0) (tCons (tVar 1) tNil))))))))) (fun _ _ _ => False) tNext))))) (ts := fun _ _ _ => fun _ _ _ => False)
      rfl rfl ⟨by rfl, by decide, .inr ⟨mk, by decide +kernel, by decide⟩⟩ takes0
      (fun W pn xe tk po => pss_one (ps_lock (ps_for po rfl (pi_items (pv 0)) (pg_tup rfl (pgs_cons (pg_name (i := 1) nd rfl (.inl rfl)) (pgs_cons (pg_tup rfl (pgs_cons (pg_name (i := 2) nd rfl (.inl rfl)) (pgs_cons (pg_name (i := 3) nd rfl (.inl rfl)) pgs_nil))) pgs_nil)))
        (pss_one (ps_lock (ps_for po rfl (pi_values (pv 3)) (pg_name (i := 4) nd rfl (.inl rfl))
          (pss_one (ps_if (pt_not (pt_val (pe_call DR.ok hr (by rfl) DR.g DR.kp DR.b .nil pass0 (pa_cons (pv 4) (pa_cons (pe_callB call_len_seq (by rfl) ml PySem.boot_len (pa_cons (pv 4) pa_nil)) (pa_cons (pv 2) (pa_cons (pv 3) (pa_cons (pv 0) (pa_cons (pv 1) pa_nil))))))))) (pss_one ps_dead) pss_nil))))))))
      (fun a oe cls d pn _ _ => pss_one ps_dead))
    (pss_one (ps_ret pe_bl)), ?_⟩
  refine ⟨sc, .dK kvs, hsc, trivial, fun od => ⟨_, rfl, sc, od, kvs, rfl, upd_same, ?_⟩⟩
  have kn : ∀ (i : Nat) (h : Hand) (e : Key × V), hs[i]? = some h → kvs[i]? = some e → e.1 = Sum.inr h.1 := fun i h e a b => by
    obtain ⟨_, _, _, _, rfl, _⟩ := hat i h e a b
    rfl
  refine for_it walk_items (fun i σ H3 => ∃ a1 a2 a3 a4, σ = [some (.ref sc), a1, a2, a3, a4] ∧ Same (upd H sc (.frz od (.dK kvs))) H3) ⟨_, _, _, _, rfl, fun _ _ z => z⟩ (fun i σ H3 _ p => ?_) (fun i y σ H3 H4 hi p hy => ?_) (fun σ H3 p => ?_)
  · obtain ⟨_, _, _, _, _, sm⟩ := p
    exact sm _ _ upd_same
  · obtain ⟨a1, a2, a3, a4, rfl, sm⟩ := p
    obtain ⟨T, k1, k2, rfl, nT, rfl, hk1, hk2⟩ := hy
    have hhi : i < hs.length := by omega
    have e1 : hs[i]? = some hs[i] := List.getElem?_eq_getElem hhi
    have e2 : kvs[i]? = some kvs[i] := List.getElem?_eq_getElem hi
    have hA := hat i _ _ e1 e2
    have hm : hs[i] ∈ hs := List.getElem_mem hhi
    simp only [e2, Option.map_some] at hk1 hk2
    generalize kvs[i] = en at hA hk1 hk2
    generalize hs[i] = h at hA hm
    obtain ⟨t, z, x, vs, rfl, ht, hz, hx, n1, n2, nx0, hvs⟩ := hA
    cases hk1
    cases hk2
    have keep : ∀ b o, b ≠ sc → H b = some o → H3 b = some o := fun b o nb e => sm b o (by rw [upd_ne nb]; exact e)
    have nt : t ≠ sc := fun e => by
      rw [e, hsc] at ht
      cases ht
    have ht3 := keep _ _ nt ht
    have hz3 := keep _ _ n1 hz
    have hx3 := keep _ _ n2 hx
    have hsc3 := sm _ _ upd_same
    have sT : Same H3 (upd H3 T (.tup [.str h.1, .ref t])) := same_new nT
    have ht4 := sT _ _ ht3
    have hz4 := sT _ _ hz3
    have hx4 := sT _ _ hx3
    have hsc4 := sT _ _ hsc3
    have hT4 : (upd H3 T (.tup [.str h.1, .ref t])) T = some (.tup [.str h.1, .ref t]) := upd_same
    have sm4 := sm.trans sT
    show gTup K 2 _ _ _ (upd H3 T (.tup [.str h.1, .ref t])) _
    generalize upd H3 T (.tup [.str h.1, .ref t]) = G at sT ht4 hz4 hx4 hsc4 hT4 sm4 ⊢
    refine ⟨T, _, rfl, .inl (.inl hT4), rfl, _, _, rfl, _, _, rfl, t, _, rfl, .inl (.inl ht4), rfl, _, _, rfl, _, _, rfl, rfl, rfl, ?_⟩
    refine ⟨x, _, hx4, trivial, fun od2 => ⟨_, rfl, x, od2, _, rfl, upd_same, ?_⟩⟩
    refine for_it walk_values (fun j σ H5 => ∃ a4, σ = [some (.ref sc), some (.str h.1), some (.ref z), some (.ref x), a4] ∧ Same (upd G x (.frz od2 (.dK ((h.2.2.zip vs).map txtK)))) H5) ⟨_, rfl, fun _ _ z => z⟩ (fun j σ H5 _ p => ?_) (fun j y σ H5 H6 hj p hy => ?_) (fun σ H5 p => ?_)
    · obtain ⟨_, _, s5⟩ := p
      exact s5 _ _ upd_same
    · obtain ⟨w4, rfl, s5⟩ := p
      obtain ⟨rfl, ky, hky⟩ := hy
      have hvl : vs.length = h.2.2.length := by rw [dpAll_len hvs, List.length_map]
      rw [List.length_map, List.length_zip] at hj
      have hj1 : j < h.2.2.length := by omega
      have hj2 : j < vs.length := by omega
      have ey : y = vs[j] := by
        rw [List.getElem?_map, List.getElem?_eq_getElem (by rw [List.length_zip]; omega), List.getElem_zip] at hky
        cases hky
        rfl
      have hd0 : Dp K H0 vs[j] (rowsD h.2.2[j].2) := by
        obtain ⟨d, a, b⟩ := dpAll_get hvs (List.getElem?_eq_getElem hj2)
        rw [List.getElem?_map, List.getElem?_eq_getElem hj1] at a
        cases a
        exact b
      have hmt : h.2.2[j] ∈ h.2.2 := List.getElem_mem hj1
      rw [← ey] at hd0
      generalize h.2.2[j] = te at hd0 hmt
      have s05 : Same H0 H6 := fun b o e => by
        have nb1 : b ≠ sc := fun q => by
          rw [q, nsc] at e
          cases e
        have nb2 : b ≠ x := fun q => by
          rw [q, nx0] at e
          cases e
        refine s5 b o ?_
        rw [upd_ne nb2]
        refine sm4 b o ?_
        rw [upd_ne nb1]
        exact s0 b o e
      have hd5 := dp_same s05 _ _ hd0
      obtain ⟨ra, rws, rfl, hra, hrr⟩ := dp_tup hd5
      have hrl : rws.length = te.2.length := by rw [dpAll_len hrr, List.length_map]
      have rz : Rd H6 z (.dK ((bs ++ h.2.1).map boxK)) := by
        by_cases e : z = x
        · have e2 := hz4
          rw [e, hx4] at e2
          have e3 : HO.dK ((h.2.2.zip vs).map txtK) = HO.dK ((bs ++ h.2.1).map boxK) := Option.some.inj e2
          rw [← e3, e]
          exact .inr ⟨_, s5 _ _ upd_same⟩
        · exact .inl (s5 _ _ (by rw [upd_ne e]; exact hz4))
      have rsc : Rd H6 sc (.dK kvs) := .inr ⟨_, s5 _ _ (by rw [upd_ne (Ne.symm n2)]; exact hsc4)⟩
      refine ⟨_, rfl, _, rfl, ra, rws, rfl, .inr hra, _, rfl, _, rfl, _, rfl, _, rfl, .ref ra, te.2, _, z, x, sc, h.1, bs ++ h.2.1, h.2.2.map (·.1), (hs.map (·.1)).filter fun z => decide (z ≠ h.1), rfl, hd5, ⟨_, rz, fun o m => size_val⟩, ⟨_, .inr ⟨_, s5 _ _ upd_same⟩, txt_val hvl⟩, ⟨_, rsc, fun u hu => name_val hkl kn u (List.mem_filter.mp hu).1⟩, ?_, ?_, fun H7 s7 => ⟨_, rfl, iteF ?_⟩⟩
      · intro hu
        exact of_decide_eq_true (List.mem_filter.mp hu).2 rfl
      · intro r hr2
        rw [hrl]
        exact (htx h hm).row te hmt r hr2
      · exact ⟨_, rfl, s5.trans s7⟩
    · obtain ⟨w4, rfl, s5⟩ := p
      exact ⟨s5 _ _ upd_same, _, _, _, _, rfl, sm4.trans (unlock_same hx4 s5)⟩
  · obtain ⟨_, _, _, _, rfl, sm⟩ := p
    exact ⟨sm _ _ upd_same, q _ (unlock_same hsc sm)⟩
end
end PP

set_option maxHeartbeats 4000000
namespace PP
open PySem PySem.Spec PyProof.Rows L2 G3 M0 PA
section
variable {P : Program} {w : World} {K : PySem.W.Frag} {mg : Str → Option Value} {base : Heap}
def spLook (K : PySem.W.Frag) : Sp := fun vs H Q _ => ∃ (v : V) (p : Prog), vs = [v] ∧ Dp K H v (progD p) ∧ ProgOk p ∧ ∀ H', Same H H' → Q .non H'
set_option maxHeartbeats 8000000 in
theorem ok_look {f : Addr} {fd : FuncData} {k : Nat} {t4 t8 t9 : Tok} (F : Fun K "look_at_program" "look_at_program" s_look_at_program f fd) (DB : Def P w K mg base CX0 (k + 1) "are_boxes" ["thing", "most", "greatest", "sizes"] (spBoxes K))
    (DC : Def P w K mg base CX0 (k + 1) "scopes_of" ["common", "hands"] (spScopes K)) (DA : Def P w K mg base CX0 (k + 1) "are_all_rows" ["scopes"] (spAll K))
    (mi : mg "isinstance" = none) (mt : mg "tuple" = none) (ml : mg "len" = none) (m4 : mg "MOST_HANDS" = some (.int 4 t4)) (m8 : mg "MOST_COMMON" = some (.int 8 t8)) (m9 : mg "GREATEST_COMMON" = some (.int 4 t9)) :
    FnOk P w K mg base CX0 (k + 1 + 1) f fd ["thing"] (spLook K) := by
  refine F.ok scLook (fun vs H Q E h => ?_) (fun cdv A outer s H vs Q E hr h => ?_)
  · obtain ⟨v, p, rfl, _⟩ := h
    rfl
  obtain ⟨v, p, rfl, hv, ok, q⟩ := h
  have nd := scLook.nd
  refine ⟨_, pss_cons (ps_if (PW.pt (pw_or (pt_not (pt_val (pe_callB call_isi (by rfl) mi PyProof.Rows.boot_isinstance (pa_cons (pv 0) (pa_cons (pe_bltn (by rfl) mt (u := .type "tuple") (by decide +kernel) (show RelV (.ty "tuple") (.type "tuple") from rfl)) pa_nil)))))
          (pw_or1 (pt_cmpR op_ne (pe_callB call_len_seq (by rfl) ml PySem.boot_len (pa_cons (pv 0) pa_nil)) pe_int (nomark _))))) (pss_one ps_dead) pss_nil)
    (pss_cons (ps_asg (pv 0) (pg_tup rfl (pgs_cons (pg_name (i := 1) nd rfl (.inl rfl)) (pgs_cons (pg_name (i := 2) nd rfl (.inl rfl)) pgs_nil))))
    (pss_cons (ps_set (i := 3) nd rfl (.inl rfl) pe_dnewK)
    (pss_cons (ps_if (PW.pt (pw_or (pt_not (pt_val (pe_callB call_isi (by rfl) mi PyProof.Rows.boot_isinstance (pa_cons (pv 2) (pa_cons (pe_bltn (by rfl) mt (u := .type "tuple") (by decide +kernel) (show RelV (.ty "tuple") (.type "tuple") from rfl)) pa_nil)))))
          (pw_or1 (pt_not (pt_chain op_le op_le pe_int (pe_callB call_len_seq (by rfl) ml PySem.boot_len (pa_cons (pv 2) pa_nil)) (pe_glob (v := .int 4) (by rfl) m4 ⟨_, rfl⟩)))))) (pss_one ps_dead) pss_nil)
    (pss_cons (ps_if (pt_not (pt_val (pe_call DB.ok hr (by rfl) DB.g DB.kp DB.b .nil pass0 (pa_cons (pv 1) (pa_cons (pe_glob (v := .int 8) (by rfl) m8 ⟨_, rfl⟩) (pa_cons (pe_glob (v := .int 4) (by rfl) m9 ⟨_, rfl⟩) (pa_cons (pv 3) pa_nil))))))) (pss_one ps_dead) pss_nil)
    (pss_cons (ps_set (i := 4) nd rfl (.inl rfl) (pe_call DC.ok hr (by rfl) DC.g DC.kp DC.b .nil pass0 (pa_cons (pv 3) (pa_cons (pv 2) pa_nil))))
    (pss_one (ps_if (pt_not (pt_val (pe_call DA.ok hr (by rfl) DA.g DA.kp DA.b .nil pass0 (pa_cons (pv 4) pa_nil)))) (pss_one ps_dead) pss_nil))))))), ?_⟩
  obtain ⟨a, v1, v2, rfl, ha, g1, g2⟩ := dp2 hv
  obtain ⟨ha2, xs, rfl, hs2, hall⟩ := dp_tup g2
  have hxl : xs.length = p.2.length := by rw [dpAll_len hall, List.length_map]
  have h1 := ok.one
  have h4 := ok.few
  refine ⟨_, rfl, _, _, _, _, _, rfl, .ty "tuple", dp_ty hv, kit_tup K hv, _, rfl, iteF ⟨_, rfl, a, _, rfl, .inr ha, rfl, _, rfl, iteNS rfl ?_⟩⟩
  refine ⟨_, rfl, a, _, rfl, ha, rfl, _, _, rfl, _, _, rfl, rfl, ?_⟩
  intro c nc
  have s1 : Same H (upd H c (.dK [])) := same_new nc
  have hs3 := same_tup s1 hs2
  have g3 := dp_same s1 _ _ g2
  refine ⟨_, rfl, _, _, _, _, _, rfl, .ty "tuple", dp_ty g3, kit_tup K g3, _, rfl, iteF ?_⟩
  refine ⟨_, rfl, ha2, _, rfl, .inr hs3, _, _, rfl, rfl, _, rfl, ?_⟩
  rw [decide_eq_true (show (1 : Int) ≤ (xs.length : Int) by omega)]
  refine iteT ⟨_, _, rfl, rfl, _, rfl, ?_⟩
  rw [decide_eq_true (show (xs.length : Int) ≤ 4 by omega)]
  have bx := ok.box
  have bl := bx.len
  refine iteF ⟨_, rfl, _, rfl, v1, p.1, 8, 4, c, [], rfl, dp_same s1 _ _ g1, upd_same, ?_, bx.len, fun b hb => ?_, bx.nd, _, rfl, iteF ?_⟩
  · show 0 + p.1.length ≤ 1000
    omega
  · obtain ⟨q1, q2, q3, q4⟩ := bx.nm b hb
    exact ⟨q1, q2, q3, rfl⟩
  have e2 : upd (upd H c (.dK [])) c (.dK ([] ++ p.1.map boxK)) = upd H c (.dK (p.1.map boxK)) := by
    funext b
    by_cases e : b = c
    · rw [e, upd_same, upd_same]
      rfl
    · rw [upd_ne e, upd_ne e, upd_ne e]
  rw [e2]
  have s2 : Same H (upd H c (.dK (p.1.map boxK))) := same_new nc
  refine ⟨_, rfl, _, rfl, c, .ref ha2, p.1, p.2, rfl, upd_same, bl, dp_same s2 _ _ g2, ⟨h4, ok.nm, ok.nd, ok.own, fun h hh => ?_⟩, fun H3 sc s3 nsc hat => ?_⟩
  · have t := ok.txt h hh
    exact ⟨t.one, t.few, t.nm, t.nd⟩
  · exact ⟨_, rfl, sc, _, p.1, p.2, rfl, s3, nsc, hat, ok.txt, fun H4 s4 => ⟨_, rfl, iteF (q _ ((s2.trans s3).trans s4))⟩⟩
end
end PP

set_option maxHeartbeats 4000000
namespace PP
open PySem PySem.Spec PyProof.Rows L2 G3 M0 PA
theorem scPool : FnScope ["_law_script", "_law_k", "_law_cell", "_law_mixed"] ["_law_script", "_law_k"] (defScope s_law_pool) := ⟨rfl, rfl, rfl, by decide +kernel, rfl, by decide +kernel, by decide +kernel⟩
theorem scTake : FnScope ["_law_pool_here", "_law_many", "_law_found"] ["_law_pool_here", "_law_many"] (defScope s_law_take) := ⟨rfl, rfl, rfl, by decide +kernel, rfl, by decide +kernel, by decide +kernel⟩
section
variable {P : Program} {w : World} {K : PySem.W.Frag} {mg : Str → Option Value} {base : Heap}

/-- what a pool holds -/
def Pool (H : Hp) (p : Addr) : Prop := ∃ x y : Int, H p = some (.lst [.int x, .int y]) ∧ 0 ≤ x ∧ 0 ≤ y ∧ y < 2147483647
def spTake : Sp := fun vs H Q _ => ∃ (p : Addr) (m : Int), vs = [.ref p, .int m] ∧ Pool H p ∧ 0 < m ∧ m < 1073741824 ∧
  ∀ (H' : Hp) (r : Int), Pool H' p → M0.off p H' = M0.off p H → 0 ≤ r → r < m → Q (.int r) H'
def spPool (K : PySem.W.Frag) : Sp := fun vs H Q _ => ∃ (a : Addr) (ns : List Int) (k : Nat), vs = [.ref a, .int k] ∧ SqL K H a (ns.map V.int) ∧ k ≤ 1000 ∧
  ∀ (p : Addr) (x y : Int), H p = none → 0 ≤ x → 0 ≤ y → y < 2147483647 → Q (.ref p) (upd H p (.lst [.int x, .int y]))

theorem ok_take {f : Addr} {fd : FuncData} {k : Nat} (F : Fun K "_law_take" "_law_take" s_law_take f fd) : FnOk P w K mg base CX0 (k + 1) f fd ["_law_pool_here", "_law_many"] spTake := by
  refine F.ok scTake (fun vs H Q E h => ?_) (fun cdv A outer s H vs Q E hr h => ?_)
  · obtain ⟨p, m, rfl, _⟩ := h
    rfl
  · obtain ⟨p, m, rfl, ⟨x, y, hp, hx, hy, hy2⟩, hm, hm2, q0⟩ := h
    have q : ∀ (x y r : Int), 0 ≤ x → 0 ≤ y → y < 2147483647 → 0 ≤ r → r < m → Q (.int r) (upd H p (.lst [.int x, .int y])) := fun x y r a b c d e => q0 _ _ ⟨x, y, upd_same, a, b, c⟩ off_upd d e
    have nd := scTake.nd
    refine ⟨_, pss_cons (ps_if (pt_cmpR op_gt (pe_ix ix_list (pv 0) pe_int (fun _ _ => rfl)) pe_int (nomark _))
        (pss_cons (ps_set (i := 2) nd rfl (.inl rfl) (pe_op op_mod (pe_ix ix_list (pv 0) pe_int (fun _ _ => rfl)) (pv 1)))
        (pss_cons (ps_asg (pe_op op_fdiv (pe_ix ix_list (pv 0) pe_int (fun _ _ => rfl)) (pv 1)) (pg_sub (pv 0) pe_int set_list))
        (pss_one (ps_ret (pv 2))))) pss_nil)
      (pss_cons (ps_asg (pe_op op_mod (pe_op op_add (pe_op op_mul (pe_ix ix_list (pv 0) pe_int (fun _ _ => rfl)) pe_int) pe_int) pe_int) (pg_sub (pv 0) pe_int set_list))
      (pss_one (ps_ret (pe_op op_mod (pe_op op_fdiv (pe_op op_mod (pe_op op_mul (pe_ix ix_list (pv 0) pe_int (fun _ _ => rfl)) (pe_ix ix_list (pv 0) pe_int (fun _ _ => rfl))) pe_int) pe_int) (pv 1))))), ?_⟩
    have g0 : atI [V.int x, V.int y] 0 = some (V.int x) := atI_nat (j := 0) rfl
    have g1 : atI [V.int x, V.int y] 1 = some (V.int y) := atI_nat (j := 1) rfl
    refine ⟨_, rfl, p, _, 0, _, rfl, rfl, SqL.of hp, g0, x, 0, rfl, rfl, _, rfl, ite2 (fun e => ?_) (fun e => ?_)⟩
    · -- the great cell
      have hd1 : 0 ≤ x / m := Int.ediv_nonneg hx (Int.le_of_lt hm)
      refine ⟨_, rfl, p, _, 0, _, rfl, rfl, SqL.of hp, g0, _, rfl, x, m, rfl, rfl, hm, ?_⟩
      refine ⟨_, rfl, p, _, 0, _, rfl, rfl, SqL.of hp, g0, _, rfl, x, m, rfl, rfl, ⟨hm, hm2⟩, ?_⟩
      refine ⟨_, rfl, p, _, 0, 0, rfl, rfl, hp, rfl, _, rfl, ?_⟩
      exact q _ _ _ hd1 hy hy2 (Int.emod_nonneg x (by omega)) (Int.emod_lt_of_pos x hm)
    · have hz1 : 0 ≤ (y * 48271 + 12345) % 2147483647 := Int.emod_nonneg _ (by decide)
      have hz2 : (y * 48271 + 12345) % 2147483647 < 2147483647 := Int.emod_lt_of_pos _ (by decide)
      refine ⟨_, rfl, p, _, 1, _, rfl, rfl, SqL.of hp, g1, y, 48271, rfl, rfl, .inr ⟨by decide, by decide⟩, _, _, rfl, rfl, _, _, rfl, rfl, (show (0 : Int) < 2147483647 by decide), ?_⟩
      refine ⟨_, rfl, p, _, 1, 1, rfl, rfl, hp, rfl, ?_⟩
      have g2 : atI ([V.int x, V.int y].set 1 (V.int ((y * 48271 + 12345) % 2147483647))) 1 = some (V.int ((y * 48271 + 12345) % 2147483647)) := atI_nat (j := 1) rfl
      refine ⟨_, rfl, p, _, 1, _, rfl, rfl, SqL.of upd_same, g2, _, rfl, p, _, 1, _, rfl, rfl, SqL.of upd_same, g2, _, _, rfl, rfl, .inl ⟨by omega, by omega⟩, ?_⟩
      refine ⟨_, _, rfl, rfl, (show (0 : Int) < 2147483629 by decide), _, _, rfl, rfl, ⟨by decide, by decide⟩, _, rfl, _, m, rfl, rfl, hm, ?_⟩
      exact q _ _ _ hx hz1 hz2 (Int.emod_nonneg _ (by omega)) (Int.emod_lt_of_pos _ hm)

theorem ok_pool {f : Addr} {fd : FuncData} {k : Nat} (F : Fun K "_law_pool" "_law_pool" s_law_pool f fd) (ml : mg "len" = none) (ma : mg "abs" = none) (mi : mg "int" = none) : FnOk P w K mg base CX0 (k + 1) f fd ["_law_script", "_law_k"] (spPool K) := by
  refine F.ok scPool (fun vs H Q E h => ?_) (fun cdv A outer s H vs Q E hr h => ?_)
  · obtain ⟨a, ns, k, rfl, _⟩ := h
    rfl
  · obtain ⟨a, ns, k, rfl, hS, hk, q⟩ := h
    have nd := scPool.nd
    refine ⟨_, pss_cons (ps_set (i := 2) nd rfl (.inl rfl) pe_int)
      (pss_cons (ps_if (pt_cmpR op_lt (pv 1) (pe_callB call_len_seq (by rfl) ml PySem.boot_len (pa_cons (pv 0) pa_nil)) (nomark _))
        (pss_one (ps_set (i := 2) nd rfl (.inl rfl) (pe_callB call_abs (by rfl) ma (by decide +kernel) (pa_cons (pe_ix ix_list (pv 0) (pv 1) (fun _ _ => rfl)) pa_nil)))) pss_nil)
      (pss_cons (ps_set (i := 3) nd rfl (.inl rfl) (pe_op op_mod (pe_op op_mul (pe_op op_add (pe_op op_add (pe_op op_add (pe_op op_mod (pv 2) pe_int) (pe_op op_mul (pe_op op_mul pe_int (pv 1)) (pv 1))) (pe_op op_mul pe_int (pv 1))) pe_int) pe_int) pe_int))
      (pss_one (ps_ret (pe_lst (pa_cons (pe_op op_mul (pv 2) (pe_callTy call_int1 (by rfl) mi (by decide +kernel) (pa_cons (pe_cmpR op_ge (pv 2) (pe_op op_pow pe_int pe_int) (nomark _)) pa_nil)))
        (pa_cons (pe_op op_mod (pe_op op_mul (pv 3) (pv 3)) pe_int) pa_nil))))))), ?_⟩
    -- what follows once the cell is known
    have rest : ∀ c : Int, 0 ≤ c → (tSeq (tAsg (tOp (rI (fun _ j => 0 < j) fun i j => .int (i % j)) (tOp (rI CMul fun i j => .int (i * j)) (tOp (rI0 fun i j => .int (i + j)) (tOp (rI0 fun i j => .int (i + j)) (tOp (rI0 fun i j => .int (i + j)) (tOp (rI (fun _ j => 0 < j) fun i j => .int (i % j)) (tVar 2) (tC (.int 2147483629))) (tOp (rI CMul fun i j => .int (i * j)) (tOp (rI CMul fun i j => .int (i * j)) (tC (.int 7919)) (tVar 1)) (tVar 1))) (tOp (rI CMul fun i j => .int (i * j)) (tC (.int 31)) (tVar 1))) (tC (.int 17))) (tC (.int 48271))) (tC (.int 2147483647))) (gName 3))
        (tRet (tLst (tCons (tOp (rI CMul fun i j => .int (i * j)) (tVar 2) (tCB (fun xs H Q => (∃ i, xs = [.int i] ∧ Q (.int i) H) ∨ ∃ k, xs = [.bl k] ∧ Q (.int (if k then 1 else 0)) H) (tCons (tOp (rI0 fun i j => .bl (decide (j ≤ i))) (tVar 2) (tOp (rI CPow fun i j => .int (i ^ j.toNat)) (tC (.int 10)) (tC (.int 18)))) tNil)))
          (tCons (tOp (rI (fun _ j => 0 < j) fun i j => .int (i % j)) (tOp (rI CMul fun i j => .int (i * j)) (tVar 3) (tVar 3)) (tC (.int 2147483629))) tNil)))))
        { nx := fun _ H' => Q .non H', rt := Q } [some (.ref a), some (.int k), some (.int c), none] H := by
      intro c hc
      refine ⟨_, rfl, c, _, rfl, rfl, (show (0 : Int) < 2147483629 by decide), _, rfl, _, _, rfl, rfl, .inl ⟨by decide, by decide⟩, _, rfl, _, _, rfl, rfl, .inr ⟨by omega, by omega⟩, _, _, rfl, rfl, _, rfl, _, _, rfl, rfl, .inl ⟨by decide, by decide⟩, _, _, rfl, rfl, _, _, rfl, rfl, _, _, rfl, rfl, .inr ⟨by decide, by decide⟩, _, _, rfl, rfl, (show (0 : Int) < 2147483647 by decide), ?_⟩
      have hz1 : 0 ≤ (c % 2147483629 + 7919 * (k : Int) * k + 31 * k + 17) * 48271 % 2147483647 := Int.emod_nonneg _ (by decide)
      have hz2 : (c % 2147483629 + 7919 * (k : Int) * k + 31 * k + 17) * 48271 % 2147483647 < 2147483647 := Int.emod_lt_of_pos _ (by decide)
      refine ⟨_, rfl, _, rfl, _, _, rfl, rfl, ⟨by decide, by decide, by decide⟩, c, _, rfl, rfl, .inr ⟨_, rfl, ?_⟩⟩
      have key : ∀ b : Bool, 0 ≤ c * (if b then 1 else 0) := fun b => by cases b <;> simp [hc]
      have sm : ∀ b : Bool, (-(2 ^ 64) : Int) < (if b then 1 else 0) ∧ ((if b then 1 else 0) : Int) < 2 ^ 64 := fun b => by cases b <;> decide
      refine ⟨c, _, rfl, rfl, .inr (sm _), _, rfl, _, rfl, _, _, rfl, rfl, .inl ⟨Int.lt_of_lt_of_le (by decide) hz1, Int.lt_trans hz2 (by decide)⟩, _, _, rfl, rfl, (show (0 : Int) < 2147483629 by decide), by show 2 ≤ sizeLine; decide, fun p np => ?_⟩
      exact q p _ _ np (key _) (Int.emod_nonneg _ (by decide)) (Int.lt_trans (Int.emod_lt_of_pos _ (by decide)) (by decide))
    refine ⟨_, rfl, _, rfl, a, _, rfl, .inl hS, _, _, rfl, rfl, _, rfl, ite2 (fun e => ?_) (fun e => ?_)⟩
    · have hk2 : k < ns.length := by
        have := of_decide_eq_true e
        rw [List.length_map] at this
        omega
      have g : (ns.map V.int)[k]? = some (.int ns[k]) := by
        rw [List.getElem?_map, List.getElem?_eq_getElem hk2]
        rfl
      refine ⟨_, rfl, _, rfl, a, _, k, _, rfl, rfl, hS, atI_nat g, ns[k], rfl, ?_⟩
      refine rest _ ?_
      split <;> omega
    · exact rest 0 (by decide)
end
theorem off_put {p D : Addr} {H : Hp} {o : HO} (h : D ≠ p) : M0.off p (upd H D o) = upd (M0.off p H) D o := by
  funext b
  by_cases e : b = D
  · rw [e, off_ne h, upd_same, upd_same]
  · rw [upd_ne e]
    by_cases z : b = p
    · rw [z]
      unfold M0.off
      rw [if_pos rfl, if_pos rfl]
    · rw [off_ne z, off_ne z, upd_ne e]
theorem pool_ne {H : Hp} {p t : Addr} (pl : Pool H p) (nt : H t = none) : t ≠ p := fun e => by
  obtain ⟨x, y, h, _⟩ := pl
  rw [e, h] at nt
  cases nt
theorem pool_put {H : Hp} {p t : Addr} {o : HO} (pl : Pool H p) (ne : t ≠ p) : Pool (upd H t o) p := by
  obtain ⟨x, y, h, r⟩ := pl
  exact ⟨x, y, by rw [upd_ne ne.symm]; exact h, r⟩
theorem pool_same {H H' : Hp} {p : Addr} (h : Pool H p) (s : Same H H') : Pool H' p := by
  obtain ⟨x, y, e, r⟩ := h
  exact ⟨x, y, s _ _ e, r⟩
theorem off_none {p b : Addr} {H : Hp} (h : H b = none) : M0.off p H b = none := by
  unfold M0.off
  split
  · rfl
  · exact h
theorem off_at {p b : Addr} {H : Hp} {o : HO} (h : M0.off p H b = some o) : H b = some o ∧ b ≠ p := by
  by_cases z : b = p
  · rw [z] at h
    unfold M0.off at h
    rw [if_pos rfl] at h
    cases h
  · rw [off_ne z] at h
    exact ⟨h, z⟩
end PP

set_option maxHeartbeats 4000000
namespace PP
open PySem PySem.Spec PyProof.Rows L2 G3 M0 PA
abbrev nSrc : List Str := ["_law_pool_here", "_law_boxes", "_law_box", "_law_way", "_law_some", "_law_other"]
theorem scSrc : FnScope nSrc ["_law_pool_here", "_law_boxes", "_law_box"] (defScope s_law_source) := ⟨rfl, rfl, rfl, by decide +kernel, rfl, by decide +kernel, by decide +kernel⟩
/-- boxes that the law draws from -/
structure Draw (bs : List Box) : Prop where
  one : 1 ≤ bs.length
  few : bs.length ≤ 100
  nd : (bs.map (·.1)).Nodup
  sz : ∀ b ∈ bs, 1 ≤ b.2 ∧ b.2 < 1000
  lay : ∀ b ∈ bs, PyData.strOk b.1 = true
theorem size_mem {bs : List Box} (nd : (bs.map (·.1)).Nodup) {b : Box} (h : b ∈ bs) : size? bs b.1 = some b.2 := by
  unfold size?
  induction bs with
  | nil => cases h
  | cons c bs ih =>
    rw [List.map_cons, List.nodup_cons] at nd
    rw [List.find?_cons]
    by_cases e : c.1 = b.1
    · rcases List.mem_cons.mp h with rfl | h2
      · rw [decide_eq_true rfl]
        rfl
      · exact absurd (List.mem_map.mpr ⟨b, h2, e.symm⟩) nd.1
    · rw [decide_eq_false e]
      rcases List.mem_cons.mp h with rfl | h2
      · exact absurd rfl e
      · exact ih nd.2 h2
theorem lay_all : ∀ {xs : List PyData}, (∀ x ∈ xs, x.canLay0 = true) → PyData.canLayAll0 xs = true
  | [], _ => by simp only [PyData.canLayAll0]
  | x :: xs, h => by
    simp only [PyData.canLayAll0, h x List.mem_cons_self, lay_all fun y hy => h y (List.mem_cons_of_mem _ hy), Bool.and_self]
theorem boxD_lay {b : Box} (h : PyData.strOk b.1 = true) : (boxD b).canLay0 = true := by
  unfold boxD
  simp only [PyData.canLay0, PyData.canLayAll0, h, Bool.and_self]
theorem boxD_depth (b : Box) : (boxD b).depth ≤ 1 := by
  unfold boxD
  exact G4.depth_tuple (k := 0) fun x hx => by
    rcases List.mem_cons.mp hx with rfl | hx
    · simp only [PyData.depth]
      exact Nat.le_refl _
    · rw [List.mem_singleton.mp hx]
      simp only [PyData.depth]
      exact Nat.le_refl _
theorem boxD_shaped {b : Box} (h : PyData.strOk b.1 = true) : SeqAt.shaped (boxD b) = true := by
  unfold SeqAt.shaped
  rw [boxD_lay h, decide_eq_true (Nat.le_trans (boxD_depth b) (by decide))]
  rfl
theorem boxL_shaped {bs : List Box} (h : ∀ b ∈ bs, PyData.strOk b.1 = true) : SeqAt.shaped (.list (bs.map boxD)) = true := by
  unfold SeqAt.shaped
  have e1 : (PyData.list (bs.map boxD)).canLay0 = true := by
    simp only [PyData.canLay0]
    exact lay_all fun x hx => by
      obtain ⟨b, hb, rfl⟩ := List.mem_map.mp hx
      exact boxD_lay (h b hb)
  have e2 : (PyData.list (bs.map boxD)).depth ≤ 64 := Nat.le_trans (G4.depth_list (k := 1) fun x hx => by
    obtain ⟨b, hb, rfl⟩ := List.mem_map.mp hx
    exact boxD_depth b) (by decide)
  rw [e1, decide_eq_true e2]
  rfl
theorem nilL_shaped : SeqAt.shaped (.list []) = true := boxL_shaped (bs := []) fun _ z => nomatch z
theorem boxD_eqv (a b : Box) : PyData.eqv (boxD a) (boxD b) = decide (a = b) := by
  unfold boxD
  simp only [PyData.eqv, PyData.eqvAll, Bool.and_true]
  obtain ⟨a1, a2⟩ := a
  obtain ⟨b1, b2⟩ := b
  rw [Bool.eq_iff_iff]
  simp [Prod.mk.injEq]
theorem boxL_eqv (bs : List Box) : PyData.eqv (.list (bs.map boxD)) (.list []) = bs.isEmpty := by
  cases bs <;> simp [PyData.eqv, PyData.eqvAll]
section
variable {K : PySem.W.Frag} {a : Addr} {xs : List V} {bs : List Box} {m : Box → Bool} {g : TG} {tt : TT} {te : TE} {vs : List Nat} {σ : L2.St} {H1 : Hp} {D : Addr} {Qd : Hp → Prop}
theorem lc_boxes {G : Hp} (sG : Same G H1) (hs : SqL K H1 a xs) (ha : DpAll K G xs (bs.map boxD)) (len : bs.length ≤ 1000) (nD : H1 D = none)
    (turn : ∀ x b H (R : L2.St → Bool → Hp → Prop), b ∈ bs → Dp K G x (boxD b) → Same H1 H → (∀ σ2 H', Same H H' → (∀ Q' : VK, Q' x H' → te σ2 H' Q') → R σ2 (m b) H') → g x (wipe σ vs) H fun σ2 H2 => wipe σ2 vs = wipe σ vs ∧ tt σ2 H2 (R σ2))
    (fin : ∀ H' ys, Same H1 H' → H' D = some (.lst ys) → DpAll K G ys ((bs.filter m).map boxD) → Qd H') :
    ∃ W : Nat → Nat → Hp → Prop, (∃ m, W 0 m (upd H1 D (.lst []))) ∧ ∀ i m H, W i m H →
      ((Itl K a).stop i H ∧ Qd H) ∨ ((Itl K a).go i H ∧ ∃ Nx : Hp → Prop, (∀ H', Nx H' → ∃ m', m' < m ∧ W (i + 1) m' H') ∧ ∀ x H', (Itl K a).yld i H x H' → g x (wipe σ vs) H' fun σ2 H2 => wipe σ2 vs = wipe σ vs ∧ tt σ2 H2 fun b H3 =>
        if b = true then te σ2 H3 fun y H4 => ∃ acc, H4 D = some (.lst acc) ∧ acc.length < sizeLine ∧ Nx (upd H4 D (.lst (acc ++ [y]))) else Nx H3) := by
  have hl : xs.length = bs.length := by rw [dpAll_len ha, List.length_map]
  refine lc_it (walk_list (a := a) (xs := xs) (K := K)) (fun i H => Same H1 H ∧ ∃ ys, H D = some (.lst ys) ∧ ys.length ≤ i ∧ DpAll K G ys (((bs.take i).filter m).map boxD)) ⟨same_new nD, [], upd_same, Nat.zero_le _, .nil⟩ (fun i H _ h => h.1.seq hs) (fun i x H H' hi h y => ?_) (fun H h => ?_)
  · obtain ⟨rfl, ex⟩ := y
    obtain ⟨s1, ys, hD, hy1, hy2⟩ := h
    obtain ⟨d, hd1, hd2⟩ := dpAll_get ha ex
    rw [List.getElem?_map] at hd1
    obtain ⟨b, hb1, rfl⟩ := Option.map_eq_some_iff.mp hd1
    have tk : bs.take (i + 1) = bs.take i ++ [b] := by rw [List.take_succ, hb1]; rfl
    refine turn x b H' (fun σ2 k H3 => if k = true then te σ2 H3 fun y H4 => ∃ acc, H4 D = some (.lst acc) ∧ acc.length < sizeLine ∧ (Same H1 (upd H4 D (.lst (acc ++ [y]))) ∧ ∃ ys, (upd H4 D (.lst (acc ++ [y]))) D = some (.lst ys) ∧ ys.length ≤ i + 1 ∧ DpAll K G ys (((bs.take (i + 1)).filter m).map boxD))
      else Same H1 H3 ∧ ∃ ys, H3 D = some (.lst ys) ∧ ys.length ≤ i + 1 ∧ DpAll K G ys (((bs.take (i + 1)).filter m).map boxD)) (List.mem_of_getElem? hb1) hd2 s1 (fun σ2 H5 s t => ?_)
    refine ite2 (fun e1 => ?_) (fun e1 => ?_)
    · refine t _ ⟨ys, s _ _ hD, LC.small_line (by omega), same_put (s1.trans s) nD, ys ++ [x], upd_same, by rw [List.length_append]; exact Nat.succ_le_succ hy1, ?_⟩
      rw [tk, List.filter_append, List.filter_cons_of_pos (p := m) e1, List.filter_nil, List.map_append]
      exact dpAll_app hy2 (.cons hd2 .nil)
    · refine ⟨s1.trans s, ys, s _ _ hD, by omega, ?_⟩
      rw [tk, List.filter_append, List.filter_cons_of_neg (p := m) e1, List.filter_nil, List.append_nil]
      exact hy2
  · obtain ⟨s1, ys, hD, _, hy2⟩ := h
    rw [hl, List.take_length] at hy2
    exact fin H ys s1 hD hy2
end
theorem new_tup {K : PySem.W.Frag} {p t : Addr} {H G : Hp} {vs : List V} {ds : List PyData} (pl : Pool G p) (nt : G t = none) (s : Same (off p H) (off p G)) (hd : DpAll K (off p G) vs ds) :
    Pool (upd G t (.tup vs)) p ∧ Same (off p H) (off p (upd G t (.tup vs))) ∧ Dp K (off p (upd G t (.tup vs))) (.ref t) (.tuple ds) := by
  have ne := pool_ne pl nt
  have s2 : Same (off p G) (off p (upd G t (.tup vs))) := off_mono (same_new nt)
  refine ⟨pool_put pl ne, s.trans s2, .tup (SqT.of ?_) (dpAll_same s2 _ _ hd)⟩
  rw [off_put ne]
  exact upd_same
section
variable {P : Program} {w : World} {K : PySem.W.Frag} {mg : Str → Option Value} {base : Heap}
def spSrc (K : PySem.W.Frag) : Sp := fun vs H Q _ => ∃ (p l : Addr) (v : V) (ws : List V) (bs : List Box) (b : Box), vs = [.ref p, .ref l, v] ∧ Pool H p ∧ SqL K (off p H) l ws ∧ DpAll K (off p H) ws (bs.map boxD) ∧ Draw bs ∧ b ∈ bs ∧ Dp K (off p H) v (boxD b) ∧
  ∀ (H' : Hp) (u : V) (s : Src), Pool H' p → Same (off p H) (off p H') → Dp K (off p H') u s.data → SrcOk bs b.1 b.2 s → Q u H'
set_option maxHeartbeats 8000000 in
theorem ok_src {f : Addr} {fd : FuncData} {k : Nat} (F : Fun K "_law_source" "_law_source" s_law_source f fd) (T : Def P w K mg base CX0 (k + 1) "_law_take" ["_law_pool_here", "_law_many"] spTake) (ml : mg "len" = none) :
    FnOk P w K mg base CX0 (k + 1 + 1) f fd ["_law_pool_here", "_law_boxes", "_law_box"] (spSrc K) := by
  refine F.ok scSrc (fun vs H Q E h => ?_) (fun cdv A outer s H vs Q E hr h => ?_)
  · obtain ⟨p, l, v, ws, bs, b, rfl, _⟩ := h
    rfl
  obtain ⟨p, l, v, ws, bs, b, rfl, pl, hl, hws, ok, hb, hv, q⟩ := h
  have nd := scSrc.nd
  refine ⟨_, pss_cons (ps_set (i := 3) nd rfl (.inl rfl) (pe_call T.ok hr (by rfl) T.g T.kp T.b .nil pass0 (pa_cons (pv 0) (pa_cons pe_int pa_nil))))
    (pss_cons (ps_setLc (i := 4) (own := [("_law_other", 5)]) (g := gName 5) (by rfl) nd rfl rfl (sw_true rfl rfl rfl (by decide +kernel)) (pi_list (pv 1))
        (blkOk_by (N := nSrc) (sc := defScope s_law_source) (by decide +kernel)) (fun _ _ _ _ _ => pg_name (i := 5) nd rfl (.inl rfl))
        (fun _ _ _ _ _ => pts_one (PW.pt (pw_and (pt_cmpR op_le (pe_ix (r := rIxT K) ix_tup (pv 5) pe_int (fun _ _ => rfl)) (pe_ix (r := rIxT K) ix_tup (pv 2) pe_int (fun _ _ => rfl)) (nomark _)) (pw_and1 (pt_cmpR (r := rNeD K) (op_neD hr.units) (pv 5) (pv 2) (nomark _))))))
        (fun _ _ _ _ _ => pv 5))
    (pss_cons (ps_if (PW.pt (pw_and (pt_cmpR op_eq (pv 3) pe_int (nomark _)) (pw_and1 (pt_cmpR (op_neD hr.units) (pv 4) (pe_lst pa_nil) (nomark _)))))
      (pss_one (ps_ret (pe_tup (pa_cons pe_str (pa_cons (pe_ix ix_tup (pe_ix ix_list (pv 4) (pe_call T.ok hr (by rfl) T.g T.kp T.b .nil pass0 (pa_cons (pv 0) (pa_cons (pe_callB call_len_seq (by rfl) ml PySem.boot_len (pa_cons (pv 4) pa_nil)) pa_nil))) (fun _ _ => rfl)) pe_int (fun _ _ => rfl)) pa_nil))))) pss_nil)
    (pss_cons (ps_if (pt_cmpR op_eq (pv 3) pe_int (nomark _)) (pss_one (ps_ret (pe_tup (pa_cons pe_str pa_nil)))) pss_nil)
    (pss_cons (ps_if (pt_cmpR op_eq (pv 3) pe_int (nomark _)) (pss_one (ps_ret (pe_tup (pa_cons pe_str (pa_cons (pe_op op_add pe_int (pe_call T.ok hr (by rfl) T.g T.kp T.b .nil pass0 (pa_cons (pv 0) (pa_cons pe_int pa_nil)))) pa_nil))))) pss_nil)
    (pss_one (ps_ret (pe_tup (pa_cons pe_str (pa_cons (pe_call T.ok hr (by rfl) T.g T.kp T.b .nil pass0 (pa_cons (pv 0) (pa_cons (pe_ix ix_tup (pv 2) pe_int (fun _ _ => rfl)) pa_nil))) pa_nil))))))))), ?_⟩
  refine ⟨_, rfl, p, 5, rfl, pl, by decide, by decide, fun H1 r pl1 o1 r0 r1 => ?_⟩
  have hl1 : SqL K (off p H1) l ws := o1 ▸ hl
  have hws1 : DpAll K (off p H1) ws (bs.map boxD) := o1 ▸ hws
  have hv1 : Dp K (off p H1) v (boxD b) := o1 ▸ hv
  obtain ⟨ca, x1, x2, rfl, hc, d1, d2⟩ := dp2 hv1
  cases dp_str d1
  cases dp_int d2
  refine ⟨_, rfl, l, rfl, ⟨_, off_sub.seq hl1⟩, fun D nD => ?_⟩
  refine lc_boxes (m := fun c => decide (c.2 ≤ b.2) && !decide (c = b)) (G := off p H1) off_sub (off_sub.seq hl1) hws1 (Nat.le_trans ok.few (by decide)) nD (fun x c H2 R mc hx s2 fin => ⟨rfl, ?_⟩) (fun H2 ys s2 hD hy => ?_)
  · have hx2 := dp_same (off_sub.trans s2) _ _ hx
    have hv2 := dp_same (off_sub.trans s2) _ _ hv1
    obtain ⟨cx, z1, z2, rfl, hcx, e1, e2⟩ := dp2 hx2
    cases dp_str e1
    cases dp_int e2
    refine ⟨_, rfl, cx, _, 1, _, rfl, rfl, hcx, atI_nat (j := 1) rfl, _, rfl, ca, _, 1, _, rfl, rfl, same_tup (off_sub.trans s2) hc, atI_nat (j := 1) rfl, _, _, rfl, rfl, _, rfl, ite2 (fun e => ?_) (fun e => ?_)⟩
    · refine ⟨_, rfl, _, rfl, _, _, hx2, hv2, boxD_shaped (ok.lay c mc), boxD_shaped (ok.lay b hb), _, rfl, ?_⟩
      have e2 : (decide (c.2 ≤ b.2) && !decide (c = b)) = !PyData.eqv (boxD c) (boxD b) := by
        rw [boxD_eqv]
        show (decide (c.2 ≤ b.2) && !decide (c = b)) = !decide (c = b)
        rw [e]
        rfl
      have z := fin [some (.ref p), some (.ref l), some (.ref ca), some (.int r), none, some (.ref cx)] H2 (Same.refl H2) fun Q' h => ⟨_, rfl, h⟩
      rw [e2] at z
      exact z
    · have e2 : (decide (c.2 ≤ b.2) && !decide (c = b)) = false := by
        show (decide (c.2 ≤ b.2) && !decide (c = b)) = false
        rw [Bool.eq_false_iff.mpr e]
        rfl
      have z := fin [some (.ref p), some (.ref l), some (.ref ca), some (.int r), none, some (.ref cx)] H2 (Same.refl H2) fun Q' h => ⟨_, rfl, h⟩
      rw [e2] at z
      exact z
  have pl2 := pool_same pl1 s2
  have sb : Same (off p H) (off p H2) := by
    rw [← o1]
    exact off_mono s2
  have nDp : D ≠ p := pool_ne pl1 nD
  have s12 : Same (off p H1) (off p H2) := off_mono s2
  have hD2 : off p H2 D = some (.lst ys) := by
    rw [off_ne nDp]
    exact hD
  have hy2 := dpAll_same s12 _ _ hy
  have hc2 := same_tup s12 hc
  have yl : ys.length = (bs.filter fun c => decide (c.2 ≤ b.2) && !decide (c = b)).length := by rw [dpAll_len hy, List.length_map]
  have bsz := ok.sz b hb
  -- the rest
  have rest : ∀ G : Hp, Same H2 G → (tSeq (tIfS (tTest (tOp rEq (tVar 3) (tC (.int 1)))) (tRet (tTup (tCons (tC (.str "any")) tNil))) tNext)
      (tSeq (tIfS (tTest (tOp rEq (tVar 3) (tC (.int 2)))) (tRet (tTup (tCons (tC (.str "on")) (tCons (tOp (rI0 fun i j => .int (i + j)) (tC (.int 1)) (tCall spTake [] E0 (tCons (tVar 0) (tCons (tC (.int 3)) tNil)))) tNil)))) tNext)
      (tRet (tTup (tCons (tC (.str "to")) (tCons (tCall spTake [] E0 (tCons (tVar 0) (tCons (tOp (rIxT K) (tVar 2) (tC (.int 1))) tNil))) tNil))))))
      { nx := fun _ H' => Q .non H', rt := Q } [some (.ref p), some (.ref l), some (.ref ca), some (.int r), some (.ref D), none] G := by
    intro G sG
    have plG := pool_same pl2 sG
    have sbG : Same (off p H) (off p G) := sb.trans (off_mono sG)
    have hcG := same_tup (off_mono (p := p) sG) hc2
    refine ⟨_, rfl, rfl, _, rfl, ite2 (fun e => ?_) (fun e => ?_)⟩
    · refine ⟨by show 1 ≤ sizeLine; decide, fun t nt => ?_⟩
      obtain ⟨a1, a2, a3⟩ := new_tup (ds := [.str "any"]) plG nt sbG (.cons (.str _) .nil)
      exact q _ _ .any a1 a2 a3 trivial
    · refine ⟨_, rfl, rfl, _, rfl, ite2 (fun e => ?_) (fun e => ?_)⟩
      · refine ⟨_, rfl, p, 3, rfl, plG, by decide, by decide, fun H3 r3 pl3 o3 h0 h1 => ⟨_, _, rfl, rfl, by show 2 ≤ sizeLine; decide, fun t nt => ?_⟩⟩
        obtain ⟨a1, a2, a3⟩ := new_tup (ds := [.str "on", .int (1 + r3)]) (H := H) pl3 nt (by rw [o3]; exact sbG) (.cons (.str _) (.cons (.int _) .nil))
        exact q _ _ (.on (1 + r3)) a1 a2 a3 ⟨by omega, by omega⟩
      · refine ⟨_, rfl, _, rfl, ca, _, 1, _, rfl, rfl, same_tup off_sub hcG, atI_nat (j := 1) rfl, p, b.2, rfl, plG, by omega, by omega, fun H3 r3 pl3 o3 h0 h1 => ⟨by show 2 ≤ sizeLine; decide, fun t nt => ?_⟩⟩
        obtain ⟨a1, a2, a3⟩ := new_tup (ds := [.str "to", .int r3]) (H := H) pl3 nt (by rw [o3]; exact sbG) (.cons (.str _) (.cons (.int _) .nil))
        exact q _ _ (.to r3) a1 a2 a3 ⟨h0, h1⟩
  refine ⟨_, rfl, rfl, _, rfl, ite2 (fun e => ?_) (fun e => rest H2 (Same.refl H2))⟩
  refine ⟨_, rfl, Nat.zero_le _, fun e0 n0 => ?_⟩
  have s3 : Same H2 (upd H2 e0 (.lst [])) := same_new n0
  refine ⟨_, _, .lst (SqL.of (s3 _ _ hD)) (dpAll_same (off_sub.trans s3) _ _ hy2), .lst (SqL.of upd_same) .nil, boxL_shaped (fun c hc => ok.lay c (List.mem_filter.mp hc).1), nilL_shaped, _, rfl, ?_⟩
  rw [boxL_eqv]
  refine ite2 (fun e2 => ?_) (fun e2 => rest _ s3)
  have pl3 := pool_same pl2 s3
  have s23 : Same (off p H2) (off p (upd H2 e0 (.lst []))) := off_mono s3
  have hD3 := s23 _ _ hD2
  have hy3 := dpAll_same s23 _ _ hy2
  have sb3 := sb.trans s23
  generalize upd H2 e0 (.lst []) = H3 at pl3 s23 hD3 hy3 sb3 ⊢
  have yl0 : 0 < ys.length := by
    rw [yl]
    refine List.length_pos_iff.mpr fun z => ?_
    rw [z] at e2
    cases e2
  have yl1 : ys.length ≤ 100 := by
    rw [yl]
    exact Nat.le_trans (List.length_filter_le _ _) ok.few
  refine ⟨_, rfl, _, rfl, _, rfl, D, _, rfl, .inl (SqL.of (off_sub _ _ hD3)), p, _, rfl, pl3, by omega, by omega, fun H4 r4 pl4 o4 h0 h1 => ?_⟩
  have hD4 : off p H4 D = some (.lst ys) := by
    rw [o4]
    exact hD3
  have hi : r4.toNat < ys.length := by omega
  have hg : ys[r4.toNat]? = some ys[r4.toNat] := List.getElem?_eq_getElem hi
  obtain ⟨d, hd1, hd2⟩ := dpAll_get hy3 hg
  rw [List.getElem?_map] at hd1
  obtain ⟨c, hc1, rfl⟩ := Option.map_eq_some_iff.mp hd1
  have mc := List.mem_filter.mp (List.mem_of_getElem? hc1)
  rw [← o4] at hd2
  have hat : atI ys r4 = some ys[r4.toNat] := by
    have z := atI_nat hg
    rwa [Int.toNat_of_nonneg h0] at z
  generalize ys[r4.toNat] = y at hd2 hat
  obtain ⟨cy, z1, z2, rfl, hcy, f1, f2⟩ := dp2 hd2
  cases dp_str f1
  refine ⟨D, _, r4, _, rfl, rfl, SqL.of (off_sub _ _ hD4), hat, cy, _, 0, _, rfl, rfl, same_tup off_sub hcy, atI_nat (j := 0) rfl, by show 2 ≤ sizeLine; decide, fun t nt => ?_⟩
  obtain ⟨a1, a2, a3⟩ := new_tup (ds := [.str "of", .str c.1]) (H := H) pl4 nt (by rw [o4]; exact sb3) (.cons (.str _) (.cons (.str _) .nil))
  obtain ⟨m1, m2⟩ := Bool.and_eq_true_iff.mp mc.2
  refine q _ _ (.of c.1) a1 a2 a3 ⟨fun en => ?_, c.2, size_mem ok.nd mc.1, of_decide_eq_true m1⟩
  have z1 := size_mem ok.nd mc.1
  have z2 := size_mem ok.nd hb
  rw [en, z2] at z1
  have z3 : c = b := Prod.ext en (Option.some.inj z1).symm
  rw [z3, decide_eq_true rfl] at m2
  cases m2
end
end PP

set_option maxHeartbeats 4000000
/-! set(xs), xs a list of ints, as a value; sorted of it -/
namespace SL
open PySem PySem.Spec PyProof.Rows L2
/-- the set as it is born -/
abbrev born (w : World) : Obj := { cls := .type "set", dict := none, data := .set #[] 0 (.fresh 0 0 (!w.params.followText "set-order")) }
section
variable {P : Program} {w : World} {A : Around} {E : Value → Shared → Prop} {s : Shared}
theorem val_of {its : Array Value} {ns : List Int} (hi : IntsAre its.toList ns) (z : its.size = ns.length) : ∀ (i : Nat) (v : Value), its[i]? = some v → ∃ k t, ns[i]? = some k ∧ v = .int k t := fun i v e => by
  have lt : i < ns.length := z ▸ (Array.getElem?_eq_some_iff.mp e).1
  obtain ⟨t, q⟩ := PyProof.Rows.IntsAre.int_at hi i v (by rw [Array.getElem?_toList]; exact e)
  refine ⟨ns[i], t, List.getElem?_eq_getElem lt, ?_⟩
  rw [q, List.getD_eq_getElem?_getD, List.getElem?_eq_getElem lt] <;> rfl
/-- what stands once the set is filled -/
def Filled (w : World) (s : Shared) (ns : List Int) (s2 : Shared) : Prop := ∃ h' tk c, s2 = { s with heap := h', toks := tk } ∧ SetR w h' s.heap.objs.size (fun j => decide (j ∈ ns)) c ∧ c ≤ ns.length ∧ ∀ b o, s.heap.get? b = some o → h'.get? b = some o
set_option maxHeartbeats 8000000 in
theorem call_set_listI {l : Addr} {its : Array Value} (ns : List Int) {Q : Value → Shared → Prop} (hh : A.handled = none) (hl : s.heap.IsList l its) (hi : IntsAre its.toList ns) (few : ns.length + 1 < scanBound) (h : ∀ s2, Filled w s ns s2 → Q (.ref s.heap.objs.size) s2) :
    wpAny (model P w) A (call (.type "set") [.ref l]) Q E s := by
  have z : its.size = ns.length := by
    have q := IntsAre.length hi
    rwa [Array.length_toList] at q
  obtain ⟨c, tl, hmro⟩ := F.called_set.mro
  have hmade := F.called_set.made
  have hsub := F.called_set.sub
  refine wpAny_call (codeAny_of_tree ?_)
  show wpAny _ _ (callAny (.type "set") _) _ _ _
  refine wpAny_pure ⟨Code.quiet_builtin _ (by decide +kernel), codeAny_builtin F.entry_type_call ?_⟩
  rw [Around.under_plain (weight_type_call_type "set" [.ref l] []) rfl]
  have h1 := F.called_set.notType
  have h2 := F.called_set.canCreate
  have hct := F.typeCall_set_1 (.ref l)
  repeat (any_goals (first | assumption | wp_step))
  refine codeAny_mono (code_set_led1 (.ref l) (E := E) (Q₁ := fun obj s₁ => obj = .ref s.heap.objs.size ∧ s₁ = { s with heap := s.heap.push (born w) }) ⟨rfl, rfl⟩) fun r s₁ hr => ?_
  cases r with
  | error e => exact hr
  | ok fl =>
    cases fl with
    | ret obj =>
      obtain ⟨rfl, rfl⟩ := hr
      have new : (s.heap.push (born w)).get? s.heap.objs.size = some (born w) := Heap.get?_push_size _ rfl
      have hT : Shared.TypeIs { s with heap := s.heap.push (born w) } (.ref s.heap.objs.size) "set" := ⟨_, new, rfl⟩
      have hli := F.called_set.init.lookup
      have hbi := F.called_set.init.bind (.ref s.heap.objs.size)
      repeat (any_goals (first | assumption | wp_step))
      refine codeAny_mono (codeAny_call_builtin (R := wants (fun r s₂ => r = .none ∧ Filled w s ns s₂) E) F.called_set.init.plain F.entry_set_init (check_set_init_1 hT ?_)) fun r₂ s₂ hr₂ => ?_
      · obtain ⟨⟨ocls, odict, odata, oslots⟩, hol, hcl, nl, hdl⟩ := hl
        simp only at hcl hdl
        subst hcl; subst hdl
        have lt : l < s.heap.objs.size := Heap.lt_size hol
        have hol' : (s.heap.push (born w)).get? l = some { cls := .type "list", dict := odict, data := .seq its nl, slots := oslots } := Heap.get?_push_of_some _ hol
        have hsls := F.sub_list_set
        have hslf := F.sub_list_frozenset
        have hne : (Value.type "list" == Value.type "dict") = false := by decide
        have hl1 : (s.heap.push (born w)).IsList l its := ⟨_, hol', rfl, nl, rfl⟩
        unfold Builtin.«set.__init__» noKeywords Builtin.Frozenset.updateFrom
        generalize hPI : pyIter = PI
        wp_walk
        subst hPI
        refine wpAny_pyIter_list hl1 ?_
        refine wpAny_bind (wpAny_runValue ?_)
        have hh3 : A.in1.in1.in1.handled = none := by simp [hh]
        have hz : (s.heap.push (born w)).objs.size = s.heap.objs.size + 1 := Heap.size_push ..
        have hneI : l ≠ (s.heap.push (born w)).objs.size := by rw [hz]; exact Nat.ne_of_lt (Nat.lt_succ_of_lt lt)
        have out : s.heap.objs.size ∉ [(s.heap.push (born w)).objs.size, l] := by
          rw [hz]
          simp only [List.mem_cons, List.mem_singleton, List.not_mem_nil, or_false, not_or]
          exact ⟨Nat.ne_of_lt (Nat.lt_succ_self _), Nat.ne_of_gt lt⟩
        refine set_update_ints ((Walks.list hh3 _ l hneI its).toS) s.heap.objs.size out ns z few (val_of hi z) (its.size - 0) 0 _ (by omega) (Nat.zero_le _) ⟨⟨_, Heap.get?_push_size _ rfl, rfl, rfl⟩, (hl1.push _)⟩
          ⟨0, Nat.le_refl 0, setR_new_at (Heap.get?_push_of_some _ new)⟩ fun s' c' hm hc' hS' => ?_
        obtain ⟨h', g2, d', tk', os'⟩ := s'
        obtain rfl : g2 = s.gens := hm.gens
        obtain rfl : d' = s.drawn := hm.drawn
        obtain rfl : os' = s.os := hm.os
        show wpAny _ _ _ _ _ _
        refine wpAny_pure ?_
        show wpAny _ _ (ret Value.none) _ _ _
        refine wpAny_pure ⟨rfl, h', tk', c', rfl, hS', z ▸ hc', fun b o e => ?_⟩
        have hb0 : b < s.heap.objs.size := Heap.lt_size e
        refine hm.heap b o ?_ (Heap.get?_push_of_some _ (Heap.get?_push_of_some _ e))
        rw [hz]
        simp only [List.mem_cons, List.mem_singleton, List.not_mem_nil, or_false, not_or]
        exact ⟨Nat.ne_of_lt hb0, Nat.ne_of_lt (Nat.lt_succ_of_lt hb0)⟩
      · cases r₂ with
        | error e => exact hr₂
        | ok fl₂ =>
          cases fl₂ with
          | ret r =>
            obtain ⟨rfl, hF⟩ := hr₂
            repeat (any_goals (first | assumption | wp_step))
            exact h _ hF
          | _ => exact hr₂.elim
    | _ => exact hr.elim
end
section
variable {X : Cx}
def rSetL (K : PySem.W.Frag) (w : World) : List V → Hp → VK → Prop := fun vs H Q => ∃ (t : Addr) (ns : List Int), vs = [.ref t] ∧ SqL K H t (ns.map V.int) ∧ ns.length < 60 ∧
  ∀ a c, H a = none → c ≤ ns.length → Q (.ref a) (upd H a (SetO w a (fun j => decide (j ∈ ns)) c))
theorem cr_setL (calm : X.calm = true) : CallR X (.type "set") (rSetL X.K X.w) := by
  intro pins s σ H vs us Q I r ⟨t, ns, e, ht, few, q⟩
  subst e
  rw [Vals.ref1 r]
  obtain ⟨its, rv, pl, hz⟩ := I.list ht
  refine call_set_listI ns (I.ok.hd calm) pl.isList (by simpa using ints_of_vals rv) (by unfold scanBound; omega) fun s2 ⟨h1, tk, c, e, R, le, old⟩ => ?_
  subst e
  exact ⟨.ref s.heap.objs.size, _, I.laid (t' := tk) old (Nat.le_refl _) (setO_new R), rfl, q _ c (I.hok.fresh (Nat.le_refl _)) le⟩
end
end SL

set_option maxHeartbeats 4000000
namespace PP
open PySem PySem.Spec PyProof.Rows L2 G3 M0 PA
abbrev nRow : List Str := ["_law_pool_here", "_law_boxes", "_law_many", "_law_titles", "_law_others", "_law_way", "_law_box"]
theorem scRow : FnScope nRow ["_law_pool_here", "_law_boxes", "_law_many", "_law_titles", "_law_others"] (defScope s_law_row) := ⟨rfl, rfl, rfl, by decide +kernel, rfl, by decide +kernel, by decide +kernel⟩
theorem strL_shaped {zs : List Str} (h : ∀ z ∈ zs, PyData.strOk z = true) : SeqAt.shaped (.list (zs.map PyData.str)) = true := by
  unfold SeqAt.shaped
  have e1 : (PyData.list (zs.map PyData.str)).canLay0 = true := by
    simp only [PyData.canLay0]
    exact lay_all fun x hx => by
      obtain ⟨b, hb, rfl⟩ := List.mem_map.mp hx
      simp only [PyData.canLay0]
      exact h b hb
  have e2 : (PyData.list (zs.map PyData.str)).depth ≤ 64 := Nat.le_trans (G4.depth_list (k := 0) fun x hx => by
    obtain ⟨b, hb, rfl⟩ := List.mem_map.mp hx
    simp only [PyData.depth]
    exact Nat.le_refl _) (by decide)
  rw [e1, decide_eq_true e2]
  rfl
theorem strL_eqv (zs : List Str) : PyData.eqv (.list (zs.map PyData.str)) (.list []) = zs.isEmpty := by
  cases zs <;> simp [PyData.eqv, PyData.eqvAll]
theorem strL_dp {K : PySem.W.Frag} {H : Hp} : ∀ zs : List Str, DpAll K H (zs.map V.str) (zs.map PyData.str)
  | [] => .nil
  | z :: zs => .cons (.str z) (strL_dp zs)
theorem intL_dp {K : PySem.W.Frag} {H : Hp} : ∀ zs : List Int, DpAll K H (zs.map V.int) (zs.map PyData.int)
  | [] => .nil
  | z :: zs => .cons (.int z) (intL_dp zs)
theorem rising_of {a : Int} : ∀ {ns : List Int}, ns.Pairwise (· < ·) → (∀ n ∈ ns, a < n) → Rising a ns
  | [], _, _ => trivial
  | n :: ns, h, ha => by
    obtain ⟨h1, h2⟩ := List.pairwise_cons.mp h
    exact ⟨ha n List.mem_cons_self, rising_of h2 h1⟩
theorem and_if {T : Hp → Prop} {H : Hp} {b : Bool} {X : Prop} (rest : ∀ G, Same H G → T G) (yes : b = true → (∀ G, Same H G → T G) → X) : if b = true then X else T H := by
  split
  · exact yes ‹_› rest
  · exact rest H (Same.refl H)
theorem lz1 : 1 ≤ sizeLine := by decide
theorem lz2 : 2 ≤ sizeLine := by decide
theorem lz3 : 3 ≤ sizeLine := by decide
theorem lz4 : 4 ≤ sizeLine := by decide
/-- a word drawn from a list -/
theorem pick {zs : List Str} {i : Int} (h0 : 0 ≤ i) (h1 : i < zs.length) : ∃ z ∈ zs, atI (zs.map V.str) i = some (.str z) := by
  have hi : i.toNat < zs.length := by omega
  refine ⟨zs[i.toNat], List.getElem_mem hi, ?_⟩
  have z := atI_nat (xs := zs.map V.str) (j := i.toNat) (v := .str zs[i.toNat]) (by rw [List.getElem?_map, List.getElem?_eq_getElem hi]; rfl)
  rwa [Int.toNat_of_nonneg h0] at z
section
variable {P : Program} {w : World} {K : PySem.W.Frag} {mg : Str → Option Value} {base : Heap}
structure Words (zs : List Str) : Prop where
  few : zs.length ≤ 100
  lay : ∀ z ∈ zs, PyData.strOk z = true
def spRow (K : PySem.W.Frag) : Sp := fun vs H Q _ => ∃ (p l tl ol : Addr) (ws : List V) (bs : List Box) (m : Int) (ts os : List Str), vs = [.ref p, .ref l, .int m, .ref tl, .ref ol] ∧ Pool H p ∧ SqL K (off p H) l ws ∧ DpAll K (off p H) ws (bs.map boxD) ∧ Draw bs ∧
  1 ≤ m ∧ m ≤ 1000 ∧ SqL K (off p H) tl (ts.map V.str) ∧ SqL K (off p H) ol (os.map V.str) ∧ Words ts ∧ Words os ∧
  ∀ (H' : Hp) (u : V) (r : PA.Row), Pool H' p → Same (off p H) (off p H') → Dp K (off p H') u r.data → RowOk bs ts os m r → Q u H'
set_option maxHeartbeats 8000000 in
theorem ok_row {f : Addr} {fd : FuncData} {k : Nat} (F : Fun K "_law_row" "_law_row" s_law_row f fd) (T : Def P w K mg base CX0 (k + 1) "_law_take" ["_law_pool_here", "_law_many"] spTake) (S : Def P w K mg base CX0 (k + 1) "_law_source" ["_law_pool_here", "_law_boxes", "_law_box"] (spSrc K))
    (ml : mg "len" = none) (mt : mg "tuple" = none) (mso : mg "sorted" = none) (mse : mg "set" = none) (mi : mg "int" = none) :
    FnOk P w K mg base CX0 (k + 1 + 1) f fd ["_law_pool_here", "_law_boxes", "_law_many", "_law_titles", "_law_others"] (spRow K) := by
  refine F.ok scRow (fun vs H Q E h => ?_) (fun cdv A outer s H vs Q E hr h => ?_)
  · obtain ⟨p, l, tl, ol, ws, bs, m, ts, os, rfl, _⟩ := h
    rfl
  obtain ⟨p, l, tl, ol, ws, bs, m, ts, os, rfl, pl, hl, hws, ok, m1, m2, htl, hol, wt, wo, q⟩ := h
  have nd := scRow.nd
  refine ⟨_, pss_cons (ps_set (i := 5) nd rfl (.inl rfl) (pe_call T.ok hr (by rfl) T.g T.kp T.b .nil pass0 (pa_cons (pv 0) (pa_cons pe_int pa_nil))))
    (pss_cons (ps_set (i := 6) nd rfl (.inl rfl) (pe_ix ix_list (pv 1) (pe_call T.ok hr (by rfl) T.g T.kp T.b .nil pass0 (pa_cons (pv 0) (pa_cons (pe_callB call_len_seq (by rfl) ml PySem.boot_len (pa_cons (pv 1) pa_nil)) pa_nil))) (fun _ _ => rfl)))
    (pss_cons (ps_if (pt_cmpR op_lt (pv 5) pe_int (nomark _)) (pss_one (ps_ret (pe_tup (pa_cons pe_str (pa_cons (pe_ix ix_tup (pv 6) pe_int (fun _ _ => rfl)) (pa_cons (pe_call S.ok hr (by rfl) S.g S.kp S.b .nil pass0 (pa_cons (pv 0) (pa_cons (pv 1) (pa_cons (pv 6) pa_nil)))) pa_nil)))))) pss_nil)
    (pss_cons (ps_if (pt_cmpR op_lt (pv 5) pe_int (nomark _)) (pss_one (ps_ret (pe_tup (pa_cons pe_str (pa_cons (pe_ix ix_tup (pv 6) pe_int (fun _ _ => rfl)) (pa_cons (pe_call T.ok hr (by rfl) T.g T.kp T.b .nil pass0 (pa_cons (pv 0) (pa_cons (pe_ix ix_tup (pv 6) pe_int (fun _ _ => rfl)) pa_nil))) (pa_cons (pe_call T.ok hr (by rfl) T.g T.kp T.b .nil pass0 (pa_cons (pv 0) (pa_cons (pe_op op_add (pv 2) pe_int) pa_nil))) pa_nil))))))) pss_nil)
    (pss_cons (ps_if (pt_cmpR op_eq (pv 5) pe_int (nomark _)) (pss_one (ps_ret (pe_tup (pa_cons pe_str (pa_cons (pe_ix ix_tup (pv 6) pe_int (fun _ _ => rfl)) (pa_cons (pe_call T.ok hr (by rfl) T.g T.kp T.b .nil pass0 (pa_cons (pv 0) (pa_cons (pe_ix ix_tup (pv 6) pe_int (fun _ _ => rfl)) pa_nil))) pa_nil)))))) pss_nil)
    (pss_cons (ps_if (pt_cmpR op_eq (pv 5) pe_int (nomark _)) (pss_one (ps_ret (pe_tup (pa_cons pe_str (pa_cons (pe_callTy call_tuple_of (by rfl) mt (by decide +kernel) (pa_cons (pe_callB (cr_sortedSet rfl) (by rfl) mso (by decide +kernel) (pa_cons (pe_callTy (SL.cr_setL rfl) (by rfl) mse (by decide +kernel) (pa_cons (pe_lst
        (pa_cons (pe_call T.ok hr (by rfl) T.g T.kp T.b .nil pass0 (pa_cons (pv 0) (pa_cons (pe_op op_add (pv 2) pe_int) pa_nil))) (pa_cons (pe_call T.ok hr (by rfl) T.g T.kp T.b .nil pass0 (pa_cons (pv 0) (pa_cons (pe_op op_add (pv 2) pe_int) pa_nil))) pa_nil))) pa_nil)) pa_nil)) pa_nil)) pa_nil))))) pss_nil)
    (pss_cons (ps_if (PW.pt (pw_and (pt_cmpR op_lt (pv 5) pe_int (nomark _)) (pw_and1 (pt_cmpR (op_neD hr.units) (pv 3) (pe_lst pa_nil) (nomark _))))) (pss_one (ps_ret (pe_tup (pa_cons pe_str (pa_cons (pe_ix ix_list (pv 3) (pe_call T.ok hr (by rfl) T.g T.kp T.b .nil pass0 (pa_cons (pv 0) (pa_cons (pe_callB call_len_seq (by rfl) ml PySem.boot_len (pa_cons (pv 3) pa_nil)) pa_nil))) (fun _ _ => rfl)) pa_nil))))) pss_nil)
    (pss_cons (ps_if (PW.pt (pw_and (pt_cmpR op_eq (pv 5) pe_int (nomark _)) (pw_and1 (pt_cmpR (op_neD hr.units) (pv 4) (pe_lst pa_nil) (nomark _))))) (pss_one (ps_ret (pe_tup (pa_cons pe_str (pa_cons (pe_ix ix_list (pv 4) (pe_call T.ok hr (by rfl) T.g T.kp T.b .nil pass0 (pa_cons (pv 0) (pa_cons (pe_callB call_len_seq (by rfl) ml PySem.boot_len (pa_cons (pv 4) pa_nil)) pa_nil))) (fun _ _ => rfl)) pa_nil))))) pss_nil)
    (pss_one (ps_ret (pe_ix ix_list (pe_lst (pa_cons (pe_tup (pa_cons pe_str pa_nil)) (pa_cons (pe_tup (pa_cons pe_str pa_nil)) pa_nil))) (pe_callTy call_int1 (by rfl) mi (by decide +kernel) (pa_cons (pe_cmpR op_eq (pv 5) pe_int (nomark _)) pa_nil)) (fun _ _ => rfl))))))))))), ?_⟩
  have bl1 := ok.one
  have bl2 := ok.few
  have hwl : ws.length = bs.length := by rw [dpAll_len hws, List.length_map]
  refine ⟨_, rfl, p, 14, rfl, pl, by decide, by decide, fun H1 r1 pl1 o1 r10 r11 => ?_⟩
  refine ⟨_, rfl, _, rfl, _, rfl, l, _, rfl, .inl (off_sub.seq (o1 ▸ hl)), p, _, rfl, pl1, by omega, by omega, fun H2 r2 pl2 o2 r20 r21 => ?_⟩
  have oo : off p H2 = off p H := o2.trans o1
  have hi : r2.toNat < ws.length := by omega
  have hg : ws[r2.toNat]? = some ws[r2.toNat] := List.getElem?_eq_getElem hi
  obtain ⟨d, hd1, hd2⟩ := dpAll_get hws hg
  rw [List.getElem?_map] at hd1
  obtain ⟨b, hb1, rfl⟩ := Option.map_eq_some_iff.mp hd1
  have mb := List.mem_of_getElem? hb1
  have hat : atI ws r2 = some ws[r2.toNat] := by
    have z := atI_nat hg
    rwa [Int.toNat_of_nonneg r20] at z
  rw [← oo] at hd2 hl hws htl hol q
  generalize ws[r2.toNat] = y at hd2 hat
  obtain ⟨cy, z1, z2, rfl, hcy, f1, f2⟩ := dp2 hd2
  cases dp_str f1
  cases dp_int f2
  have hcs := same_tup off_sub hcy
  obtain ⟨sz1, sz2⟩ := ok.sz b mb
  have hsz := size_mem ok.nd mb
  refine ⟨l, _, r2, _, rfl, rfl, off_sub.seq hl, hat, ?_⟩
  refine ⟨_, rfl, _, _, rfl, rfl, _, rfl, ite2 (fun e => ?_) (fun e => ?_)⟩
  · -- set
    refine ⟨_, rfl, cy, _, 0, _, rfl, rfl, hcs, atI_nat (j := 0) rfl, _, rfl, _, rfl, _, rfl, p, l, _, ws, bs, b, rfl, pl2, hl, hws, ok, mb, hd2, fun H3 u so pl3 s3 hu hso => ⟨lz3, fun t nt => ?_⟩⟩
    obtain ⟨a1, a2, a3⟩ := new_tup (ds := [.str "set", .str b.1, so.data]) (H := H2) pl3 nt s3 (.cons (.str _) (.cons (.str _) (.cons hu .nil)))
    exact q _ _ (.set b.1 so) a1 a2 a3 ⟨b.2, hsz, hso⟩
  refine ⟨_, rfl, _, _, rfl, rfl, _, rfl, ite2 (fun e => ?_) (fun e => ?_)⟩
  · -- if
    refine ⟨_, rfl, cy, _, 0, _, rfl, rfl, hcs, atI_nat (j := 0) rfl, _, rfl, _, rfl, cy, _, 1, _, rfl, rfl, hcs, atI_nat (j := 1) rfl, p, b.2, rfl, pl2, by omega, by omega, fun H3 r3 pl3 o3 h0 h1 => ?_⟩
    refine ⟨_, rfl, _, rfl, _, _, rfl, rfl, p, m + 1, rfl, pl3, by omega, by omega, fun H4 r4 pl4 o4 g0 g1 => ⟨lz4, fun t nt => ?_⟩⟩
    obtain ⟨a1, a2, a3⟩ := new_tup (K := K) (vs := [.str "if", .str b.1, .int r3, .int r4]) (ds := [.str "if", .str b.1, .int r3, .int r4]) (H := H2) pl4 nt (by rw [o4, o3]; exact Same.refl _) (.cons (.str _) (.cons (.str _) (.cons (.int _) (.cons (.int _) .nil))))
    exact q _ _ (.ift b.1 r3 r4) a1 a2 a3 ⟨b.2, hsz, h0, h1, g0, by omega⟩
  refine ⟨_, rfl, rfl, _, rfl, ite2 (fun e => ?_) (fun e => ?_)⟩
  · -- wait
    refine ⟨_, rfl, cy, _, 0, _, rfl, rfl, hcs, atI_nat (j := 0) rfl, _, rfl, _, rfl, cy, _, 1, _, rfl, rfl, hcs, atI_nat (j := 1) rfl, p, b.2, rfl, pl2, by omega, by omega, fun H3 r3 pl3 o3 h0 h1 => ⟨lz3, fun t nt => ?_⟩⟩
    obtain ⟨a1, a2, a3⟩ := new_tup (K := K) (vs := [.str "wait", .str b.1, .int r3]) (ds := [.str "wait", .str b.1, .int r3]) (H := H2) pl3 nt (by rw [o3]; exact Same.refl _) (.cons (.str _) (.cons (.str _) (.cons (.int _) .nil)))
    exact q _ _ (.wait b.1 r3) a1 a2 a3 ⟨b.2, hsz, h0, h1⟩
  refine ⟨_, rfl, rfl, _, rfl, ite2 (fun e => ?_) (fun e => ?_)⟩
  · -- go
    refine ⟨_, rfl, _, rfl, _, _, rfl, rfl, p, m + 1, rfl, pl2, by omega, by omega, fun H3 r3 pl3 o3 h0 h1 => ?_⟩
    refine ⟨_, rfl, _, rfl, _, _, rfl, rfl, p, m + 1, rfl, pl3, by omega, by omega, fun H4 r4 pl4 o4 g0 g1 => ⟨lz2, fun x nx => ?_⟩⟩
    have s4 : Same (off p H2) (off p H4) := by rw [o4, o3]; exact Same.refl _
    refine ⟨x, [r3, r4], rfl, SqL.of upd_same, by show 2 < 60; decide, fun a c na hc => ?_⟩
    have s5 : Same H4 (upd H4 x (.lst [.int r3, .int r4])) := same_new nx
    refine ⟨a, _, c, rfl, upd_same, Nat.lt_of_le_of_lt hc (by show 2 < 64; decide), fun ns b2 pw mem len nb => ?_⟩
    have s6 := same_new (o := SetO w a (fun j => decide (j ∈ [r3, r4])) c) na
    have s7 := same_new (o := .lst (ns.map V.int)) nb
    have s47 := (s5.trans s6).trans s7
    refine ⟨b2, _, rfl, .inl ⟨SqL.of upd_same, fun t nt => ⟨lz2, fun t2 nt2 => ?_⟩⟩⟩
    have pl7 := pool_same pl4 s47
    obtain ⟨a1, a2, a3⟩ := new_tup (K := K) (ds := ns.map PyData.int) (H := H2) pl7 nt (s4.trans (off_mono s47)) (intL_dp ns)
    obtain ⟨b1, b2, b3⟩ := new_tup (ds := [.str "go", .tuple (ns.map PyData.int)]) (H := H2) a1 nt2 a2 (.cons (.str _) (.cons a3 .nil))
    have mm : ∀ n ∈ ns, n = r3 ∨ n = r4 := fun n hn => by
      have z := of_decide_eq_true ((mem n).mp hn)
      simpa using z
    refine q _ _ (.go ns) b1 b2 b3 ⟨?_, ?_, rising_of pw fun n hn => ?_, fun n hn => ?_⟩
    · exact List.length_pos_of_mem ((mem r3).mpr (decide_eq_true List.mem_cons_self))
    · rw [len]
      exact Nat.le_trans hc (by show 2 ≤ 4; decide)
    · rcases mm n hn with rfl | rfl <;> omega
    · rcases mm n hn with rfl | rfl <;> omega
  -- call
  refine ⟨_, rfl, _, _, rfl, rfl, _, rfl, and_if (H := H2) (fun G sG => iteF ?_) (fun e rest => ?_)⟩
  case refine_2 =>
    refine ⟨_, rfl, Nat.zero_le _, fun e0 n0 => ?_⟩
    have s3 : Same H2 (upd H2 e0 (.lst [])) := same_new n0
    refine ⟨_, _, .lst (s3.seq (off_sub.seq htl)) (strL_dp ts), .lst (SqL.of upd_same) .nil, strL_shaped wt.lay, nilL_shaped, _, rfl, ?_⟩
    rw [strL_eqv]
    refine ite2 (fun e2 => ?_) (fun e2 => rest _ s3)
    have t0 : 0 < ts.length := List.length_pos_iff.mpr fun z => by
      rw [z] at e2
      cases e2
    have tf := wt.few
    refine ⟨_, rfl, _, rfl, _, rfl, tl, _, rfl, .inl (s3.seq (off_sub.seq htl)), p, _, rfl, pool_same pl2 s3, by rw [List.length_map]; omega, by rw [List.length_map]; omega, fun H4 r4 pl4 o4 h0 h1 => ?_⟩
    rw [List.length_map] at h1
    obtain ⟨z, hz, hat4⟩ := pick h0 h1
    have s4 : Same (off p H2) (off p H4) := by
      rw [o4]
      exact off_mono s3
    refine ⟨tl, _, r4, _, rfl, rfl, off_sub.seq (s4.seq htl), hat4, lz2, fun t nt => ?_⟩
    obtain ⟨a1, a2, a3⟩ := new_tup (K := K) (vs := [.str "call", .str z]) (ds := [.str "call", .str z]) (H := H2) pl4 nt s4 (.cons (.str _) (.cons (.str _) .nil))
    exact q _ _ (.call z) a1 a2 a3 hz
  -- begin
  refine ⟨_, rfl, rfl, _, rfl, and_if (H := G) (fun G2 sG2 => iteF ?_) (fun e rest => ?_)⟩
  case refine_2 =>
    refine ⟨_, rfl, Nat.zero_le _, fun e0 n0 => ?_⟩
    have s3 : Same H2 (upd G e0 (.lst [])) := sG.trans (same_new n0)
    refine ⟨_, _, .lst (s3.seq (off_sub.seq hol)) (strL_dp os), .lst (SqL.of upd_same) .nil, strL_shaped wo.lay, nilL_shaped, _, rfl, ?_⟩
    rw [strL_eqv]
    refine ite2 (fun e2 => ?_) (fun e2 => rest _ (same_new n0))
    have t0 : 0 < os.length := List.length_pos_iff.mpr fun z => by
      rw [z] at e2
      cases e2
    have tf := wo.few
    refine ⟨_, rfl, _, rfl, _, rfl, ol, _, rfl, .inl (s3.seq (off_sub.seq hol)), p, _, rfl, pool_same pl2 s3, by rw [List.length_map]; omega, by rw [List.length_map]; omega, fun H4 r4 pl4 o4 h0 h1 => ?_⟩
    rw [List.length_map] at h1
    obtain ⟨z, hz, hat4⟩ := pick h0 h1
    have s4 : Same (off p H2) (off p H4) := by
      rw [o4]
      exact off_mono s3
    refine ⟨ol, _, r4, _, rfl, rfl, off_sub.seq (s4.seq hol), hat4, lz2, fun t nt => ?_⟩
    obtain ⟨a1, a2, a3⟩ := new_tup (K := K) (vs := [.str "begin", .str z]) (ds := [.str "begin", .str z]) (H := H2) pl4 nt s4 (.cons (.str _) (.cons (.str _) .nil))
    exact q _ _ (.begin z) a1 a2 a3 hz
  -- back, fault
  have s2G := sG.trans sG2
  have plG := pool_same pl2 s2G
  refine ⟨lz1, fun t1 n1 => ⟨lz1, fun t2 n2 => ⟨lz2, fun x nx => ?_⟩⟩⟩
  obtain ⟨a1, a2, a3⟩ := new_tup (K := K) (vs := [.str "back"]) (ds := [.str "back"]) (H := H2) plG n1 (off_mono s2G) (.cons (.str _) .nil)
  obtain ⟨b1, b2, b3⟩ := new_tup (K := K) (vs := [.str "fault"]) (ds := [.str "fault"]) (H := H2) a1 n2 a2 (.cons (.str _) .nil)
  have a4 := dp_same (off_mono (p := p) (same_new (o := .tup [.str "fault"]) n2)) _ _ a3
  have sx := same_new (o := .lst [.ref t1, .ref t2]) nx
  have sxo := off_mono (p := p) sx
  have plx := pool_same b1 sx
  have a5 := dp_same sxo _ _ a4
  have b5 := dp_same sxo _ _ b3
  have s5 := b2.trans sxo
  refine ⟨_, rfl, rfl, .inr ⟨_, rfl, ?_⟩⟩
  have fin : ∀ kk : Bool, rIxL K (.ref x) (.int (if kk then 1 else 0)) (upd (upd (upd G2 t1 (.tup [.str "back"])) t2 (.tup [.str "fault"])) x (.lst [.ref t1, .ref t2])) Q := by
    intro kk
    cases kk with
    | false => exact ⟨x, _, 0, _, rfl, rfl, SqL.of upd_same, atI_nat (j := 0) rfl, q _ _ .back plx s5 a5 trivial⟩
    | true => exact ⟨x, _, 1, _, rfl, rfl, SqL.of upd_same, atI_nat (j := 1) rfl, q _ _ .fault plx s5 b5 trivial⟩
  exact fin _
end
end PP

set_option maxHeartbeats 4000000
namespace PP
open PySem PySem.Spec PyProof.Rows L2 G3 M0 PA
abbrev nTexts : List Str := ["_law_pool_here", "_law_boxes", "_law_others", "_law_deep", "_law_titles", "_law_found", "_law_at", "_law_title", "_law_many", "_law_some", "_law_turn"]
theorem scTexts : FnScope nTexts ["_law_pool_here", "_law_boxes", "_law_others", "_law_deep"] (defScope s_law_texts) := ⟨rfl, rfl, rfl, by decide +kernel, rfl, by decide +kernel, by decide +kernel⟩
/-- nothing but tuples around the leaves -/
inductive TupOnly : PyData → Prop where
  | int (i : Int) : TupOnly (.int i)
  | str (z : Str) : TupOnly (.str z)
  | tup {ds : List PyData} (h : ∀ d ∈ ds, TupOnly d) : TupOnly (.tuple ds)
theorem tup_hide {K : PySem.W.Frag} {H : Hp} {D a : Addr} {us xs : List V} (hD : H D = some (.lst us)) (h : SqT K H a xs) : SqT K (off D H) a xs := by
  rcases h with (h | ⟨o, h⟩) | h
  · exact .inl (.inl (by rw [off_ne (fun e => by rw [e, hD] at h; cases h)]; exact h))
  · exact .inl (.inr ⟨o, by rw [off_ne (fun e => by rw [e, hD] at h; cases h)]; exact h⟩)
  · exact .inr h
mutual
theorem dp_hide {K : PySem.W.Frag} {H : Hp} {D : Addr} {us : List V} (hD : H D = some (.lst us)) : ∀ (d : PyData) (v : V), TupOnly d → Dp K H v d → Dp K (off D H) v d
  | .none, _, t, h => nomatch t
  | .bool _, _, t, h => nomatch t
  | .int _, _, _, h => by cases h; exact .int _
  | .str _, _, _, h => by cases h; exact .str _
  | .list ds, _, t, h => nomatch t
  | .tuple ds, _, t, h => by
    cases h with
    | tup hs ha =>
      cases t with
      | tup tt => exact .tup (tup_hide hD hs) (dpAll_hide hD ds _ tt ha)
  | .dict _, _, t, h => nomatch t
theorem dpAll_hide {K : PySem.W.Frag} {H : Hp} {D : Addr} {us : List V} (hD : H D = some (.lst us)) : ∀ (ds : List PyData) (vs : List V), (∀ d ∈ ds, TupOnly d) → DpAll K H vs ds → DpAll K (off D H) vs ds
  | [], _, _, h => by cases h; exact .nil
  | d :: ds, _, t, h => by
    cases h with
    | cons h1 h2 => exact .cons (dp_hide hD d _ (t d List.mem_cons_self) h1) (dpAll_hide hD ds _ (fun e he => t e (List.mem_cons_of_mem _ he)) h2)
end
theorem to_map {α : Type} {f : α → PyData} {xs : List α} (h : ∀ x ∈ xs, TupOnly (f x)) : TupOnly (.tuple (xs.map f)) := .tup fun d hd => by
  obtain ⟨x, hx, rfl⟩ := List.mem_map.mp hd
  exact h x hx
theorem to_nil : ∀ d ∈ ([] : List PyData), TupOnly d := fun _ z => nomatch z
theorem to_cons {d : PyData} {ds : List PyData} (h1 : TupOnly d) (h2 : ∀ e ∈ ds, TupOnly e) : ∀ e ∈ d :: ds, TupOnly e := fun e he => by
  rcases List.mem_cons.mp he with rfl | he
  · exact h1
  · exact h2 e he
theorem to_src (s : Src) : TupOnly s.data := by
  cases s with
  | to n => exact .tup (to_cons (.str _) (to_cons (.int _) to_nil))
  | of b => exact .tup (to_cons (.str _) (to_cons (.str _) to_nil))
  | on n => exact .tup (to_cons (.str _) (to_cons (.int _) to_nil))
  | any => exact .tup (to_cons (.str _) to_nil)
theorem to_row (r : PA.Row) : TupOnly r.data := by
  cases r with
  | set b s => exact .tup (to_cons (.str _) (to_cons (.str _) (to_cons (to_src s) to_nil)))
  | ift b v r => exact .tup (to_cons (.str _) (to_cons (.str _) (to_cons (.int _) (to_cons (.int _) to_nil))))
  | go rs => exact .tup (to_cons (.str _) (to_cons (to_map fun _ _ => .int _) to_nil))
  | call t => exact .tup (to_cons (.str _) (to_cons (.str _) to_nil))
  | back => exact .tup (to_cons (.str _) to_nil)
  | wait b v => exact .tup (to_cons (.str _) (to_cons (.str _) (to_cons (.int _) to_nil)))
  | begin h => exact .tup (to_cons (.str _) (to_cons (.str _) to_nil))
  | fault => exact .tup (to_cons (.str _) to_nil)
theorem to_rows (rs : List PA.Row) : TupOnly (rowsD rs) := to_map fun r _ => to_row r
theorem to_text (t : Text) : TupOnly (textD t) := .tup (to_cons (.str _) (to_cons (to_rows _) to_nil))
theorem to_box (b : Box) : TupOnly (boxD b) := .tup (to_cons (.str _) (to_cons (.int _) to_nil))
theorem to_hand (h : Hand) : TupOnly (handD h) := .tup (to_cons (.str _) (to_cons (to_map fun b _ => to_box b) (to_cons (to_map fun t _ => to_text t) to_nil)))
theorem row_mono {bs : List Box} {ts ts' os : List Str} {m : Int} (h : ∀ t ∈ ts, t ∈ ts') : ∀ r : PA.Row, RowOk bs ts os m r → RowOk bs ts' os m r
  | .set _ _, a => a
  | .ift _ _ _, a => a
  | .go _, a => a
  | .call _, a => h _ a
  | .back, a => a
  | .wait _ _, a => a
  | .begin _, a => a
  | .fault, a => a
section
variable {P : Program} {w : World} {K : PySem.W.Frag} {mg : Str → Option Value} {base : Heap}
def wTexts : List Str := ["main", "sub"]
def spTexts (K : PySem.W.Frag) : Sp := fun vs H Q _ => ∃ (p l ol : Addr) (ws : List V) (bs : List Box) (os : List Str), vs = [.ref p, .ref l, .ref ol, .bl true] ∧ Pool H p ∧ SqL K (off p H) l ws ∧ DpAll K (off p H) ws (bs.map boxD) ∧ Draw bs ∧
  SqL K (off p H) ol (os.map V.str) ∧ Words os ∧
  ∀ (H' : Hp) (u : V) (ts : List Text), Pool H' p → Same (off p H) (off p H') → Dp K (off p H') u (.tuple (ts.map textD)) → TextsOk bs os ts → (∀ t ∈ ts, t.1 ∈ wTexts ∧ t.2.length ≤ 4) → Q u H'
set_option maxHeartbeats 8000000 in
theorem ok_texts {f : Addr} {fd : FuncData} {k : Nat} (F : Fun K "_law_texts" "_law_texts" s_law_texts f fd) (T : Def P w K mg base CX0 (k + 1) "_law_take" ["_law_pool_here", "_law_many"] spTake) (R : Def P w K mg base CX0 (k + 1) "_law_row" ["_law_pool_here", "_law_boxes", "_law_many", "_law_titles", "_law_others"] (spRow K))
    (me : mg "enumerate" = none) (mt : mg "tuple" = none) (mr : mg "range" = none) :
    FnOk P w K mg base CX0 (k + 1 + 1) f fd ["_law_pool_here", "_law_boxes", "_law_others", "_law_deep"] (spTexts K) := by
  refine F.ok scTexts (fun vs H Q E h => ?_) (fun cdv A outer s H vs Q E hr h => ?_)
  · obtain ⟨p, l, ol, ws, bs, os, rfl, _⟩ := h
    rfl
  obtain ⟨p, l, ol, ws, bs, os, rfl, pl, hl, hws, ok, hol, wo, q⟩ := h
  have nd := scTexts.nd
  refine ⟨_, pss_cons (ps_set (i := 4) nd rfl (.inl rfl) (pe_slice sl_list (pe_lst (pa_cons pe_str (pa_cons pe_str pa_nil))) po_none (po_some (pe_op op_add pe_int (pe_call T.ok hr (by rfl) T.g T.kp T.b .nil pass0 (pa_cons (pv 0) (pa_cons pe_int pa_nil)))))))
    (pss_cons (ps_set (i := 5) nd rfl (.inl rfl) (pe_lst pa_nil))
    (pss_cons (ps_for PassesOwn.never rfl (pi_enum (by rfl) me (pa_cons (pv 4) pa_nil)) (pg_tup rfl (pgs_cons (pg_name (i := 6) nd rfl (.inl rfl)) (pgs_cons (pg_name (i := 7) nd rfl (.inl rfl)) pgs_nil)))
      (pss_cons (ps_set (i := 8) nd rfl (.inr rfl) (pe_op op_add pe_int (pe_call T.ok hr (by rfl) T.g T.kp T.b .nil pass0 (pa_cons (pv 0) (pa_cons pe_int pa_nil)))))
      (pss_cons (ps_set (i := 9) nd rfl (.inr rfl) (pe_ifExp (pt_val (pv 3)) (pv 4) pe_dead))
      (pss_one (ps_expr (pe_bm PySem.F.plainAttrs_list PySem.F.slot_list_append PySem.F.type_list_append mt_append (pv 5) (pa_cons (pe_tup (pa_cons (pv 7)
        (pa_cons (pe_callTy call_tuple_of (by rfl) mt (by decide +kernel) (pa_cons (pe_lc (own := [("_law_turn", 10)]) (g := gName 10) (tt := tYes) (by rfl) nd (pi_range1 (by rfl) mr (pa_cons (pv 8) pa_nil))
          (blkOk_by (N := nTexts) (sc := defScope s_law_texts) (by decide +kernel)) (fun _ _ _ _ _ => pg_name (i := 10) nd rfl (.inl rfl)) (fun _ _ _ _ _ => pts_nil)
          (fun _ _ _ _ _ => pe_call R.ok hr (by rfl) R.g R.kp R.b .nil pass0 (pa_cons (pv 0) (pa_cons (pv 1) (pa_cons (pv 8) (pa_cons (pv 9) (pa_cons (pv 2) pa_nil))))))) pa_nil)) pa_nil))) pa_nil)))))))
    (pss_one (ps_ret (pe_callTy call_tuple_of (by rfl) mt (by decide +kernel) (pa_cons (pv 5) pa_nil)))))), ?_⟩
  refine ⟨lz2, fun x0 n0 => ?_⟩
  have s0 : Same H (upd H x0 (.lst [.str "main", .str "sub"])) := same_new n0
  have x0p := pool_ne pl n0
  refine ⟨_, rfl, p, 2, rfl, pool_same pl s0, by decide, by decide, fun H1 r1 pl1 o1 r10 r11 => ⟨1, r1, rfl, rfl, ?_⟩⟩
  have e1x : off p H1 x0 = some (.lst [.str "main", .str "sub"]) := by
    rw [o1, off_ne x0p]
    exact upd_same
  have sH1 : Same (off p H) (off p H1) := by
    rw [o1]
    exact off_mono s0
  refine ⟨_, rfl, x0, _, rfl, SqL.of (off_sub _ _ e1x), fun ta nta => ?_⟩
  obtain ⟨tts, htt, hcut⟩ : ∃ tts : List Str, (tts = ([("main" : Str)] : List Str) ∨ tts = ([("main" : Str), ("sub" : Str)] : List Str)) ∧ cutV [.str "main", .str "sub"] none (some (1 + r1)) = tts.map V.str := by
    have : r1 = 0 ∨ r1 = 1 := by omega
    rcases this with rfl | rfl
    · exact ⟨_, .inl rfl, rfl⟩
    · exact ⟨_, .inr rfl, rfl⟩
  rw [hcut]
  have tap := pool_ne pl1 nta
  refine ⟨Nat.zero_le _, fun fa nfa => ?_⟩
  have s2 : Same H1 (upd H1 ta (.lst (tts.map V.str))) := same_new nta
  have pl2 := pool_same pl1 s2
  have fap := pool_ne pl2 nfa
  have s3 : Same (upd H1 ta (.lst (tts.map V.str))) (upd (upd H1 ta (.lst (tts.map V.str))) fa (.lst [])) := same_new nfa
  have pl3 := pool_same pl2 s3
  have nfH : off p H fa = none := same_none sH1 (same_none (off_mono s2) (off_none nfa))
  have sH3 : Same (off p H) (off p (upd (upd H1 ta (.lst (tts.map V.str))) fa (.lst []))) := sH1.trans (off_mono (s2.trans s3))
  have hta3 : off p (upd (upd H1 ta (.lst (tts.map V.str))) fa (.lst [])) ta = some (.lst (tts.map V.str)) := by
    rw [off_ne tap]
    exact s3 _ _ upd_same
  have hfa3 : off p (upd (upd H1 ta (.lst (tts.map V.str))) fa (.lst [])) fa = some (.lst []) := by
    rw [off_ne fap]
    exact upd_same
  have fta : fa ≠ ta := fun z => by
    rw [z, upd_same] at nfa
    cases nfa
  generalize upd (upd H1 ta (.lst (tts.map V.str))) fa (.lst []) = H3 at pl3 sH3 hta3 hfa3 ⊢
  clear nta nfa s2 pl2 s3
  have tl2 : tts.length ≤ 2 := by rcases htt with rfl | rfl <;> decide
  have wt : Words tts := ⟨by omega, fun z hz => by
    rcases htt with rfl | rfl <;> simp at hz <;> rcases hz with rfl | rfl <;> decide +kernel⟩
  refine ⟨_, rfl, ta, _, rfl, SqL.of (off_sub _ _ hta3), for_it (walk_enum (a := ta) (xs := tts.map V.str) (K := K)) (fun i σ G => ∃ v6 v7 v8 v9 v10, σ = [some (.ref p), some (.ref l), some (.ref ol), some (.bl true), some (.ref ta), some (.ref fa), v6, v7, v8, v9, v10] ∧ Pool G p ∧ Same (off p H) (off p G) ∧ off p G ta = some (.lst (tts.map V.str)) ∧
      ∃ (acc : List V) (tl : List Text), off p G fa = some (.lst acc) ∧ DpAll K (off fa (off p G)) acc (tl.map textD) ∧ tl.map (·.1) = tts.take i ∧ ∀ t ∈ tl, 1 ≤ t.2.length ∧ t.2.length ≤ 4 ∧ ∀ r ∈ t.2, RowOk bs tts os t.2.length r)
    ⟨none, none, none, none, none, rfl, pl3, sH3, hta3, [], [], hfa3, .nil, rfl, fun _ z => nomatch z⟩ (fun i σ G _ h => ?_) (fun i y σ G G' hi h hy => ?_) (fun σ G h => ?_)⟩
  · obtain ⟨_, _, _, _, _, _, _, _, ht, _⟩ := h
    exact SqL.of (off_sub _ _ ht)
  · obtain ⟨v6, v7, v8, v9, v10, rfl, plG, sG, htG, acc, tl, hfG, hacc, hnm, htl⟩ := h
    obtain ⟨Tq, k1, k2, rfl, nT, rfl, hk1, hk2⟩ := hy
    rw [List.length_map] at hi
    have ei : (tts.map V.str)[i]? = some (.str tts[i]) := by rw [List.getElem?_map, List.getElem?_eq_getElem hi]; rfl
    simp only [ei] at hk1 hk2
    cases hk1
    cases hk2
    have sT : Same G (upd G Tq (.tup [.int (i : Nat), .str tts[i]])) := same_new nT
    refine ⟨Tq, _, rfl, .inl (.inl upd_same), rfl, _, _, rfl, _, _, rfl, rfl, ?_⟩
    have plT := pool_same plG sT
    have soT := off_mono (p := p) sT
    have htT := soT _ _ htG
    have hfT := soT _ _ hfG
    have haT := dpAll_same (off_mono (p := fa) soT) _ _ hacc
    have sHT := sG.trans soT
    generalize upd G Tq (.tup [.int (i : Nat), .str tts[i]]) = G0 at plT htT hfT haT sHT ⊢
    clear sT soT nT
    refine ⟨_, rfl, p, 4, rfl, plT, by decide, by decide, fun G1 r2 pl4 o4 r20 r21 => ⟨1, r2, rfl, rfl, ?_⟩⟩
    rw [← o4] at htT hfT haT sHT
    refine ⟨_, rfl, _, rfl, iteT ⟨_, rfl, ?_⟩⟩
    refine ⟨_, rfl, .inl ⟨rfl, _, SqL.of (off_sub _ _ hfT)⟩, _, rfl, _, rfl, 1 + r2, rfl, by omega, by omega, fun D nD => ?_⟩
    have eD : D ≠ p := pool_ne pl4 nD
    have nD1 : off p G1 D = none := off_none nD
    refine lc_range (n := (1 + r2).toNat) (fun j G2 => Pool G2 p ∧ Same (off p G1) (off p G2) ∧ ∃ (us : List V) (rs : List PA.Row), off p G2 D = some (.lst us) ∧ us.length = j ∧ rs.length = j ∧ DpAll K (off D (off p G2)) us (rs.map PA.Row.data) ∧ ∀ r ∈ rs, RowOk bs tts os (1 + r2) r)
      ⟨pool_put pl4 eD, off_mono (same_new nD), [], [], by rw [off_ne eD]; exact upd_same, rfl, rfl, .nil, fun _ z => nomatch z⟩ (fun j G2 hj hQ => ?_) (fun G2 hQ => ?_)
    · obtain ⟨plb, sb, us, rs, hDb, hul, hrl, hds, hok⟩ := hQ
      refine ⟨rfl, ?_⟩
      dsimp only [tYes]
      rw [if_pos rfl]
      refine ⟨_, rfl, _, rfl, _, rfl, _, rfl, _, rfl, p, l, ta, ol, ws, bs, 1 + r2, tts, os, rfl, plb, (sHT.trans sb).seq hl, dpAll_same (sHT.trans sb) _ _ hws, ok, by omega, by omega, SqL.of (sb _ _ htT), (sHT.trans sb).seq hol, wt, wo, fun G3 u r plc sc hu hro => ?_⟩
      have hDc := sc _ _ hDb
      have hu2 := dp_hide hDc _ _ (to_row r) hu
      have hds2 := dpAll_same (off_mono (p := D) sc) _ _ hds
      refine ⟨us, (off_at hDc).1, LC.small_line (by omega), pool_put plc eD, ?_, us ++ [u], rs ++ [r], ?_, ?_, ?_, ?_, ?_⟩
      · rw [off_put eD]
        exact same_put (sb.trans sc) nD1
      · rw [off_put eD]
        exact upd_same
      · rw [List.length_append, hul]
        rfl
      · rw [List.length_append, hrl]
        rfl
      · rw [off_put eD, off_upd, List.map_append]
        exact dpAll_app hds2 (.cons hu2 .nil)
      · intro r' hr'
        rcases List.mem_append.mp hr' with z | z
        · exact hok r' z
        · rw [List.mem_singleton.mp z]
          exact hro
    · obtain ⟨plb, sb, us, rs, hDb, hul, hrl, hds, hok⟩ := hQ
      refine ⟨D, _, rfl, .inl ⟨SqL.of (off_sub _ _ hDb), fun t nt => ⟨lz2, fun t2 nt2 => ?_⟩⟩⟩
      obtain ⟨a1, a2, a3⟩ := new_tup (H := G1) plb nt sb (dpAll_same off_sub _ _ hds)
      obtain ⟨b1, b2, b3⟩ := new_tup (ds := [.str tts[i], rowsD rs]) (H := G1) a1 nt2 a2 (.cons (.str _) (.cons a3 .nil))
      generalize upd (upd G2 t (.tup us)) t2 (.tup [.str tts[i], .ref t]) = G5 at b1 b2 b3 ⊢
      have hf5 := b2 _ _ hfT
      have b4 := dp_hide hf5 _ _ (to_text (tts[i], rs)) b3
      have ha5 := dpAll_same (off_mono (p := fa) b2) _ _ haT
      have al : acc.length ≤ 2 := by
        have z1 := dpAll_len hacc
        have z2 := congrArg List.length hnm
        rw [List.length_map] at z1 z2
        rw [List.length_take] at z2
        omega
      refine ⟨fa, acc, _, rfl, rfl, (off_at hf5).1, LC.small_line (by omega), _, _, _, _, _, rfl, pool_put b1 fap, ?_, ?_, acc ++ [.ref t2], tl ++ [(tts[i], rs)], ?_, ?_, ?_, ?_⟩
      · rw [off_put fap]
        exact same_put (sHT.trans b2) nfH
      · rw [off_put fap, upd_ne fta.symm]
        exact b2 _ _ htT
      · rw [off_put fap]
        exact upd_same
      · rw [off_put fap, off_upd, List.map_append]
        exact dpAll_app ha5 (.cons b4 .nil)
      · rw [List.map_append, hnm, List.take_succ, List.getElem?_eq_getElem hi]
        rfl
      · intro t' ht'
        rcases List.mem_append.mp ht' with z | z
        · exact htl t' z
        · rw [List.mem_singleton.mp z]
          have e2 : (((tts[i], rs) : Text).2.length : Int) = 1 + r2 := by
            show (rs.length : Int) = 1 + r2
            omega
          refine ⟨?_, ?_, fun r hr2 => ?_⟩
          · show 1 ≤ rs.length
            omega
          · show rs.length ≤ 4
            omega
          · rw [e2]
            exact hok r hr2
  · obtain ⟨v6, v7, v8, v9, v10, rfl, plG, sG, htG, acc, tl, hfG, hacc, hnm, htl⟩ := h
    rw [List.length_map, List.take_length] at hnm
    refine ⟨_, rfl, fa, _, rfl, .inl ⟨SqL.of (off_sub _ _ hfG), fun t nt => ?_⟩⟩
    obtain ⟨a1, a2, a3⟩ := new_tup (H := H) plG nt sG (dpAll_same off_sub _ _ hacc)
    have tlen : tl.length = tts.length := by rw [← hnm, List.length_map]
    refine q _ _ tl a1 a2 a3 ⟨?_, ?_, fun t ht => ?_, ?_, fun t ht r hr2 => ?_⟩ ?_
    · rw [tlen]
      rcases htt with rfl | rfl <;> decide
    · omega
    · have mt2 : t.1 ∈ tts := by
        rw [← hnm]
        exact List.mem_map_of_mem ht
      obtain ⟨b1, b2, _⟩ := htl t ht
      refine ⟨?_, b1, by omega⟩
      generalize t.1 = z at mt2
      rcases htt with rfl | rfl <;> simp at mt2 <;> rcases mt2 with rfl | rfl <;> decide +kernel
    · rw [hnm]
      rcases htt with rfl | rfl <;> decide +kernel
    · rw [hnm]
      exact (htl t ht).2.2 r hr2
    · intro t ht
      have mt2 : t.1 ∈ tts := by
        rw [← hnm]
        exact List.mem_map_of_mem ht
      refine ⟨?_, (htl t ht).2.1⟩
      generalize t.1 = z at mt2
      rcases htt with rfl | rfl <;> simp at mt2 <;> rcases mt2 with rfl | rfl <;> decide +kernel
end
end PP

set_option maxHeartbeats 4000000
/-! tuple * 0, tuple * 1 -/
namespace TM
open PySem PySem.Spec PyProof.Rows L2
theorem mul_one (l : Addr) (its : Array Value) (n : Nat) (dd : Option Addr) (sl : Array (Option Value)) (u : Tok) :
    Meets (Builtin.«tuple.__mul__» ⟨[.ref l, .int 1 u], []⟩) (fun _ R s => s.heap.get? l = some { cls := .type "tuple", dict := dd, data := .seq its n, slots := sl } ∧ R (.ok (.ret (Value.ref l))) s) :=
  .of_wp fun prog w A R s h => by
    obtain ⟨hp, g, d, tk, os⟩ := s
    obtain ⟨hl, h⟩ := h
    have f1 := AutoSeq1.idx_int
    wp_walk using wpAny_loadPart' hl
    exact ⟨_, rfl, h⟩
theorem mul_nought (l : Addr) (its : Array Value) (n : Nat) (dd : Option Addr) (sl : Array (Option Value)) (u : Tok) (c1 : (its.isEmpty || (0 : Int) == 1) = false) :
    Meets (Builtin.«tuple.__mul__» ⟨[.ref l, .int 0 u], []⟩) (fun _ R s => s.heap.get? l = some { cls := .type "tuple", dict := dd, data := .seq its n, slots := sl } ∧
      R (.ok (.ret (Value.ref s.heap.objs.size))) { s with heap := s.heap.push { cls := Value.type "tuple", data := Data.seq #[] }, toks := s.toks }) :=
  .of_wp fun prog w A R s h => by
    obtain ⟨hp, g, d, tk, os⟩ := s
    obtain ⟨hl, h⟩ := h
    have f1 := AutoSeq1.idx_int
    wp_walk using wpAny_loadPart' hl
    repeat (first
      | (refine wpAny_ite_false (decide_eq_false (by rw [c1]; exact Bool.false_ne_true)) ?_; wp_walk using wpAny_loadPart' hl))
    exact ⟨_, rfl, h⟩
def rRep01 (K : PySem.W.Frag) : R2 := fun x y H Q => ∃ l k xs, x = .ref l ∧ y = .int k ∧ SqT K H l xs ∧ xs ≠ [] ∧ ((k = 1 ∧ Q (.ref l) H) ∨ (k = 0 ∧ ∀ p, H p = none → Q (.ref p) (upd H p (.tup []))))
section
variable {X : Cx}
theorem op_rep01 : OpR X (binaryOp .Mult) (rRep01 X.K) := by
  intro pins s σ H x y v u Q I rx ry h
  obtain ⟨l, k, xs, rfl, rfl, hT, hne, h⟩ := h
  cases rx
  obtain ⟨t, rfl⟩ := ry
  obtain ⟨its, r, ⟨⟨cls, dd, data, sl⟩, ho, hc, n, hd⟩, hs⟩ := I.tuple hT
  simp only at hc hd
  subst hc hd
  have hle : its.length = xs.length := r.length.symm
  have hi : its.toArray.isEmpty = false := by
    cases its with
    | nil => exact absurd (List.eq_nil_of_length_eq_zero hle.symm) hne
    | cons a b => rfl
  refine wpAny_binaryOp_repeat_ref (T := "tuple") (U := "int") (by decide) ⟨_, ho, rfl⟩ (fun s' => typeIs_int s' k t) noFill_tuple_mul F.fills_int_mul F.slot_int_rmul repeat_tuple F.slot_int_index.lookup
    (call_meets F.slot_int_rmul (typeIs_int s k t) F.entry_int_rmul (F.args_int_rmul_2 _ _) (int_rmul_tuple k t l its.toArray n dd sl) ⟨ho, rfl, ⟨_, ho, rfl⟩, ?_⟩)
  rcases h with ⟨rfl, q⟩ | ⟨rfl, q⟩
  · exact call_meets F.slot_tuple_mul ⟨_, ho, rfl⟩ F.entry_tuple_mul (F.args_tuple_mul_2 _ _) (mul_one l its.toArray n dd sl t) ⟨ho, .ref l, H, I, rfl, q⟩
  · refine call_meets F.slot_tuple_mul ⟨_, ho, rfl⟩ F.entry_tuple_mul (F.args_tuple_mul_2 _ _) (mul_nought l its.toArray n dd sl t (by rw [hi]; rfl)) ⟨ho, ?_⟩
    exact ⟨.ref s.heap.objs.size, _, I.laid (t' := s.toks) (o := .tup []) (fun b ob q => Heap.get?_push_of_some _ q) (Nat.le_refl _) ⟨Nat.zero_le _, [], .nil, IsTup.new _ _⟩, rfl, q _ (I.hok.fresh (Nat.le_refl _))⟩
end
end TM

set_option maxHeartbeats 4000000
namespace PP
open PySem PySem.Spec PyProof.Rows L2 G3 M0 PA
abbrev nProg : List Str := ["_law_pool_here", "_law_most", "_law_deep", "_law_boxes", "_law_names", "_law_found", "_law_name", "_law_own", "_law_others", "_law_other"]
theorem scProg : FnScope nProg ["_law_pool_here", "_law_most", "_law_deep"] (defScope s_law_program) := ⟨rfl, rfl, rfl, by decide +kernel, rfl, by decide +kernel, by decide +kernel⟩
theorem sl_two {K : PySem.W.Frag} {G : Hp} {t : Addr} {x y : V} {r : Int} {T : VK} (h : SqT K G t [x, y]) (r0 : 0 ≤ r) (r1 : r < 2)
    (go : ∀ bt G', (bt = t ∧ G' = G ∧ r = 1) ∨ (r = 0 ∧ G bt = none ∧ G' = upd G bt (.tup [x])) → T (.ref bt) G') : rSlA K (.ref t) none (some (1 + r)) G T := by
  have : r = 0 ∨ r = 1 := by omega
  rcases this with rfl | rfl
  · refine ⟨t, _, rfl, h, fun z => ?_, fun _ q nq => go q _ (.inr ⟨rfl, nq, rfl⟩)⟩
    exact absurd z.2 (by show ¬ HT.sIx 2 2 (some (1 + 0)) = 2; decide)
  · exact ⟨t, _, rfl, h, fun _ => go t G (.inl ⟨rfl, rfl, rfl⟩), fun z => absurd ⟨rfl, rfl⟩ z⟩
theorem rep_two {K : PySem.W.Frag} {G : Hp} {t : Addr} {x : V} {T : VK} (h : SqT K G t [x]) (kk : Bool)
    (go : ∀ ot G', (ot = t ∧ G' = G) ∨ (G ot = none ∧ G' = upd G ot (.tup [])) → T (.ref ot) G') : TM.rRep01 K (.ref t) (.int (if kk then 1 else 0)) G T := by
  cases kk with
  | false => exact ⟨t, _, _, rfl, rfl, h, by simp, .inr ⟨rfl, fun q nq => go q _ (.inr ⟨nq, rfl⟩)⟩⟩
  | true => exact ⟨t, _, _, rfl, rfl, h, by simp, .inl ⟨rfl, go t G (.inl ⟨rfl, rfl⟩)⟩⟩
theorem cat_two {K : PySem.W.Frag} {G : Hp} {a b : Addr} {xs ys : List V} {T : VK} (h1 : SqT K G a xs) (h2 : SqT K G b ys) (l1 : xs.length + ys.length ≤ 1000)
    (go : ∀ c G', SqT K G' c (xs ++ ys) → Same G G' → T (.ref c) G') : rCatA K (.ref a) (.ref b) G T := by
  refine ⟨a, b, xs, ys, rfl, rfl, h1, h2, Nat.le_of_lt (LC.small_line (by omega)), fun e => ?_, fun _ e => ?_, fun _ _ q nq => go q _ (SqT.of upd_same) (same_new nq)⟩
  · rw [e] at go
    exact go b G h2 (Same.refl G)
  · rw [e, List.append_nil] at go
    exact go a G h1 (Same.refl G)
section
variable {P : Program} {w : World} {K : PySem.W.Frag} {mg : Str → Option Value} {base : Heap}
def wHands : List Str := ["ha", "hb", "hc"]
/-- a program that is drawn: its names and how long it is -/
structure Known (p : Prog) : Prop where
  few : p.1.length ≤ 2
  box : ∀ b ∈ p.1, b.1 = ("s" : Str) ∨ b.1 = ("t" : Str)
  nm : ∀ h ∈ p.2, h.1 ∈ wHands
  own : ∀ h ∈ p.2, h.2.1 = [] ∨ h.2.1 = ([("x", 2)] : List Box)
  txt : ∀ h ∈ p.2, ∀ t ∈ h.2.2, t.1 ∈ wTexts ∧ t.2.length ≤ 4
def spProg (K : PySem.W.Frag) : Sp := fun vs H Q _ => ∃ (p : Addr) (m : Int), vs = [.ref p, .int m, .bl true] ∧ Pool H p ∧ 1 ≤ m ∧ m ≤ 3 ∧
  ∀ (H' : Hp) (u : V) (pr : Prog), Pool H' p → Same (off p H) (off p H') → Dp K (off p H') u (progD pr) → ProgOk pr → pr.2.length ≤ m → Known pr → Q u H'
set_option maxHeartbeats 8000000 in
theorem ok_prog {f : Addr} {fd : FuncData} {k : Nat} (F : Fun K "_law_program" "_law_program" s_law_program f fd) (T : Def P w K mg base CX0 (k + 1) "_law_take" ["_law_pool_here", "_law_many"] spTake) (R : Def P w K mg base CX0 (k + 1) "_law_texts" ["_law_pool_here", "_law_boxes", "_law_others", "_law_deep"] (spTexts K))
    (mi : mg "int" = none) (mt : mg "tuple" = none) (mli : mg "list" = none) :
    FnOk P w K mg base CX0 (k + 1 + 1) f fd ["_law_pool_here", "_law_most", "_law_deep"] (spProg K) := by
  refine F.ok scProg (fun vs H Q E h => ?_) (fun cdv A outer s H vs Q E hr h => ?_)
  · obtain ⟨p, m, rfl, _⟩ := h
    rfl
  obtain ⟨p, m, rfl, pl, m1, m3, q⟩ := h
  have nd := scProg.nd
  refine ⟨_, pss_cons (ps_set (i := 3) nd rfl (.inl rfl) (pe_slice sl_tupA (pe_tup (pa_cons (pe_tup (pa_cons pe_str (pa_cons pe_int pa_nil))) (pa_cons (pe_tup (pa_cons pe_str (pa_cons (pe_op op_add pe_int (pe_call T.ok hr (by rfl) T.g T.kp T.b .nil pass0 (pa_cons (pv 0) (pa_cons pe_int pa_nil)))) pa_nil))) pa_nil))) po_none (po_some (pe_op op_add pe_int (pe_call T.ok hr (by rfl) T.g T.kp T.b .nil pass0 (pa_cons (pv 0) (pa_cons pe_int pa_nil)))))))
    (pss_cons (ps_set (i := 4) nd rfl (.inl rfl) (pe_slice sl_list (pe_lst (pa_cons pe_str (pa_cons pe_str (pa_cons pe_str pa_nil)))) po_none (po_some (pe_op op_add pe_int (pe_call T.ok hr (by rfl) T.g T.kp T.b .nil pass0 (pa_cons (pv 0) (pa_cons (pv 1) pa_nil)))))))
    (pss_cons (ps_set (i := 5) nd rfl (.inl rfl) (pe_lst pa_nil))
    (pss_cons (ps_for PassesOwn.never rfl (pi_list (pv 4)) (pg_name (i := 6) nd rfl (.inr rfl))
      (pss_cons (ps_set (i := 7) nd rfl (.inl rfl) (pe_op TM.op_rep01 (pe_tup (pa_cons (pe_tup (pa_cons pe_str (pa_cons pe_int pa_nil))) pa_nil)) (pe_callTy call_int1 (by rfl) mi (by decide +kernel) (pa_cons (pe_cmpR op_eq (pe_call T.ok hr (by rfl) T.g T.kp T.b .nil pass0 (pa_cons (pv 0) (pa_cons pe_int pa_nil))) pe_int (nomark _)) pa_nil))))
      (pss_cons (ps_setLc (i := 8) (own := [("_law_other", 9)]) (g := gName 9) (by rfl) nd rfl rfl (sw_true rfl rfl rfl (by decide +kernel)) (pi_list (pv 4))
          (blkOk_by (N := nProg) (sc := defScope s_law_program) (by decide +kernel)) (fun _ _ _ _ _ => pg_name (i := 9) nd rfl (.inl rfl))
          (fun _ _ _ _ _ => pts_one (pt_cmpR op_ne (pv 9) (pv 6) (nomark _))) (fun _ _ _ _ _ => pv 9))
      (pss_one (ps_expr (pe_bm PySem.F.plainAttrs_list PySem.F.slot_list_append PySem.F.type_list_append mt_append (pv 5) (pa_cons (pe_tup (pa_cons (pv 6) (pa_cons (pv 7)
        (pa_cons (pe_call R.ok hr (by rfl) R.g R.kp R.b .nil pass0 (pa_cons (pv 0) (pa_cons (pe_callTy call_list_of (by rfl) mli (by decide +kernel) (pa_cons (pe_op op_catA (pv 3) (pv 7)) pa_nil)) (pa_cons (pv 8) (pa_cons (pv 2) pa_nil))))) pa_nil)))) pa_nil)))))))
    (pss_one (ps_ret (pe_tup (pa_cons (pv 3) (pa_cons (pe_callTy call_tuple_of (by rfl) mt (by decide +kernel) (pa_cons (pv 5) pa_nil)) pa_nil)))))))), ?_⟩
  refine ⟨lz2, fun t1 n1 => ?_⟩
  obtain ⟨a1, a2, a3⟩ := new_tup (K := K) (vs := [.str "s", .int 2]) (ds := [.str "s", .int 2]) (H := H) pl n1 (Same.refl _) (.cons (.str _) (.cons (.int _) .nil))
  generalize upd H t1 (.tup [.str "s", .int 2]) = H1 at a1 a2 a3 ⊢
  refine ⟨_, rfl, p, 2, rfl, a1, by decide, by decide, fun H2 r1 pl2 o2 r10 r11 => ⟨2, r1, rfl, rfl, lz2, fun t2 n2 => ?_⟩⟩
  rw [← o2] at a2 a3
  obtain ⟨b1, b2, b3⟩ := new_tup (K := K) (vs := [.str "t", .int (2 + r1)]) (ds := [.str "t", .int (2 + r1)]) (H := H2) pl2 n2 (Same.refl _) (.cons (.str _) (.cons (.int _) .nil))
  have a4 := dp_same b2 _ _ a3
  have a5 := a2.trans b2
  refine ⟨lz2, fun t3 n3 => ?_⟩
  obtain ⟨c1, c2, c3⟩ := new_tup (K := K) (vs := [.ref t1, .ref t2]) (ds := [boxD ("s", 2), boxD ("t", 2 + r1)]) (H := H) b1 n3 a5 (.cons a4 (.cons b3 .nil))
  have a6 := dp_same (off_mono (p := p) (same_new (o := .tup [.ref t1, .ref t2]) n3)) _ _ a4
  have c4 : SqT K (off p (upd (upd H2 t2 (.tup [.str "t", .int (2 + r1)])) t3 (.tup [.ref t1, .ref t2]))) t3 [.ref t1, .ref t2] := SqT.of (by rw [off_ne (pool_ne b1 n3)]; exact upd_same)
  refine ⟨_, rfl, p, 2, rfl, c1, by decide, by decide, fun H3 r2 pl3 o3 r20 r21 => ⟨1, r2, rfl, rfl, _, rfl, ?_⟩⟩
  rw [← o3] at c2 c3 c4 a6
  clear a1 a2 a3 a4 a5 b1 b2 b3 c1
  refine sl_two (same_tup off_sub c4) r20 r21 fun bt G hG => ?_
  obtain ⟨bs, plG, sHG, hbt, hbs⟩ : ∃ bs : List Box, Pool G p ∧ Same (off p H) (off p G) ∧ Dp K (off p G) (.ref bt) (boxesD bs) ∧ (bs = ([("s", 2)] : List Box) ∨ bs = ([("s", 2), ("t", 2 + r1)] : List Box)) := by
    rcases hG with ⟨rfl, rfl, _⟩ | ⟨_, nb, rfl⟩
    · exact ⟨([("s", 2), ("t", 2 + r1)] : List Box), pl3, c2, c3, .inr rfl⟩
    · obtain ⟨d1, d2, d3⟩ := new_tup (K := K) (vs := [.ref t1]) (ds := [boxD ("s", 2)]) (H := H) pl3 nb c2 (.cons a6 .nil)
      exact ⟨([("s", 2)] : List Box), d1, d2, d3, .inl rfl⟩
  clear hG c2 c3 c4 a6 pl3 o3
  -- the names
  refine ⟨by show 3 ≤ sizeLine; decide, fun x0 n0 => ?_⟩
  have s0 : Same G (upd G x0 (.lst [.str "ha", .str "hb", .str "hc"])) := same_new n0
  have x0p := pool_ne plG n0
  refine ⟨_, rfl, _, rfl, p, m, rfl, pool_same plG s0, by omega, by omega, fun G1 r3 pl4 o4 r30 r31 => ⟨1, r3, rfl, rfl, _, rfl, x0, _, rfl, SqL.of (off_sub _ _ (by rw [o4, off_ne x0p]; exact upd_same)), fun na nna => ?_⟩⟩
  obtain ⟨nms, hnn, hcut, hln⟩ : ∃ nms : List Str, (nms = ([("ha" : Str)] : List Str) ∨ nms = ([("ha" : Str), ("hb" : Str)] : List Str) ∨ nms = ([("ha" : Str), ("hb" : Str), ("hc" : Str)] : List Str)) ∧ cutV [.str "ha", .str "hb", .str "hc"] none (some (1 + r3)) = nms.map V.str ∧ (nms.length : Int) = 1 + r3 := by
    have : r3 = 0 ∨ r3 = 1 ∨ r3 = 2 := by omega
    rcases this with rfl | rfl | rfl
    · exact ⟨_, .inl rfl, rfl, rfl⟩
    · exact ⟨_, .inr (.inl rfl), rfl, rfl⟩
    · exact ⟨_, .inr (.inr rfl), rfl, rfl⟩
  rw [hcut]
  have sG1 : Same (off p G) (off p G1) := by
    rw [o4]
    exact off_mono s0
  have nap := pool_ne pl4 nna
  refine ⟨Nat.zero_le _, fun fa nfa => ?_⟩
  have s2 : Same G1 (upd G1 na (.lst (nms.map V.str))) := same_new nna
  have pl5 := pool_same pl4 s2
  have fap := pool_ne pl5 nfa
  have s3 : Same (upd G1 na (.lst (nms.map V.str))) (upd (upd G1 na (.lst (nms.map V.str))) fa (.lst [])) := same_new nfa
  have pl6 := pool_same pl5 s3
  have sG3 := sG1.trans (off_mono (p := p) (s2.trans s3))
  have sH3 := sHG.trans sG3
  have nfH : off p H fa = none := same_none (sHG.trans sG1) (same_none (off_mono s2) (off_none nfa))
  have hna3 : off p (upd (upd G1 na (.lst (nms.map V.str))) fa (.lst [])) na = some (.lst (nms.map V.str)) := by
    rw [off_ne nap]
    exact s3 _ _ upd_same
  have hfa3 : off p (upd (upd G1 na (.lst (nms.map V.str))) fa (.lst [])) fa = some (.lst []) := by
    rw [off_ne fap]
    exact upd_same
  have fna : fa ≠ na := fun z => by
    rw [z, upd_same] at nfa
    cases nfa
  have hbt3 := dp_same sG3 _ _ hbt
  generalize upd (upd G1 na (.lst (nms.map V.str))) fa (.lst []) = G3 at pl6 sH3 hna3 hfa3 hbt3 ⊢
  clear s2 s3 nna nfa pl5 sG3
  have nl3 : nms.length ≤ 3 := by omega
  have wn : Words nms := ⟨by omega, fun z hz => by
    rcases hnn with rfl | rfl | rfl <;> simp at hz <;> rcases hz with rfl | rfl | rfl <;> decide +kernel⟩
  have hnd : nms.Nodup := by rcases hnn with rfl | rfl | rfl <;> decide +kernel
  have bnd : BoxesOk bs 8 4 [] ∧ 1 ≤ bs.length ∧ bs.length ≤ 2 := by
    rcases hbs with rfl | rfl
    · refine ⟨⟨by show 1 ≤ 8; decide, fun b hb => ?_, by decide +kernel⟩, by show 1 ≤ 1; decide, by show 1 ≤ 2; decide⟩
      rw [List.mem_singleton.mp hb]
      exact ⟨by decide +kernel, by decide, by decide, fun z => nomatch z⟩
    · refine ⟨⟨by show 2 ≤ 8; decide, fun b hb => ?_, by show ([("s" : Str), ("t" : Str)] : List Str).Nodup; decide +kernel⟩, by show 1 ≤ 2; decide, by show 2 ≤ 2; decide⟩
      rcases List.mem_cons.mp hb with rfl | hb
      · exact ⟨by decide +kernel, by decide, by decide, fun z => nomatch z⟩
      · rw [List.mem_singleton.mp hb]
        exact ⟨by show nameB "t" = true; decide +kernel, by show 1 ≤ 2 + r1; omega, by show 2 + r1 ≤ 4; omega, fun z => nomatch z⟩
  have own0 : ∀ ob : List Box, ob = [] ∨ ob = ([("x", 2)] : List Box) → BoxesOk ob 24 8 (bs.map (·.1)) ∧ Draw (bs ++ ob) ∧ ob.length ≤ 1 := by
    intro ob ho
    have mem : ∀ b ∈ bs, (b.1 = ("s" : Str) ∨ b.1 = ("t" : Str)) ∧ 1 ≤ b.2 ∧ b.2 ≤ 3 := fun b hb => by
      rcases hbs with rfl | rfl
      · rw [List.mem_singleton.mp hb]
        exact ⟨.inl rfl, by decide, by decide⟩
      · rcases List.mem_cons.mp hb with rfl | hb
        · exact ⟨.inl rfl, by decide, by decide⟩
        · rw [List.mem_singleton.mp hb]
          exact ⟨.inr rfl, by show 1 ≤ 2 + r1; omega, by show 2 + r1 ≤ 3; omega⟩
    have lay : ∀ b ∈ bs, PyData.strOk b.1 = true := fun b hb => by
      rcases (mem b hb).1 with e | e <;> rw [e] <;> decide +kernel
    have nx : ("x" : Str) ∉ bs.map (·.1) := fun z => by
      obtain ⟨b, hb, e⟩ := List.mem_map.mp z
      rcases (mem b hb).1 with e2 | e2 <;> rw [e2] at e <;> exact absurd e (by decide +kernel)
    have nm := bnd.1.nd
    obtain ⟨_, l1, l2⟩ := bnd
    rcases ho with rfl | rfl
    · refine ⟨⟨Nat.zero_le _, fun _ z => (nomatch z), List.nodup_nil⟩, ?_, Nat.zero_le _⟩
      rw [List.append_nil]
      exact ⟨l1, by omega, nm, fun b hb => ⟨(mem b hb).2.1, by have := (mem b hb).2.2; omega⟩, lay⟩
    · refine ⟨⟨by show 1 ≤ 24; decide, fun b hb => ?_, ?_⟩, ⟨?_, ?_, ?_, fun b hb => ?_, fun b hb => ?_⟩, by show 1 ≤ 1; decide⟩
      · rw [List.mem_singleton.mp hb]
        exact ⟨by show nameB "x" = true; decide +kernel, by decide, by decide, nx⟩
      · show ([("x" : Str)] : List Str).Nodup
        decide +kernel
      · rw [List.length_append]
        omega
      · rw [List.length_append]
        show bs.length + 1 ≤ 100
        omega
      · rw [List.map_append, List.nodup_append]
        refine ⟨nm, by show ([("x" : Str)] : List Str).Nodup; decide +kernel, fun a ha b hb e => ?_⟩
        have hb2 : b = ("x" : Str) := List.mem_singleton.mp hb
        rw [e, hb2] at ha
        exact nx ha
      · rcases List.mem_append.mp hb with hb | hb
        · exact ⟨(mem b hb).2.1, by have := (mem b hb).2.2; omega⟩
        · rw [List.mem_singleton.mp hb]
          exact ⟨by decide, by decide⟩
      · rcases List.mem_append.mp hb with hb | hb
        · exact lay b hb
        · rw [List.mem_singleton.mp hb]
          show PyData.strOk "x" = true
          decide +kernel
  refine ⟨_, rfl, na, rfl, ⟨_, SqL.of (off_sub _ _ hna3)⟩, for_it (walk_list (a := na) (xs := nms.map V.str) (K := K)) (fun i σ G => ∃ v6 v7 v8 v9, σ = [some (.ref p), some (.int m), some (.bl true), some (.ref bt), some (.ref na), some (.ref fa), v6, v7, v8, v9] ∧ Pool G p ∧ Same (off p H) (off p G) ∧ off p G na = some (.lst (nms.map V.str)) ∧ Dp K (off p G) (.ref bt) (boxesD bs) ∧
      ∃ (acc : List V) (hl : List Hand), off p G fa = some (.lst acc) ∧ DpAll K (off fa (off p G)) acc (hl.map handD) ∧ hl.map (·.1) = nms.take i ∧ ∀ h ∈ hl, (h.2.1 = [] ∨ h.2.1 = ([("x", 2)] : List Box)) ∧ TextsOk (bs ++ h.2.1) (nms.filter fun z => decide (z ≠ h.1)) h.2.2 ∧ ∀ t ∈ h.2.2, t.1 ∈ wTexts ∧ t.2.length ≤ 4)
    ⟨none, none, none, none, rfl, pl6, sH3, hna3, hbt3, [], [], hfa3, .nil, rfl, fun _ z => nomatch z⟩ (fun i σ G _ h => ?_) (fun i y σ G G' hi h hy => ?_) (fun σ G h => ?_)⟩
  · obtain ⟨_, _, _, _, _, _, _, ht, _⟩ := h
    exact SqL.of (off_sub _ _ ht)
  · obtain ⟨v6, v7, v8, v9, rfl, plG, sG, htG, hbG, acc, hl, hfG, hacc, hnm, hhl⟩ := h
    obtain ⟨rfl, ey⟩ := hy
    rw [List.length_map] at hi
    have ei : (nms.map V.str)[i]? = some (.str nms[i]) := by rw [List.getElem?_map, List.getElem?_eq_getElem hi]; rfl
    rw [ei] at ey
    cases ey
    refine ⟨lz2, fun t1 n1 => ⟨lz1, fun t2 n2 => ?_⟩⟩
    obtain ⟨a1, a2, a3⟩ := new_tup (K := K) (vs := [.str "x", .int 2]) (ds := [.str "x", .int 2]) (H := G') plG n1 (Same.refl _) (.cons (.str _) (.cons (.int _) .nil))
    obtain ⟨b1, b2, b3⟩ := new_tup (K := K) (vs := [.ref t1]) (ds := [boxD ("x", 2)]) (H := G') a1 n2 a2 (.cons a3 .nil)
    have b4 : SqT K (off p (upd (upd G' t1 (.tup [.str "x", .int 2])) t2 (.tup [.ref t1]))) t2 [.ref t1] := SqT.of (by rw [off_ne (pool_ne a1 n2)]; exact upd_same)
    refine ⟨_, rfl, p, 3, rfl, b1, by decide, by decide, fun G1 r pl7 o7 r0 r1' => ⟨rfl, .inr ⟨_, rfl, rep_two (same_tup off_sub (o7 ▸ b4)) _ fun ot G2 hG2 => ?_⟩⟩⟩
    rw [← o7] at b2 b3 b4
    obtain ⟨ob, pl8, sG2, hot, hob⟩ : ∃ ob : List Box, Pool G2 p ∧ Same (off p G') (off p G2) ∧ Dp K (off p G2) (.ref ot) (boxesD ob) ∧ (ob = [] ∨ ob = ([("x", 2)] : List Box)) := by
      rcases hG2 with ⟨rfl, rfl⟩ | ⟨nb, rfl⟩
      · exact ⟨([("x", 2)] : List Box), pl7, b2, b3, .inr rfl⟩
      · obtain ⟨d1, d2, d3⟩ := new_tup (K := K) (vs := []) (ds := []) (H := G') pl7 nb b2 .nil
        exact ⟨[], d1, d2, d3, .inl rfl⟩
    clear hG2 a1 a2 a3 b1 b2 b3 b4 pl7 o7 n1 n2
    obtain ⟨_, drw, obl⟩ := own0 ob hob
    have ht2 := sG2 _ _ htG
    -- others
    refine ⟨_, rfl, na, rfl, ⟨_, SqL.of (off_sub _ _ ht2)⟩, fun D nD => ?_⟩
    refine LC.lc_sift (walk_list (a := na) (xs := nms.map V.str) (K := K)) (fun H' s' => s'.seq (SqL.of (off_sub _ _ ht2))) (by rw [List.length_map]; omega) nD (fun v => !decide (v = V.str nms[i])) (fun x H7 R mx s8 fin => ⟨rfl, ?_⟩) (fun H7 s8 hD => ?_)
    · obtain ⟨z, _, rfl⟩ := List.mem_map.mp mx
      refine ⟨_, rfl, _, rfl, rfl, _, rfl, ?_⟩
      exact fin [some (.ref p), some (.int m), some (.bl true), some (.ref bt), some (.ref na), some (.ref fa), some (.str nms[i]), some (.ref ot), v8, some (.str z)] H7 (Same.refl H7) fun Q' h => ⟨_, rfl, h⟩
    have eD : D ≠ p := pool_ne pl8 nD
    have pl9 := pool_same pl8 s8
    have s78 : Same (off p G2) (off p H7) := off_mono s8
    have hfilt : (nms.map V.str).filter (fun v => !decide (v = V.str nms[i])) = (nms.filter fun z => decide (z ≠ nms[i])).map V.str := by
      rw [List.filter_map]
      congr 1
      refine List.filter_congr fun z _ => ?_
      simp [Function.comp]
    have hD7 : off p H7 D = some (.lst ((nms.filter fun z => decide (z ≠ nms[i])).map V.str)) := by
      rw [off_ne eD, ← hfilt]
      exact hD
    have sG7 := sG2.trans s78
    have hf7 := sG7 _ _ hfG
    have ht7 := sG7 _ _ htG
    have hb7 := dp_same sG7 _ _ hbG
    have ho7 := dp_same s78 _ _ hot
    have ha7 := dpAll_same (off_mono (p := fa) sG7) _ _ hacc
    have sH7 := sG.trans sG7
    have wf : Words (nms.filter fun z => decide (z ≠ nms[i])) := ⟨Nat.le_trans (List.length_filter_le _ _) (by omega), fun z hz => wn.lay z (List.mem_filter.mp hz).1⟩
    obtain ⟨ab, xs, eab, hxs, hxa⟩ := dp_tup hb7
    cases eab
    obtain ⟨ao, ys, eao, hys, hya⟩ := dp_tup ho7
    cases eao
    have xl : xs.length = bs.length := by rw [dpAll_len hxa, List.length_map]
    have yl : ys.length = ob.length := by rw [dpAll_len hya, List.length_map]
    refine ⟨_, rfl, .inl ⟨rfl, _, SqL.of (off_sub _ _ hf7)⟩, _, rfl, _, rfl, _, rfl, _, rfl, _, rfl, cat_two (same_tup off_sub hxs) (same_tup off_sub hys) (by have := bnd.2.2; omega) fun c G4 hc s4 => ⟨c, _, rfl, .inr hc, fun l nl => ?_⟩⟩
    have pl10 := pool_same pl9 s4
    have lp := pool_ne pl10 nl
    have s5 : Same G4 (upd G4 l (.lst (xs ++ ys))) := same_new nl
    have s75 : Same (off p H7) (off p (upd G4 l (.lst (xs ++ ys)))) := off_mono (s4.trans s5)
    have hl5 : off p (upd G4 l (.lst (xs ++ ys))) l = some (.lst (xs ++ ys)) := by
      rw [off_ne lp]
      exact upd_same
    have pl11 := pool_same pl10 s5
    generalize upd G4 l (.lst (xs ++ ys)) = G5 at s75 hl5 pl11 ⊢
    refine ⟨_, rfl, _, rfl, p, l, D, xs ++ ys, bs ++ ob, _, rfl, pl11, SqL.of hl5, ?_, drw, SqL.of (s75 _ _ hD7), wf, fun G6 u ts pl12 s6 hu hts htw => ⟨lz3, fun t nt => ?_⟩⟩
    · rw [List.map_append]
      exact dpAll_app (dpAll_same s75 _ _ hxa) (dpAll_same s75 _ _ hya)
    have s76 := s75.trans s6
    obtain ⟨e1, e2, e3⟩ := new_tup (ds := [.str nms[i], boxesD ob, .tuple (ts.map textD)]) (H := H7) pl12 nt s76 (.cons (.str _) (.cons (dp_same s76 _ _ ho7) (.cons hu .nil)))
    generalize upd G6 t (.tup [.str nms[i], .ref ot, u]) = G8 at e1 e2 e3 ⊢
    have hf8 := e2 _ _ hf7
    have e4 := dp_hide hf8 _ _ (to_hand (nms[i], ob, ts)) e3
    have ha8 := dpAll_same (off_mono (p := fa) e2) _ _ ha7
    have al : acc.length ≤ 3 := by
      have z1 := dpAll_len hacc
      have z2 := congrArg List.length hnm
      rw [List.length_map] at z1 z2
      rw [List.length_take] at z2
      omega
    refine ⟨fa, acc, _, rfl, rfl, (off_at hf8).1, LC.small_line (by omega), _, _, _, _, rfl, pool_put e1 fap, ?_, ?_, ?_, acc ++ [.ref t], hl ++ [(nms[i], ob, ts)], ?_, ?_, ?_, ?_⟩
    · rw [off_put fap]
      exact same_put (sH7.trans e2) nfH
    · rw [off_put fap, upd_ne fna.symm]
      exact e2 _ _ ht7
    · rw [off_put fap]
      exact dp_same (fun b o h => by
        obtain ⟨h1, h2⟩ := off_at h
        rw [upd_ne h2]
        exact h1) _ _ (dp_hide hf8 _ _ (to_map fun b _ => to_box b) (dp_same e2 _ _ hb7))
    · rw [off_put fap]
      exact upd_same
    · rw [off_put fap, off_upd, List.map_append]
      exact dpAll_app ha8 (.cons e4 .nil)
    · rw [List.map_append, hnm, List.take_succ, List.getElem?_eq_getElem hi]
      rfl
    · intro h' hh'
      rcases List.mem_append.mp hh' with z | z
      · exact hhl h' z
      · rw [List.mem_singleton.mp z]
        exact ⟨hob, hts, htw⟩
  · obtain ⟨v6, v7, v8, v9, rfl, plG, sG, htG, hbG, acc, hl, hfG, hacc, hnm, hhl⟩ := h
    rw [List.length_map, List.take_length] at hnm
    refine ⟨_, rfl, _, rfl, fa, _, rfl, .inl ⟨SqL.of (off_sub _ _ hfG), fun t nt => ⟨lz2, fun t2 nt2 => ?_⟩⟩⟩
    obtain ⟨a1, a2, a3⟩ := new_tup (H := G) plG nt (Same.refl _) (dpAll_same off_sub _ _ hacc)
    have hb2 := dp_same a2 _ _ hbG
    obtain ⟨b1, b2, b3⟩ := new_tup (ds := [boxesD bs, .tuple (hl.map handD)]) (H := H) a1 nt2 (sG.trans a2) (.cons hb2 (.cons a3 .nil))
    have hlen : hl.length = nms.length := by rw [← hnm, List.length_map]
    refine q _ _ (bs, hl) b1 b2 b3 ⟨bnd.1, ?_, ?_, fun h hh => ?_, ?_, fun h hh => (own0 _ (hhl h hh).1).1, fun h hh => ?_⟩ ?_ ⟨bnd.2.2, fun b hb => ?_, fun h hh => ?_, fun h hh => (hhl h hh).1, fun h hh => (hhl h hh).2.2⟩
    · show 1 ≤ hl.length
      omega
    · show hl.length ≤ 4
      omega
    · have mt2 : h.1 ∈ nms := by
        rw [← hnm]
        exact List.mem_map_of_mem hh
      generalize h.1 = z at mt2
      rcases hnn with rfl | rfl | rfl <;> simp at mt2 <;> rcases mt2 with rfl | rfl | rfl <;> decide +kernel
    · show (hl.map (·.1)).Nodup
      rw [hnm]
      exact hnd
    · show TextsOk (bs ++ h.2.1) ((hl.map (·.1)).filter fun z => decide (z ≠ h.1)) h.2.2
      rw [hnm]
      exact (hhl h hh).2.1
    · show (hl.length : Int) ≤ m
      omega
    · show b.1 = _ ∨ b.1 = _
      rcases hbs with rfl | rfl
      · rw [List.mem_singleton.mp hb]
        exact .inl rfl
      · rcases List.mem_cons.mp hb with rfl | hb
        · exact .inl rfl
        · rw [List.mem_singleton.mp hb]
          exact .inr rfl
    · have mt2 : h.1 ∈ nms := by
        rw [← hnm]
        exact List.mem_map_of_mem hh
      generalize h.1 = z at mt2
      rcases hnn with rfl | rfl | rfl <;> simp at mt2 <;> rcases mt2 with rfl | rfl | rfl <;> decide +kernel
end
end PP

set_option maxHeartbeats 4000000
/-! list comprehensions of more clauses: a clause's loop over what stands behind it, whatever that is -/
namespace L3
open PySem PySem.Spec PyProof.Rows L2
/-- how a clause's turn goes: what it draws is stored and tested, then k, else on with the loop -/
def Goes (c : Expr) (d : Nat) (p : Pos) (t : Expr) (ifs : List Expr) (it acc : Value) (env : Env) (k : Sem Fin) : Prop :=
  compTurn c d it acc env = (do
    standAt p
    match ← pyNext it with
    | none => pure (.done .next)
    | some v =>
      letOwnedTupleGo t it v
      assign t env v
      let ok ← (forIn ifs true fun c r => if r = true then do let ok ← isTrue c env (eval c env); pure (ForInStep.yield ok) else pure (ForInStep.yield r))
      if ok = true then k else again (.compLoop c d it acc env))
/-- a clause behind another one -/
def kIn (c : Expr) (d : Nat) (iter : Expr) (acc : Value) (env : Env) (a : Code) : Sem Fin := do
  let x ← eval iter env
  standAt iter.pos
  let x ← foldedSetIterable iter env x
  let _ ← runOwn (.compStart c d (← holding [x] (pyIter x)) acc env) env
  again a
def kEnd (elt : Expr) (acc : Value) (env : Env) (a : Code) : Sem Fin := do
  (do let _ ← call (.builtin "list.append") [acc, ← eval elt env])
  again a
theorem goes_in {elt : Expr} {gens : List Comprehension} {scope : Scope} {cpos : Pos} {d : Nat} {t i t1 i1 : Expr} {ifs ifs1 : List Expr} {it acc : Value} {env : Env} (h : gens[d]? = some ⟨t, i, ifs, 0⟩) (h1 : gens[d + 1]? = some ⟨t1, i1, ifs1, 0⟩) :
    Goes (.ListComp elt gens scope cpos) d i.pos t ifs it acc env (kIn (.ListComp elt gens scope cpos) (d + 1) i1 acc env (.compLoop (.ListComp elt gens scope cpos) d it acc env)) := by
  unfold Goes compTurn kIn
  simp only [h, h1]
  rfl
theorem goes_end {elt : Expr} {gens : List Comprehension} {scope : Scope} {cpos : Pos} {d : Nat} {t i : Expr} {ifs : List Expr} {it acc : Value} {env : Env} (h : gens[d]? = some ⟨t, i, ifs, 0⟩) (h1 : gens[d + 1]? = none) :
    Goes (.ListComp elt gens scope cpos) d i.pos t ifs it acc env (kEnd elt acc env (.compLoop (.ListComp elt gens scope cpos) d it acc env)) := by
  unfold Goes compTurn kEnd
  simp only [h, h1]
  rfl
/-- a piece of code at B that ends by a: from σ, H it comes to R; of the slots those in vs are forgotten -/
def Seg (B : Cx) (k : Sem Fin) (a : Code) (t : L2.St → Hp → (Hp → Prop) → Prop) (vs : List Nat) : Prop :=
  ∀ pins s σ H R, Inv B pins σ H s → t σ H R → wpAny (model B.prog B.w) B.A k (fun fin s' => fin = .again a ∧ ∃ H', Inv B pins (wipe σ vs) H' s' ∧ R H') (fun _ _ => False) s
abbrev Tc := L2.St → Hp → (Hp → Prop) → Prop
/-- a loop over J: D what is reached behind it -/
def tOver (g : TG) (tt : TT) (tb : Tc) (vs : List Nat) (J : It) (σ : L2.St) (H : Hp) (Dn : Hp → Prop) : Prop := ∃ W : Nat → Nat → Hp → Prop, (∃ m, W 0 m H) ∧ ∀ i m H, W i m H →
  (J.stop i H ∧ Dn H) ∨ (J.go i H ∧ ∃ Nx : Hp → Prop, (∀ H', Nx H' → ∃ m', m' < m ∧ W (i + 1) m' H') ∧ ∀ x H', J.yld i H x H' → g x (wipe σ vs) H' fun σ2 H2 => wipe σ2 vs = wipe σ vs ∧ tt σ2 H2 fun b H3 => if b = true then tb σ2 H3 Nx else Nx H3)
theorem wipe_off {σ : L2.St} {i : Nat} : ∀ {vs : List Nat}, i ∉ vs → (wipe σ vs)[i]? = σ[i]? := fun h => wipe_out h
section
variable {B : Cx}
/-- a loop of a clause, run -/
theorem run_over {elt tg : Expr} {gens : List Comprehension} {scope : Scope} {cpos : Pos} {d : Nat} {p : Pos} {ifs : List Expr} {it : Addr} {acc : Value} {k : Sem Fin} {g : TG} {tt : TT} {tb : Tc} {vs vs1 : List Nat} {J : It} {fp : List Addr} {tn : Nat → Heap → Prop} {pins : List (Addr × Obj)} {σ : L2.St} {H : Hp} {s : Shared} {Dn : Hp → Prop} {R : Result → Shared → Prop}
    (hc : B.calm = true) (hx : B.xe = fun _ _ => False) (T : Turn B.prog B.w B.K tg J fp it tn) (ht : Goes (.ListComp elt gens scope cpos) d p tg ifs (.ref it) acc B.env k) (pg : PG B tg g) (pt : PTs B ifs tt) (sg : Seg B k (.compLoop (.ListComp elt gens scope cpos) d (.ref it) acc B.env) tb vs1) (hv : ∀ i ∈ vs1, i ∈ vs)
    (ok : ∀ {σ' : L2.St} {H' : Hp} {s' : Shared}, Inv B pins σ' H' s' → (∀ b ∈ fp, H' b = none) → ∀ b ∈ fp, FpOk B pins H' b) (I : Inv B pins (wipe σ vs) H s) (st : tn 0 s.heap) (nf : ∀ b ∈ fp, H b = none) (hq : tOver g tt tb vs J σ H Dn)
    (fin : ∀ H' s', Inv B pins (wipe σ vs) H' s' → Dn H' → R (.ok .next) s') : codeAny (model B.prog B.w) B.A (.compLoop (.ListComp elt gens scope cpos) d (.ref it) acc B.env) R s := by
  obtain ⟨W, ⟨m0, w0⟩, turn⟩ := hq
  refine codeAny_loop rfl (fun n s' => ∃ i H', Inv B pins (wipe σ vs) H' s' ∧ tn i s'.heap ∧ (∀ b ∈ fp, H' b = none) ∧ W i n H') (fun n s1 hI => ?_) m0 ⟨0, H, I, st, nf, w0⟩
  obtain ⟨i, H1, I1, st1, n1, w1⟩ := hI
  show wpAny _ B.A ((compTurn (.ListComp elt gens scope cpos) d (.ref it) acc B.env).onRaise fun x => do noteFrame x B.env; theTreesLotGoes x) _ _ s1
  refine wpAny_noted ?_
  rw [show compTurn (.ListComp elt gens scope cpos) d (.ref it) acc B.env = _ from ht]
  refine wpAny_bind (wpAny_standAt ?_)
  refine wpAny_bind ?_
  rcases turn i n H1 w1 with ⟨stop, dn⟩ | ⟨go, Nx, hNx, step⟩
  · refine thnF (T.done B rfl rfl rfl hc i pins s1 _ H1 (fun _ _ => False) I1 (ok I1 n1) st1 stop) fun r s2 ⟨hr, I2⟩ => ?_
    subst hr
    exact wpAny_pure (fin H1 s2 I2 dn)
  · refine thnF (T.item B rfl rfl rfl hc i pins s1 _ H1 (fun _ _ => False) I1 (ok I1 n1) st1 go) fun r s2 ⟨u, hr, h2⟩ => ?_
    subst hr
    refine wpAny_bind (thnF h2 fun _ s3 ⟨x, H3, I3, r3, y3, st3, n3⟩ => ?_)
    have I3' := I3.pinned (ok I3 n3) (T.obj _ _ st3)
    have pr := pg.run _ s3 _ H3 x u _ I3' r3 (step x H3 y3)
    rw [hx] at pr
    refine wpAny_bind (thnF pr fun _ s4 ⟨σ4, H4, I4, hw4, q4⟩ => ?_)
    have tr := pt.run _ s4 σ4 H4 _ I4 q4
    rw [hx] at tr
    refine wpAny_bind (thnF tr fun b s5 ⟨H5, I5, q5⟩ => ?_)
    have done : ∀ {σ6 : L2.St} {s' : Shared} {H' : Hp}, Inv B (pins ++ pinsAt fp s3.heap) σ6 H' s' → (wipe σ vs).length = σ6.length → (∀ (j : Nat) v, (wipe σ vs)[j]? = some (some v) → σ6[j]? = some (some v)) → Nx H' →
        ∃ m, m < n ∧ ∃ i H', Inv B pins (wipe σ vs) H' s' ∧ tn i s'.heap ∧ (∀ b ∈ fp, H' b = none) ∧ W i m H' := fun {σ6 s' H'} I' l6 k6 nx => by
      obtain ⟨m', hm, w'⟩ := hNx H' nx
      have kept : ∀ b ∈ fp, ∀ o, s3.heap.get? b = some o → s'.heap.get? b = some o ∧ H' b = none := fun b hb o e => by
        have z := I'.pin (b, o) (List.mem_append_right _ (List.mem_append_right _ (mem_pinsAt hb e)))
        exact ⟨z.1, z.2.1⟩
      refine ⟨m', hm, i + 1, H', I'.unpinned.weak l6 k6, T.keep _ _ _ st3 fun b hb o e => (kept b hb o e).1, fun b hb => ?_, w'⟩
      obtain ⟨o, e, _⟩ := T.obj _ _ st3 b hb
      exact (kept b hb o e).2
    have l4 : (wipe σ vs).length = σ4.length := by rw [← hw4, wipe_length]
    have k4 : ∀ (j : Nat) v, (wipe σ vs)[j]? = some (some v) → σ4[j]? = some (some v) ∧ j ∉ vs := fun j v e => by
      rw [← hw4] at e
      exact wipe_some e
    cases b with
    | false =>
      rw [if_neg Bool.false_ne_true]
      rw [if_neg Bool.false_ne_true] at q5
      exact wpAny_pure ⟨rfl, done I5 l4 (fun j v e => (k4 j v e).1) q5⟩
    | true =>
      rw [if_pos rfl]
      rw [if_pos rfl] at q5
      refine thnF (sg _ s5 σ4 H5 _ I5 q5) fun fi s6 ⟨hf, H6, I6, nx⟩ => ?_
      subst hf
      exact ⟨rfl, done I6 (l4.trans (wipe_length σ4 vs1).symm) (fun j v e => by
        obtain ⟨e1, e2⟩ := k4 j v e
        rw [wipe_off fun z => e2 (hv j z)]
        exact e1) nx⟩
/-- what is made is put to the list -/
theorem seg_emit {elt : Expr} {te : TE} {D : Addr} {a : Code} (hx : B.xe = fun _ _ => False) (he : PE B elt te) :
    Seg B (kEnd elt (.ref D) B.env a) a (fun σ H R => te σ H fun y H4 => ∃ acc, H4 D = some (.lst acc) ∧ acc.length < sizeLine ∧ R (upd H4 D (.lst (acc ++ [y])))) [] := by
  intro pins s σ H R I h
  unfold kEnd
  have er := he.run pins s σ H _ I h
  rw [hx] at er
  refine wpAny_bind (wpAny_bind (thnF er fun v s1 ⟨y, H1, I1, r1, acc, hD, hz, q⟩ => ?_))
  refine wpAny_bind (app_ok I1 hD hz r1 fun s2 I2 => wpAny_pure ?_)
  exact wpAny_pure ⟨rfl, _, I2, q⟩
def tIn (wi : TI) (g : TG) (tt : TT) (tb : Tc) (vs : List Nat) : Tc := fun σ H R => wi σ H fun J H1 => tOver g tt tb vs J σ H1 R
theorem start_in {prog : Program} {w : World} {A : Around} {R : Result → Shared → Prop} {s : Shared} {elt : Expr} {gens : List Comprehension} {scope : Scope} {cpos : Pos} {d : Nat} {it acc : Value} {env : Env} {p : Pos} {t i : Expr} {ifs : List Expr} (hcl : gens[d]? = some ⟨t, i, ifs, 0⟩)
    (h0 : codeAny (model prog w) A (.compLoop (.ListComp elt gens scope cpos) d it acc env) R s) (h : wpAny (model prog w) A (pyIter it) (fun it' s' => codeAny (model prog w) A (.compLoop (.ListComp elt gens scope cpos) d it' acc env) R s') (notedBy (model prog w) A env fun x s' => R (.error x) s') s) :
    codeAny (model prog w) A (.compStart (.ListComp elt gens scope cpos) d it acc env) R s := by
  refine codeAny_of_tree ?_
  show wpAny _ _ ((compStart (.ListComp elt gens scope cpos) d it acc env).onRaise fun x => do noteFrame x env; standAt theWindowsPlace) _ _ s
  refine wpAny_notedAt ?_
  unfold compStart
  rw [show clausesOf (.ListComp elt gens scope cpos) = gens from rfl, hcl]
  show wpAny _ _ (ask >>= _) _ _ s
  refine wpAny_bind (wpAny_askSetting (wpAny_ite ?_))
  split
  · exact wpAny_bind (wpAny_pure (wpAny_pure ⟨rfl, h0⟩))
  · refine wpAny_bind (wpAny_rule ?_)
    show wpAny _ _ (standAt i.pos >>= _) _ _ s
    exact wpAny_bind (wpAny_standAt (wpAny_bind (wpAny_mono h (fun it' s' h' => wpAny_pure ⟨rfl, h'⟩) fun _ _ x => x)))
theorem seg_in {elt tg iter : Expr} {gens : List Comprehension} {scope : Scope} {cpos : Pos} {d : Nat} {p : Pos} {ifs : List Expr} {acc : Value} {a : Code} {k : Value → Sem Fin} {wi : TI} {g : TG} {tt : TT} {tb : Tc} {vs vs1 : List Nat} (hc : B.calm = true) (hx : B.xe = fun _ _ => False) (hcl : gens[d]? = some ⟨tg, iter, ifs, 0⟩)
    (ht : ∀ it, Goes (.ListComp elt gens scope cpos) d p tg ifs it acc B.env (k it)) (pi : PI B tg iter wi) (pg : PG B tg g) (pt : PTs B ifs tt) (sg : ∀ it, Seg B (k it) (.compLoop (.ListComp elt gens scope cpos) d it acc B.env) tb vs1) (hv : ∀ i ∈ vs1, i ∈ vs) (hs : ∀ x, foldedSetIterable iter B.env x = pure x) :
    Seg B (kIn (.ListComp elt gens scope cpos) d iter acc B.env a) a (tIn wi g tt tb vs) vs := by
  intro pins s σ H R I h
  have ir := pi.run pins s σ H _ I h
  rw [hx] at ir
  unfold kIn
  refine wpAny_bind (thnF ir fun xv s1 h1 => ?_)
  refine wpAny_bind (wpAny_standAt (wpAny_bind (wpAny_of_eq (hs xv) (wpAny_bind (wpAny_holding (thnF h1 fun itv s2 h2 => ?_))))))
  obtain ⟨it, fp, tn, J, H2, e, I2, T, st2, f2, hq⟩ := h2
  subst e
  refine wpAny_bind (wpAny_runOwn ?_)
  rw [Around.mark_none]
  have loop : codeAny (model B.prog B.w) B.A (.compLoop (.ListComp elt gens scope cpos) d (.ref it) acc B.env) (fun r s' => match r with | .ok f => wpAny (model B.prog B.w) B.A (again a : Sem Fin) (fun fin s' => fin = .again a ∧ ∃ H', Inv B pins (wipe σ vs) H' s' ∧ R H') (fun _ _ => False) s' | .error e => cameBackBy (model B.prog B.w) B.A B.env (fun _ _ => False) e s') s2 :=
    run_over hc hx T (ht (.ref it)) pg pt (sg (.ref it)) hv (fun I' hn b hb => ⟨hn b hb, (f2 b hb).2⟩) (I2.weak (wipe_length _ _) (fun j v e => (wipe_some e).1)) st2 (fun b hb => (f2 b hb).1) hq fun H' s' I' q => wpAny_pure ⟨rfl, H', I', q⟩
  exact start_in (p := p) hcl loop (T.self B.A 0 _ _ _ st2 loop)
end
section
variable {X : Cx}
/-- the whole of it -/
def tTop (wi : TI) (g : TG) (tt : TT) (tb : Addr → Tc) (vs : List Nat) : TE := fun σ H Q => wi σ H fun J H1 => ∀ D, H1 D = none → tOver g tt (tb D) vs J σ (upd H1 D (.lst [])) fun H2 => Q (.ref D) H2
theorem pe_lcN {elt tg iter : Expr} {ifs : List Expr} {rest : List Comprehension} {scope : Scope} {own : List (Str × Nat)} {vs1 : List Nat} {cpos p : Pos} {wi : TI} {g : TG} {tt : TT} {tb : Addr → Tc} (hc : X.calm = true) (hN : X.N.Nodup) (hi : PI X tg iter wi) (ok : BlkOk X.N X.env.scope scope own) (hv : ∀ i ∈ vs1, i ∈ own.map (·.2))
    (hg : ∀ (s : Shared) (H : Hp) (C : Addr) (cl : List (Str × Addr)) (fp : List Addr), PG (X.blk s H scope (compEnvC scope cl C X.env) fp) tg g) (ht : ∀ (s : Shared) (H : Hp) (C : Addr) (cl : List (Str × Addr)) (fp : List Addr), PTs (X.blk s H scope (compEnvC scope cl C X.env) fp) ifs tt)
    (hb : ∀ (s : Shared) (H : Hp) (C : Addr) (cl : List (Str × Addr)) (fp : List Addr) (D : Addr) (it : Value), ∃ k, Goes (.ListComp elt (⟨tg, iter, ifs, 0⟩ :: rest) scope cpos) 0 p tg ifs it (.ref D) (compEnvC scope cl C X.env) k ∧
      Seg (X.blk s H scope (compEnvC scope cl C X.env) fp) k (.compLoop (.ListComp elt (⟨tg, iter, ifs, 0⟩ :: rest) scope cpos) 0 it (.ref D) (compEnvC scope cl C X.env)) (tb D) vs1)
    (hs : ∀ x, foldedSetIterable iter X.env x = pure x := by intro _; rfl) : PE X (.ListComp elt (⟨tg, iter, ifs, 0⟩ :: rest) scope cpos) (tTop wi g tt tb (own.map (·.2))) := by
  refine ⟨fun pins s σ H Q I h => ?_⟩
  rw [eval_ListComp]
  have hfree : ∀ y ∈ scope.names, y.2 = .free → ∃ c, X.env.cells.lookup y.1 = some c := fun y hy e => (ok.free y hy e).elim (fun z => I.ok.has _ (.inl z)) fun z => I.ok.has _ (.inr z)
  refine wpAny_comprehension_free (use := none) rfl hs (closure_ok hfree) ok.kind (fun y hy e => by rw [ok.uniq y hy, e]) (thn (hi.run pins s σ H _ I h) fun xv s1 h1 => thn h1 fun itv s2 h2 => ?_)
  obtain ⟨it, fp, tn, J, H2, e, I2, T, st2, f2, q⟩ := h2
  subst e
  refine wpAny_newObj_type (newEnv_comp ?_) (by show 0 ≤ sizeLine; decide)
  have nD : H2 s2.heap.objs.size = none := I2.hok.fresh (Nat.le_refl _)
  have lt : ∀ b ∈ fp, b < s2.heap.objs.size := fun b hb => by
    obtain ⟨o, e, _⟩ := T.obj _ _ st2 b hb
    exact Heap.lt_size e
  have I3 : Inv X pins σ (upd H2 s2.heap.objs.size (.lst [])) { s2 with heap := s2.heap.push { cls := .type "list", data := .seq ([] : List Value).toArray } } := I2.lnew (its := []) (t' := s2.toks) .nil (Nat.zero_le _)
  have hq := q _ nD
  have f3 : ∀ b ∈ fp, FpOk X pins (upd H2 s2.heap.objs.size (.lst [])) b ∧ b < (s2.heap.push { cls := .type "list", data := .seq ([] : List Value).toArray }).objs.size := fun b hb =>
    ⟨⟨by rw [upd_ne (Nat.ne_of_lt (lt b hb))]; exact (f2 b hb).1, (f2 b hb).2⟩, by rw [Heap.size_push]; exact Nat.lt_succ_of_lt (lt b hb)⟩
  have st3 : tn 0 (s2.heap.push { cls := .type "list", data := .seq ([] : List Value).toArray }) := T.keep _ _ _ st2 fun b _ o e => Heap.get?_push_of_some _ e
  generalize s2.heap.objs.size = D at nD hq I3 f3
  generalize hs3 : ({ s2 with heap := s2.heap.push { cls := .type "list", data := .seq ([] : List Value).toArray } } : Shared) = s3 at I3
  have e3 : s2.heap.push { cls := .type "list", data := .seq ([] : List Value).toArray } = s3.heap := by rw [← hs3]
  rw [e3] at f3 st3
  generalize upd H2 D (.lst []) = H3 at hq I3 f3
  have I4 := block_start I3 ok hN f3
  have pg := hg s3 H3 s3.heap.objs.size (cellsFrom (s3.heap.objs.size + 1) scope.names (cloFrom X.env.cells scope.names [])) fp
  have pt := ht s3 H3 s3.heap.objs.size (cellsFrom (s3.heap.objs.size + 1) scope.names (cloFrom X.env.cells scope.names [])) fp
  have pb := hb s3 H3 s3.heap.objs.size (cellsFrom (s3.heap.objs.size + 1) scope.names (cloFrom X.env.cells scope.names [])) fp D (.ref it)
  show codeAny _ _ (.compStart _ 0 (.ref it) (.ref D) (compEnvC scope (cellsFrom (s3.heap.objs.size + 1) scope.names (cloFrom X.env.cells scope.names [])) s3.heap.objs.size X.env)) _ { s3 with heap := pushCells (s3.heap.push { cls := .type "dict", data := .dict #[] }) scope.names }
  generalize hce : compEnvC scope (cellsFrom (s3.heap.objs.size + 1) scope.names (cloFrom X.env.cells scope.names [])) s3.heap.objs.size X.env = ce at I4 pg pt pb ⊢
  have cL : ce.locals = s3.heap.objs.size := by rw [← hce]; rfl
  have st4 : tn 0 (pushCells (s3.heap.push { cls := .type "dict", data := .dict #[] }) scope.names) := T.keep _ _ _ st3 fun b _ o e => pushCells_keeps _ _ _ _ (Heap.get?_push_of_some _ e)
  obtain ⟨k, hk, sg⟩ := pb
  have st5 : tn 0 ({ s3 with heap := pushCells (s3.heap.push { cls := .type "dict", data := .dict #[] }) scope.names } : Shared).heap := st4
  generalize ({ s3 with heap := pushCells (s3.heap.push { cls := .type "dict", data := .dict #[] }) scope.names } : Shared) = s4 at I4 st5 ⊢
  have loop := run_over (B := X.blk s3 H3 scope ce fp) (R := compPost (model X.prog X.w) X.A X.xe none (EP X pins σ Q) (.ref D) s3.heap.objs.size) hc rfl T hk pg pt sg hv
    (fun {σ' H' s'} I' hn b hb => ⟨hn b hb, (I'.ok.exf b hb).1, I'.ok.exfs b hb, .inl hb, fun x c e => (I'.ok.exf b hb).2 x c e, fun p hp => absurd (show p ∈ ([] : List (Addr × Obj)) ++ [] from hp) (by simp)⟩) I4 st5 (fun b hb => (f3 b hb).1.1) hq fun H' s' I' q' => ?_
  · exact codeAny_compStart_list loop (T.self X.A 0 _ _ _ st5 loop)
  · have I6 : Inv X pins σ H' s' := I3.call' (ch := fp) I'.os I'.base I'.hok I'.bare fun b hb => by
      obtain ⟨_, n1, n2, n3, n4, n5⟩ := (f3 b hb).1
      exact ⟨n3, n1, n4, n5⟩
    have nC : H' s3.heap.objs.size = none := by
      have z : H' ce.locals = none := I'.free
      rwa [cL] at z
    obtain ⟨m, hn, _⟩ := I'.loc
    have hn2 : s'.heap.Ns ce.locals m := hn
    rw [cL] at hn2
    refine ⟨m, hn2, fun h'' sb => ?_⟩
    obtain ⟨f0, f1, f2', f3', f4, f5⟩ := I3.fpOk (Nat.le_refl _) nC
    exact ⟨.ref D, H', I6.turned (t' := s'.toks) (fun b o hb e => (sb.2 b hb).trans e) f0 f1 f3' f4 f5, rfl, q'⟩
/-- what is made is put to the list at D -/
def tEmit (D : Addr) (te : TE) : Tc := fun σ H R => te σ H fun y H4 => ∃ acc, H4 D = some (.lst acc) ∧ acc.length < sizeLine ∧ R (upd H4 D (.lst (acc ++ [y])))
/-- [elt for .. for .. for ..] -/
theorem pe_lc3 {elt tg iter tg1 iter1 tg2 iter2 : Expr} {ifs ifs1 ifs2 : List Expr} {scope : Scope} {own : List (Str × Nat)} {vs1 vs2 : List Nat} {cpos : Pos} {wi wi1 wi2 : TI} {g g1 g2 : TG} {tt tt1 tt2 : TT} {te : TE} (hc : X.calm = true) (hN : X.N.Nodup) (hi : PI X tg iter wi) (ok : BlkOk X.N X.env.scope scope own) (hv : ∀ i ∈ vs1, i ∈ own.map (·.2)) (hv2 : ∀ i ∈ vs2, i ∈ vs1)
    (hg : ∀ (s : Shared) (H : Hp) (C : Addr) (cl : List (Str × Addr)) (fp : List Addr), PG (X.blk s H scope (compEnvC scope cl C X.env) fp) tg g) (ht : ∀ (s : Shared) (H : Hp) (C : Addr) (cl : List (Str × Addr)) (fp : List Addr), PTs (X.blk s H scope (compEnvC scope cl C X.env) fp) ifs tt)
    (hi1 : ∀ (s : Shared) (H : Hp) (C : Addr) (cl : List (Str × Addr)) (fp : List Addr), PI (X.blk s H scope (compEnvC scope cl C X.env) fp) tg1 iter1 wi1) (hg1 : ∀ (s : Shared) (H : Hp) (C : Addr) (cl : List (Str × Addr)) (fp : List Addr), PG (X.blk s H scope (compEnvC scope cl C X.env) fp) tg1 g1)
    (ht1 : ∀ (s : Shared) (H : Hp) (C : Addr) (cl : List (Str × Addr)) (fp : List Addr), PTs (X.blk s H scope (compEnvC scope cl C X.env) fp) ifs1 tt1)
    (hi2 : ∀ (s : Shared) (H : Hp) (C : Addr) (cl : List (Str × Addr)) (fp : List Addr), PI (X.blk s H scope (compEnvC scope cl C X.env) fp) tg2 iter2 wi2) (hg2 : ∀ (s : Shared) (H : Hp) (C : Addr) (cl : List (Str × Addr)) (fp : List Addr), PG (X.blk s H scope (compEnvC scope cl C X.env) fp) tg2 g2)
    (ht2 : ∀ (s : Shared) (H : Hp) (C : Addr) (cl : List (Str × Addr)) (fp : List Addr), PTs (X.blk s H scope (compEnvC scope cl C X.env) fp) ifs2 tt2)
    (he : ∀ (s : Shared) (H : Hp) (C : Addr) (cl : List (Str × Addr)) (fp : List Addr), PE (X.blk s H scope (compEnvC scope cl C X.env) fp) elt te)
    (hs : ∀ x, foldedSetIterable iter X.env x = pure x := by intro _; rfl) (hs1 : ∀ env x, foldedSetIterable iter1 env x = pure x := by intro _ _; rfl) (hs2 : ∀ env x, foldedSetIterable iter2 env x = pure x := by intro _ _; rfl) :
    PE X (.ListComp elt [⟨tg, iter, ifs, 0⟩, ⟨tg1, iter1, ifs1, 0⟩, ⟨tg2, iter2, ifs2, 0⟩] scope cpos) (tTop wi g tt (fun D => tIn wi1 g1 tt1 (tIn wi2 g2 tt2 (tEmit D te) vs2) vs1) (own.map (·.2))) :=
  pe_lcN (p := iter.pos) (vs1 := vs1) hc hN hi ok hv hg ht (fun s H C cl fp D it => ⟨_, goes_in rfl rfl,
    seg_in (p := iter1.pos) hc rfl rfl (fun it1 => goes_in rfl rfl) (hi1 s H C cl fp) (hg1 s H C cl fp) (ht1 s H C cl fp) (fun it1 =>
      seg_in (p := iter2.pos) hc rfl rfl (fun it2 => goes_end rfl rfl) (hi2 s H C cl fp) (hg2 s H C cl fp) (ht2 s H C cl fp) (fun it2 => seg_emit rfl (he s H C cl fp)) (fun _ z => (nomatch z)) (hs2 _)) hv2 (hs1 _)⟩) hs
theorem over_it {J : It} {n : Nat} {Gd : Hp → Prop} {Y : Nat → Hp → V → Hp → Prop} {g : TG} {tt : TT} {tb : Tc} {vs : List Nat} {σ : L2.St} {H : Hp} {Dn : Hp → Prop} (w : Walk J n Gd Y) (Pv : Nat → Hp → Prop) (h0 : Pv 0 H) (hG : ∀ i H, i ≤ n → Pv i H → Gd H)
    (hs : ∀ i x H H', i < n → Pv i H → Y i H x H' → g x (wipe σ vs) H' fun σ2 H2 => wipe σ2 vs = wipe σ vs ∧ tt σ2 H2 fun b H3 => if b = true then tb σ2 H3 (Pv (i + 1)) else Pv (i + 1) H3) (hd : ∀ H, Pv n H → Dn H) : tOver g tt tb vs J σ H Dn := by
  refine ⟨fun i m H => m = n - i ∧ i ≤ n ∧ Pv i H, ⟨n, rfl, Nat.zero_le _, h0⟩, fun i m H hI => ?_⟩
  obtain ⟨rfl, hi, p⟩ := hI
  by_cases hlt : i < n
  · exact .inr ⟨w.goes i H hlt (hG i H hi p), Pv (i + 1), fun H' p' => ⟨n - (i + 1), by omega, rfl, hlt, p'⟩, fun x H' y => hs i x H H' hlt p (w.yields i H x H' hlt (hG i H hi p) y)⟩
  · obtain rfl : i = n := by omega
    exact .inl ⟨w.stops H (hG i H hi p), hd H p⟩
end
end L3

set_option maxHeartbeats 4000000
namespace PP
open PySem PySem.Spec PyProof.Rows L2 G3 G4 M0 PA
def begunRow : PA.Row → Option Str
  | .begin z => some z
  | _ => none
def begunText (t : PA.Text) : List Str := t.2.filterMap begunRow
def begunHand (h : Hand) : List Str := h.2.2.flatMap begunText
/-- whom rows of the hands begin -/
def begunOf (hs : List Hand) : List Str := hs.flatMap begunHand
theorem take_next {α : Type} {l : List α} {i : Nat} {x : α} (h : l[i]? = some x) : l.take (i + 1) = l.take i ++ [x] := by
  rw [List.take_succ, h]
  rfl
theorem flat_take {α β : Type} (f : α → List β) {l : List α} {i : Nat} {x : α} (h : l[i]? = some x) : (l.take (i + 1)).flatMap f = (l.take i).flatMap f ++ f x ∧ ((l.take i).flatMap f).length + (f x).length ≤ (l.flatMap f).length := by
  have e : (l.take (i + 1)).flatMap f = (l.take i).flatMap f ++ f x := by
    rw [take_next h, List.flatMap_append]
    simp
  refine ⟨e, ?_⟩
  have e2 : l.flatMap f = (l.take (i + 1)).flatMap f ++ (l.drop (i + 1)).flatMap f := by rw [← List.flatMap_append, List.take_append_drop]
  rw [e2, e, List.length_append, List.length_append]
  omega
theorem filt_take {α β : Type} (f : α → Option β) {l : List α} {i : Nat} {x : α} (h : l[i]? = some x) : (l.take (i + 1)).filterMap f = (l.take i).filterMap f ++ (f x).toList ∧ ((l.take i).filterMap f).length + (f x).toList.length ≤ (l.filterMap f).length := by
  have e : (l.take (i + 1)).filterMap f = (l.take i).filterMap f ++ (f x).toList := by
    rw [take_next h, List.filterMap_append]
    congr 1
  refine ⟨e, ?_⟩
  have e2 : l.filterMap f = (l.take (i + 1)).filterMap f ++ (l.drop (i + 1)).filterMap f := by rw [← List.filterMap_append, List.take_append_drop]
  rw [e2, e, List.length_append, List.length_append]
  omega
/-- a row's word, and what stands behind it -/
theorem row_word {K : PySem.W.Frag} {H : Hp} {v : V} {r : PA.Row} (h : Dp K H v r.data) : ∃ (a : Addr) (xs : List V) (z : Str), v = .ref a ∧ SqT K H a xs ∧ xs[0]? = some (.str z) ∧ ((begunRow r = none ∧ z ≠ "begin") ∨ ∃ b, begunRow r = some b ∧ z = "begin" ∧ xs[1]? = some (.str b)) := by
  cases r with
  | set b s =>
    obtain ⟨a, x, y, z, rfl, hs, h1, _, _⟩ := dp3 h
    cases dp_str h1
    exact ⟨a, _, _, rfl, hs, rfl, .inl ⟨rfl, by decide +kernel⟩⟩
  | ift b n r =>
    obtain ⟨a, xs, rfl, hs, hall⟩ := dp_tup h
    cases hall with
    | cons h1 t1 =>
      cases dp_str h1
      exact ⟨a, _, _, rfl, hs, rfl, .inl ⟨rfl, by decide +kernel⟩⟩
  | go rs =>
    obtain ⟨a, x, y, rfl, hs, h1, _⟩ := dp2 h
    cases dp_str h1
    exact ⟨a, _, _, rfl, hs, rfl, .inl ⟨rfl, by decide +kernel⟩⟩
  | call t =>
    obtain ⟨a, x, y, rfl, hs, h1, _⟩ := dp2 h
    cases dp_str h1
    exact ⟨a, _, _, rfl, hs, rfl, .inl ⟨rfl, by decide +kernel⟩⟩
  | back =>
    obtain ⟨a, xs, rfl, hs, hall⟩ := dp_tup h
    cases hall with
    | cons h1 t1 =>
      cases dp_str h1
      exact ⟨a, _, _, rfl, hs, rfl, .inl ⟨rfl, by decide +kernel⟩⟩
  | wait b n =>
    obtain ⟨a, x, y, z, rfl, hs, h1, _, _⟩ := dp3 h
    cases dp_str h1
    exact ⟨a, _, _, rfl, hs, rfl, .inl ⟨rfl, by decide +kernel⟩⟩
  | begin b =>
    obtain ⟨a, x, y, rfl, hs, h1, h2⟩ := dp2 h
    cases dp_str h1
    cases dp_str h2
    exact ⟨a, _, _, rfl, hs, rfl, .inr ⟨b, rfl, rfl, rfl⟩⟩
  | fault =>
    obtain ⟨a, xs, rfl, hs, hall⟩ := dp_tup h
    cases hall with
    | cons h1 t1 =>
      cases dp_str h1
      exact ⟨a, _, _, rfl, hs, rfl, .inl ⟨rfl, by decide +kernel⟩⟩
abbrev nBegun : List Str := ["hands", "hand", "text", "row"]
theorem scBegun : FnScope nBegun ["hands"] (defScope s_all_begun) := ⟨rfl, rfl, rfl, by decide +kernel, rfl, by decide +kernel, by decide +kernel⟩
section
variable {P : Program} {w : World} {K : PySem.W.Frag} {mg : Str → Option Value} {base : Heap}
def spBegun (K : PySem.W.Frag) : Sp := fun vs H Q _ => ∃ (v : V) (hs : List Hand), vs = [v] ∧ Dp K H v (.tuple (hs.map handD)) ∧ (begunOf hs).length ≤ 900000 ∧
  ∀ (H' : Hp) (o : Addr), Same H H' → H o = none → H' o = some (.lst ((begunOf hs).map V.str)) → Q (.ref o) H'
set_option maxHeartbeats 8000000 in
theorem ok_begun {f : Addr} {fd : FuncData} {k : Nat} (F : Fun K "all_begun" "all_begun" s_all_begun f fd) : FnOk P w K mg base CX0 (k + 1) f fd ["hands"] (spBegun K) := by
  refine F.ok scBegun (fun vs H Q E h => ?_) (fun cdv A outer s H vs Q E hr h => ?_)
  · obtain ⟨v, hs, rfl, _⟩ := h
    rfl
  obtain ⟨v, hs, rfl, hv, hl, q⟩ := h
  have nd := scBegun.nd
  refine ⟨_, pss_one (ps_ret (L3.pe_lc3 (own := [("hand", 1), ("text", 2), ("row", 3)]) (vs1 := [2, 3]) (vs2 := [3]) (wi1 := iTup K (tOp (rIxT K) (tVar 1) (tC (.int 2)))) (wi2 := iTup K (tOp (rIxT K) (tVar 2) (tC (.int 1)))) (g := gName 1) (g1 := gName 2) (g2 := gName 3) (tt := tYes) (tt1 := tYes) (by rfl) nd (pi_tup (pv 0))
      (blkOk_by (N := nBegun) (sc := defScope s_all_begun) (by decide +kernel)) (by decide) (by decide) (fun _ _ _ _ _ => pg_name (i := 1) nd rfl (.inl rfl)) (fun _ _ _ _ _ => pts_nil)
      (fun _ _ _ _ _ => pi_tup (pe_ix (r := rIxT K) ix_tup (pv 1) pe_int (fun _ _ => rfl))) (fun _ _ _ _ _ => pg_name (i := 2) nd rfl (.inl rfl)) (fun _ _ _ _ _ => pts_nil)
      (fun _ _ _ _ _ => pi_tup (pe_ix (r := rIxT K) ix_tup (pv 2) pe_int (fun _ _ => rfl))) (fun _ _ _ _ _ => pg_name (i := 3) nd rfl (.inl rfl))
      (fun _ _ _ _ _ => pts_one (pt_cmpR op_eq (pe_ix (r := rIxT K) ix_tup (pv 3) pe_int (fun _ _ => rfl)) pe_str (nomark _)))
      (fun _ _ _ _ _ => pe_ix (r := rIxT K) ix_tup (pv 3) pe_int (fun _ _ => rfl)))), ?_⟩
  obtain ⟨a, xs, rfl, hxs, hall⟩ := dp_tup hv
  have hxl : xs.length = hs.length := by rw [dpAll_len hall, List.length_map]
  refine ⟨_, rfl, a, rfl, ⟨_, hxs⟩, fun D nD => ?_⟩
  refine L3.over_it (walk_tup (a := a) (xs := xs) (K := K)) (fun i G => Same H G ∧ G D = some (.lst ((begunOf (hs.take i)).map V.str))) ⟨same_new nD, upd_same⟩ (fun i G _ h => same_tup h.1 hxs) (fun i x G G' hi h y => ?_) (fun G h => ?_)
  · obtain ⟨sG, hD⟩ := h
    obtain ⟨rfl, ex⟩ := y
    obtain ⟨d, hd, hx⟩ := dpAll_get hall ex
    rw [List.getElem?_map] at hd
    obtain ⟨hnd, hh, rfl⟩ := Option.map_eq_some_iff.mp hd
    obtain ⟨ft, fl⟩ := flat_take begunHand hh
    obtain ⟨ha, h0, h1, h2, rfl, hha, _, _, hts⟩ := dp3 hx
    obtain ⟨ta, ts, rfl, hta, htl⟩ := dp_tup hts
    refine ⟨rfl, ?_⟩
    dsimp only [tYes]
    rw [if_pos rfl]
    refine ⟨_, rfl, ha, _, 2, _, rfl, rfl, same_tup sG hha, atI_nat (j := 2) rfl, ta, rfl, ⟨_, same_tup sG hta⟩, ?_⟩
    refine L3.over_it (walk_tup (a := ta) (xs := ts) (K := K)) (fun j G2 => Same H G2 ∧ G2 D = some (.lst ((begunOf (hs.take i) ++ (hnd.2.2.take j).flatMap begunText).map V.str)))
      ⟨sG, by rw [List.take_zero, List.flatMap_nil, List.append_nil]; exact hD⟩ (fun j G2 _ h => same_tup h.1 hta) (fun j x2 G2 G2' hj h y => ?_) (fun G2 h => ?_)
    · obtain ⟨sG2, hD2⟩ := h
      obtain ⟨rfl, ex2⟩ := y
      obtain ⟨d2, hd2, hx2⟩ := dpAll_get htl ex2
      rw [List.getElem?_map] at hd2
      obtain ⟨tx, htx, rfl⟩ := Option.map_eq_some_iff.mp hd2
      obtain ⟨ft2, fl2⟩ := flat_take begunText htx
      obtain ⟨tb, t0, t1, rfl, htb, _, hrs⟩ := dp2 hx2
      obtain ⟨ra, rs, rfl, hra, hrl⟩ := dp_tup hrs
      refine ⟨rfl, ?_⟩
      dsimp only [tYes]
      rw [if_pos rfl]
      refine ⟨_, rfl, tb, _, 1, _, rfl, rfl, same_tup sG2 htb, atI_nat (j := 1) rfl, ra, rfl, ⟨_, same_tup sG2 hra⟩, ?_⟩
      refine L3.over_it (walk_tup (a := ra) (xs := rs) (K := K)) (fun m G3 => Same H G3 ∧ G3 D = some (.lst ((begunOf (hs.take i) ++ (hnd.2.2.take j).flatMap begunText ++ (tx.2.take m).filterMap begunRow).map V.str)))
        ⟨sG2, by rw [List.take_zero, List.filterMap_nil, List.append_nil]; exact hD2⟩ (fun m G3 _ h => same_tup h.1 hra) (fun m x3 G3 G3' hm h y => ?_) (fun G3 h => ?_)
      · obtain ⟨sG3, hD3⟩ := h
        obtain ⟨rfl, ex3⟩ := y
        obtain ⟨d3, hd3, hx3⟩ := dpAll_get hrl ex3
        rw [List.getElem?_map] at hd3
        obtain ⟨rw3, hrw, rfl⟩ := Option.map_eq_some_iff.mp hd3
        obtain ⟨ft3, fl3⟩ := filt_take begunRow hrw
        obtain ⟨rb, ys, z, rfl, hrb, y0, hz⟩ := row_word hx3
        refine ⟨rfl, ?_⟩
        refine ⟨_, rfl, rb, _, 0, _, rfl, rfl, same_tup sG3 hrb, atI_nat (j := 0) y0, rfl, _, rfl, ?_⟩
        rcases hz with ⟨e1, e2⟩ | ⟨b, e1, rfl, y1⟩
        · rw [decide_eq_false (fun e => e2 (V.str.inj e))]
          refine iteF ⟨sG3, ?_⟩
          rw [ft3, e1, Option.toList_none, List.append_nil]
          exact hD3
        · rw [decide_eq_true rfl]
          refine iteT ⟨_, rfl, rb, _, 1, _, rfl, rfl, same_tup sG3 hrb, atI_nat (j := 1) y1, _, hD3, ?_, same_put sG3 nD, ?_⟩
          · rw [e1] at fl3
            have e5 : begunOf hs = hs.flatMap begunHand := rfl
            have e6 : begunHand hnd = hnd.2.2.flatMap begunText := rfl
            have e7 : begunText tx = tx.2.filterMap begunRow := rfl
            have e8 : begunOf (hs.take i) = (hs.take i).flatMap begunHand := rfl
            rw [e6] at fl
            rw [e7] at fl2
            rw [e5] at hl
            rw [e8, List.length_map, List.length_append, List.length_append]
            exact LC.small_line (by omega)
          · rw [upd_same, ft3, e1, Option.toList_some, ← List.append_assoc, List.map_append (l₂ := [b])]
            rfl
      · obtain ⟨sG3, hD3⟩ := h
        refine ⟨sG3, ?_⟩
        have el : tx.2.take rs.length = tx.2 := List.take_of_length_le (by rw [dpAll_len hrl, List.length_map]; exact Nat.le_refl _)
        rw [el] at hD3
        rw [ft2, ← List.append_assoc]
        exact hD3
    · obtain ⟨sG2, hD2⟩ := h
      refine ⟨sG2, ?_⟩
      have el : hnd.2.2.take ts.length = hnd.2.2 := List.take_of_length_le (by rw [dpAll_len htl, List.length_map]; exact Nat.le_refl _)
      rw [el] at hD2
      show G2 D = some (.lst (((hs.take (i + 1)).flatMap begunHand).map V.str))
      rw [ft]
      exact hD2
  · obtain ⟨sG, hD⟩ := h
    have el : hs.take xs.length = hs := List.take_of_length_le (by omega)
    rw [el] at hD
    exact q G D sG nD hD
end
end PP

set_option maxHeartbeats 4000000
namespace EN
open PySem PySem.Spec PyProof.Rows L2 G3 M0
/-- enumerate(v) made -/
theorem new1 {v : Value} {o : Obj} {H : Heap → Prop} (B : Begins v o H) :
    Meets (Builtin.«enumerate.__new__» ⟨[.type "enumerate", v], []⟩) (fun _ R s => H s.heap ∧
      R (.ok (.ret (.ref (s.heap.push o).objs.size))) { s with heap := (s.heap.push o).push { cls := .type "enumerate", data := .fields #[.none, .bool false, .ref s.heap.objs.size, rawInt 0, .none, .none] } }) :=
  .of_wp fun prog w A R s h => by
    obtain ⟨hp, g, d, tk, os⟩ := s
    obtain ⟨h1, h⟩ := h
    have z1 := sub_enumerate
    have z2 : ∀ {A' : Around} {E : Value → Shared → Prop} {Q : Value → Shared → Prop}, Q (.ref hp.objs.size) ⟨hp.push o, g, d, tk, os⟩ → wpAny (model prog w) A' (pyIter v) Q E ⟨hp, g, d, tk, os⟩ := fun q => B.iter prog w _ _ ⟨hp, g, d, tk, os⟩ _ h1 q
    wp_walk using z2
    refine wpAny_stack_any fun st => wpAny_pure ?_
    split
    · rename_i c _ _ _ _ _
      cases (c == Value.type "enumerate") <;> (wp_walk using z2; exact ⟨_, rfl, h⟩)
    · wp_walk using z2
      exact ⟨_, rfl, h⟩
section
variable {prog : Program} {w : World} {A : Around} {E : Value → Shared → Prop} {s : Shared}
theorem begun1 {v : Value} {o : Obj} {H : Heap → Prop} {Q : Value → Shared → Prop} (B : Begins v o H) (h1 : H s.heap)
    (h : ∀ h', IsEnum h' (s.heap.objs.size + 1) s.heap.objs.size 0 .none → h'.get? s.heap.objs.size = some o → (∀ b o, s.heap.get? b = some o → h'.get? b = some o) → Q (.ref (s.heap.objs.size + 1)) { s with heap := h' }) :
    wpAny (model prog w) A (call (.type "enumerate") [v]) Q E s := by
  refine callType_new F.called_enumerate (by decide) (F.typeCall_enumerate_1 _) (F.newCall_enumerate_1 _) (fun obj => F.args_object_init_2 obj _) F.entry_enumerate_new (new1 B) ⟨h1, ?_⟩
  have hz : (s.heap.push o).objs.size = s.heap.objs.size + 1 := Heap.size_push ..
  show _ ∧ _
  rw [hz]
  have he : IsEnum ((s.heap.push o).push { cls := .type "enumerate", data := .fields #[.none, .bool false, .ref s.heap.objs.size, rawInt 0, .none, .none] }) (s.heap.objs.size + 1) s.heap.objs.size 0 .none := by
    have z := Heap.get?_push_size (s.heap.push o) (o := { cls := .type "enumerate", data := .fields #[.none, .bool false, .ref s.heap.objs.size, rawInt 0, .none, .none] }) rfl
    rw [hz] at z
    exact z
  exact ⟨⟨_, he, rfl⟩, h _ he (Heap.get?_push_of_some _ (Heap.get?_push_size _ B.free)) fun b o x => Heap.get?_push_of_some _ (Heap.get?_push_of_some _ x)⟩
end
/-- the tuple at a, each item in a new pair -/
def Iet (K : PySem.W.Frag) (a : Addr) : It :=
  ⟨fun i H => ∃ (xs : List V) (x : V), SqT K H a xs ∧ xs[i]? = some x, fun i H v H' => ∃ T x, v = .ref T ∧ H T = none ∧ H' = upd H T (.tup [.int (i : Nat), x]) ∧ ∀ xs, SqT K H a xs → xs[i]? = some x, fun i H => ∃ xs : List V, SqT K H a xs ∧ xs.length = i⟩
theorem apart {h : Heap} {a b : Addr} {o o' : Obj} {x y : String} (h1 : h.get? a = some o) (c1 : o.cls = .type x) (h2 : h.get? b = some o') (c2 : o'.cls = .type y) (ne : x ≠ y) : a ≠ b := fun e => by
  subst e
  rw [h1] at h2
  cases h2
  rw [c1] at c2
  cases c2
  exact ne rfl
theorem turn_enumT {P : Program} {w : World} {K : PySem.W.Frag} {elts : List Expr} {kk : Nat} {tpos : Pos} (a e it : Addr) :
    Turn P w K (.Tuple elts kk tpos) (Iet K a) [e, it] e (fun i h => (∃ old, IsEnum h e it ((i : Nat) : Int) old) ∧ h.IsTupleIter it a i ∧ e ≠ it) where
  mem := by simp
  obj := fun i h st b hb => by
    obtain ⟨⟨old, he⟩, ⟨o, ho, hc, hd⟩, _⟩ := st
    have e' : b = e ∨ b = it := by simpa using hb
    rcases e' with z | z
    · rw [z]; exact ⟨_, he, fun v q => nomatch q⟩
    · rw [z]; exact ⟨o, ho, fun v q => by rw [hd] at q; cases q⟩
  keep := fun i h h' st k => let ⟨⟨old, he⟩, hi, hne⟩ := st; ⟨⟨old, k e (by simp) _ he⟩, hi.at fun o q => k it (by simp) o q, hne⟩
  item := by
    intro X hP hw hK hc i pins s σ H E I hf st hg
    subst hP hw hK
    obtain ⟨⟨old, he⟩, hit, hne⟩ := st
    obtain ⟨xs, x, hq, hx⟩ := hg
    obtain ⟨its, rv, p, hz⟩ := I.tuple hq
    obtain ⟨u, hu, ru⟩ := rv.get hx
    have hel : e < s.heap.objs.size := Heap.lt_size he
    have hil : it < s.heap.objs.size := by obtain ⟨_, q, _⟩ := hit; exact Heap.lt_size q
    have ai : a ≠ it := by
      obtain ⟨o1, p1, p2, _⟩ := p
      obtain ⟨o2, q1, q2, _⟩ := hit
      exact apart p1 p2 q1 q2 (by decide)
    have ae : e ∉ [it, a] := by
      obtain ⟨o1, p1, p2, _⟩ := p
      have z : e ≠ a := apart he rfl p1 p2 (by decide)
      intro m
      rcases List.mem_cons.mp m with y | y
      · exact hne y
      · exact z (List.mem_singleton.mp y)
    have lt : i < its.toArray.size := by
      have := (List.getElem?_eq_some_iff.mp hu).1
      simpa using this
    refine wpAny_pyNext_enum_itemD (Draws.tuple (A := X.A.in1) (by have z := I.ok.hd hc; simpa using z) it a ai its.toArray) he ⟨hit, p⟩ lt hne ae fun u2 h' tk pu ho st' hT hsz hk => ?_
    have eu : u2 = u := by
      have z : its[i]? = some u2 := by simpa using pu
      rw [hu] at z
      exact (Option.some.inj z).symm
    subst eu
    refine ⟨_, rfl, wpAny_letOwnedTupleGo_enum (s := { s with heap := h', toks := tk + 1 }) ho fun h'' he' sb => ?_⟩
    have hT2 : h''.get? s.heap.objs.size = some { cls := .type "tuple", data := .seq #[.int i tk, u2] } := (sb.2 _ (Nat.ne_of_gt hel)).trans hT
    have new : ObjOk X.prog X.w (upd H s.heap.objs.size (.tup [.int (i : Nat), x])) h'' s.heap.objs.size (.tup [.int (i : Nat), x]) :=
      ⟨by show 2 ≤ sizeLine; decide, [.int i tk, u2], .cons ⟨_, rfl⟩ (.cons ru .nil), ⟨_, hT2, rfl, _, rfl⟩⟩
    have I1 : Inv X pins σ (upd H s.heap.objs.size (.tup [.int (i : Nat), x])) { s with heap := h'', toks := tk + 1 } :=
      I.turnedNew (ch := [e, it]) (fun b ob hb q => (sb.2 b (fun z => hb (by simp [z]))).trans (hk b ob (fun z => hb (by simp [z])) (fun z => hb (by simp [z])) q)) hf (Nat.le_refl _) new
    refine ⟨.ref s.heap.objs.size, _, I1, rfl, ⟨_, x, rfl, I.hok.fresh (Nat.le_refl _), rfl, fun ys hy => by rw [I.tuple_inj hy hq]; exact hx⟩, ⟨⟨u2, ?_⟩, st'.1.at fun o q => (sb.2 it (Ne.symm hne)).trans q, hne⟩, fun b hb => ?_⟩
    · have e1 : ((i + 1 : Nat) : Int) = (i : Int) + 1 := by omega
      rw [e1]; exact he'
    · have hb' : b < s.heap.objs.size := by
        have e' : b = e ∨ b = it := by simpa using hb
        rcases e' with z | z
        · rw [z]; exact hel
        · rw [z]; exact hil
      rw [upd_ne (Nat.ne_of_lt hb')]
      exact (hf b hb).1
  done := by
    intro X hP hw hK hc i pins s σ H E I hf st hg
    subst hP hw hK
    obtain ⟨⟨old, he⟩, hit, hne⟩ := st
    obtain ⟨xs, hq, hx⟩ := hg
    obtain ⟨its, rv, p, hz⟩ := I.tuple hq
    obtain ⟨f0, f1, f2, f3, f4, f5⟩ := hf it (by simp)
    have hl := rv.length
    have ai : a ≠ it := by
      obtain ⟨o1, p1, p2, _⟩ := p
      obtain ⟨o2, q1, q2, _⟩ := hit
      exact apart p1 p2 q1 q2 (by decide)
    have ei : its.toArray.size = i := by rw [List.size_toArray]; omega
    refine wpAny_pyNext_enum_endD (Draws.tuple (A := X.A.in1) (by have z := I.ok.hd hc; simpa using z) it a ai its.toArray) he (by rw [ei]; exact ⟨hit, p⟩) fun h' eb => ⟨rfl, I.turned (t' := s.toks) (fun b o hb q => eb b o hb q) f0 f1 f3 f4 f5⟩
  self := fun A i s Q E st h => let ⟨⟨_, he⟩, _⟩ := st; wpAny_pyIter_enum he h
def iEnumT (K : PySem.W.Frag) (ta : TA) : TI := fun σ H R => ta σ H fun vs H1 => ∃ a xs, vs = [.ref a] ∧ SqT K H1 a xs ∧ R (Iet K a) H1
theorem pi_enumT {X : Cx} {e : Expr} {ta : TA} {p pos tpos : Pos} {elts : List Expr} {kk : Nat} (hg : Gl X "enumerate") (hm : X.mg "enumerate" = none) (ha : PA X [e] ta) (hs : starEach [e] X.env = [(false, eval e X.env)] := by rfl) :
    PI X (.Tuple elts kk tpos) (.Call (.Name "enumerate" p) [e] [] pos) (iEnumT X.K ta) := by
  refine ⟨fun pins s σ H R I h => ?_⟩
  refine Call_ (ld_blt I hg hm boot_enumerate (PyProof.Rows.callWith_type1 (thn (ha.run pos pins s σ H _ I h) fun us s1 ⟨vs, H1, I1, r1, q1⟩ => ?_) hs rfl))
  obtain ⟨a, xs, ex, hq, q⟩ := q1
  subst ex
  cases r1 with
  | cons r rr =>
    cases rr
    cases r
    obtain ⟨its, rv, p', hz⟩ := I1.tuple hq
    refine begun1 (begins_tuple a its.toArray) p' fun h' he hit hk => wpAny_pyIter_enum he ?_
    have I2 : Inv X pins σ H1 { s1 with heap := h' } := I1.kept (t' := s1.toks) hk
    refine ⟨s1.heap.objs.size + 1, [s1.heap.objs.size + 1, s1.heap.objs.size], _, _, H1, rfl, I2, turn_enumT a (s1.heap.objs.size + 1) s1.heap.objs.size, ⟨⟨.none, he⟩, ⟨_, hit, rfl, rfl⟩, Nat.succ_ne_self _⟩, fun b hb => ?_, q⟩
    have e' : b = s1.heap.objs.size + 1 ∨ b = s1.heap.objs.size := by simpa using hb
    have hle : s1.heap.objs.size ≤ b := by
      rcases e' with z | z
      · rw [z]; exact Nat.le_add_right _ _
      · rw [z]; exact Nat.le_refl _
    exact I1.fpOk hle (I1.hok.fresh hle)
theorem for_enumT {K : PySem.W.Frag} {a : Addr} {xs : List V} {g : TG} {tb : TS} {D : Ends} {σ : L2.St} {H : Hp} (Pv : Nat → L2.St → Hp → Prop) (h0 : Pv 0 σ H) (hl : ∀ i σ H, Pv i σ H → SqT K H a xs)
    (hs : ∀ (i : Nat) (x : V) (T : Addr) (σ : L2.St) (H : Hp), xs[i]? = some x → Pv i σ H → H T = none → g (.ref T) σ (upd H T (.tup [.int (i : Nat), x])) fun σ2 H2 => tb { D with nx := Pv (i + 1), ct := Pv (i + 1), bk := D.nx } σ2 H2) (hd : ∀ σ H, Pv xs.length σ H → D.nx σ H) :
    ∃ W : Nat → Nat → L2.St → Hp → Prop, (∃ m, W 0 m σ H) ∧ ∀ i m σ H, W i m σ H →
      ((Iet K a).stop i H ∧ D.nx σ H) ∨ ((Iet K a).go i H ∧ ∃ N : L2.St → Hp → Prop, (∀ σ' H', N σ' H' → ∃ m', m' < m ∧ W (i + 1) m' σ' H') ∧ ∀ x H', (Iet K a).yld i H x H' → g x σ H' fun σ2 H2 => tb { D with nx := N, ct := N, bk := D.nx } σ2 H2) := by
  refine ⟨fun i m σ H => m = xs.length - i ∧ i ≤ xs.length ∧ Pv i σ H, ⟨xs.length, rfl, Nat.zero_le _, h0⟩, ?_⟩
  rintro i m σ H ⟨rfl, hi, p⟩
  have q := hl i σ H p
  by_cases hlt : i < xs.length
  · refine .inr ⟨⟨xs, xs[i], q, by simp [hlt]⟩, Pv (i + 1), fun σ' H' p' => ⟨xs.length - (i + 1), by omega, rfl, hlt, p'⟩, fun v H' y => ?_⟩
    obtain ⟨T, x, rfl, hT, rfl, y⟩ := y
    exact hs i x T σ H (y xs q) p hT
  · have e : i = xs.length := by omega
    subst e
    exact .inl ⟨⟨xs, q, rfl⟩, hd σ H p⟩
end EN

set_option maxHeartbeats 4000000
namespace PP
open PySem PySem.Spec PyProof.Rows L2 G3 G4 M0 PA
theorem walk_enumT {K : PySem.W.Frag} {a : Addr} {xs : List V} : Walk (EN.Iet K a) xs.length (fun H => SqT K H a xs) (YPair (fun i => some (.int (i : Nat))) (fun i => xs[i]?)) := by
  refine ⟨fun i _ hi q => ⟨xs, xs[i], q, by simp [hi]⟩, fun _ q => ⟨xs, q, rfl⟩, fun i H v H' _ q y => ?_⟩
  obtain ⟨T, x, h1, h2, h3, h4⟩ := y
  exact ⟨T, .int (i : Nat), x, h1, h2, h3, rfl, h4 xs q⟩
theorem in_strs (z : Str) (l : List Str) : inV (.str z) (l.map V.str) = decide (z ∈ l) := by
  unfold inV
  rw [List.any_map, Bool.eq_iff_iff, List.any_eq_true, decide_eq_true_eq]
  constructor
  · rintro ⟨x, hx, e⟩
    have e2 : x = z := by simpa [eqV] using e
    exact e2 ▸ hx
  · intro h
    exact ⟨z, h, by simp [eqV]⟩
theorem flat_strs (l : List Str) : (l.map V.str).all flatV = true := by
  rw [List.all_map, List.all_eq_true]
  intro _ _
  rfl
/-- a hand that no row begins -/
def isFirst (hs : List Hand) (i : Nat) : Bool := match hs[i]? with
  | some h => !decide (h.1 ∈ begunOf hs)
  | none => false
def firstsOf (hs : List Hand) : List Nat := (List.range hs.length).filter (isFirst hs)
abbrev nFirsts : List Str := ["hands", "begun", "number", "hand"]
theorem scFirsts : FnScope nFirsts ["hands"] (defScope s_numbers_from_first) := ⟨rfl, rfl, rfl, by decide +kernel, rfl, by decide +kernel, by decide +kernel⟩
theorem scHandsOf : FnScope ["program", "hand"] ["program"] (defScope s_hands_of) := ⟨rfl, rfl, rfl, by decide +kernel, rfl, by decide +kernel, by decide +kernel⟩
theorem scFirstH : FnScope ["program"] ["program"] (defScope s_first_hands) := ⟨rfl, rfl, rfl, by decide +kernel, rfl, by decide +kernel, by decide +kernel⟩
theorem flat_le {α β : Type} (f : α → List β) (m : Nat) : ∀ l : List α, (∀ x ∈ l, (f x).length ≤ m) → (l.flatMap f).length ≤ l.length * m
  | [], _ => by simp
  | x :: l, h => by
    rw [List.flatMap_cons, List.length_append, List.length_cons, Nat.succ_mul]
    have := flat_le f m l fun y hy => h y (List.mem_cons_of_mem _ hy)
    have := h x List.mem_cons_self
    omega
theorem begun_le {p : Prog} (ok : ProgOk p) : ∀ hs : List Hand, (∀ h ∈ hs, h ∈ p.2) → hs.length ≤ 4 → (begunOf hs).length ≤ 900000 := fun hs hm hl => by
  have h1 : (begunOf hs).length ≤ hs.length * (32 * 2000) := flat_le begunHand (32 * 2000) hs fun h hh => by
    have tx := ok.txt h (hm h hh)
    refine Nat.le_trans (flat_le begunText 2000 h.2.2 fun t ht => ?_) (Nat.mul_le_mul_right _ tx.few)
    exact Nat.le_trans (List.length_filterMap_le _ _) (tx.nm t ht).2.2
  have h2 : hs.length * (32 * 2000) ≤ 4 * (32 * 2000) := Nat.mul_le_mul_right _ hl
  omega
section
variable {P : Program} {w : World} {K : PySem.W.Frag} {mg : Str → Option Value} {base : Heap}
def spFirsts (K : PySem.W.Frag) : Sp := fun vs H Q _ => ∃ (v : V) (hs : List Hand), vs = [v] ∧ Dp K H v (.tuple (hs.map handD)) ∧ (begunOf hs).length ≤ 900000 ∧ hs.length ≤ 100 ∧
  ∀ (H' : Hp) (o : Addr), Same H H' → H o = none → H' o = some (.lst ((firstsOf hs).map fun i : Nat => V.int i)) → Q (.ref o) H'
set_option maxHeartbeats 8000000 in
theorem ok_firsts {f : Addr} {fd : FuncData} {k : Nat} (F : Fun K "numbers_from_first" "numbers_from_first" s_numbers_from_first f fd) (B : Def P w K mg base CX0 (k + 1) "all_begun" ["hands"] (spBegun K)) (me : mg "enumerate" = none) : FnOk P w K mg base CX0 (k + 1 + 1) f fd ["hands"] (spFirsts K) := by
  refine F.ok scFirsts (fun vs H Q E h => ?_) (fun cdv A outer s H vs Q E hr h => ?_)
  · obtain ⟨v, hs, rfl, _⟩ := h
    rfl
  obtain ⟨v, hs, rfl, hv, hl, hl2, q⟩ := h
  have nd := scFirsts.nd
  refine ⟨_, pss_cons (ps_set (i := 1) nd rfl (.inr rfl) (pe_call B.ok hr (by rfl) B.g B.kp B.b .nil pass0 (pa_cons (pv 0) pa_nil)))
    (pss_one (ps_ret (pe_lc (own := [("number", 2), ("hand", 3)]) (g := gTup K 2 (gCons (gName 2) (gCons (gName 3) gNil))) (by rfl) nd (EN.pi_enumT (by rfl) me (pa_cons (pv 0) pa_nil))
      (blkOk_by (N := nFirsts) (sc := defScope s_numbers_from_first) (by decide +kernel)) (fun _ _ _ _ _ => pg_tup rfl (pgs_cons (pg_name (i := 2) nd rfl (.inl rfl)) (pgs_cons (pg_name (i := 3) nd rfl (.inl rfl)) pgs_nil)))
      (fun _ _ _ _ _ => pts_one (t := tTest (tOp (rIn K true) (tOp (rIxT K) (tVar 3) (tC (.int 0))) (tVar 1))) (pt_cmpR (r := rIn K true) op_notIn_seq (pe_ix (r := rIxT K) ix_tup (pv 3) pe_int (fun _ _ => rfl)) (pv 1) (by rfl)))
      (fun _ _ _ _ _ => pv 2)))), ?_⟩
  obtain ⟨a, xs, rfl, hxs, hall⟩ := dp_tup hv
  have hxl : xs.length = hs.length := by rw [dpAll_len hall, List.length_map]
  refine ⟨_, rfl, .ref a, hs, rfl, hv, hl, fun H1 o s1 no ho => ?_⟩
  refine ⟨_, rfl, a, xs, rfl, same_tup s1 hxs, fun D nD => ?_⟩
  refine lc_it (walk_enumT (a := a) (xs := xs) (K := K)) (fun i G => Same H1 G ∧ G D = some (.lst (((List.range i).filter (isFirst hs)).map fun i : Nat => V.int i))) ⟨same_new nD, upd_same⟩ (fun i G _ h => same_tup (s1.trans h.1) hxs) (fun i x G G' hi h y => ?_) (fun G h => ?_)
  · obtain ⟨sG, hD⟩ := h
    obtain ⟨T, k1, k2, rfl, nT, rfl, hk1, hk2⟩ := y
    cases hk1
    obtain ⟨d, hd, hx⟩ := dpAll_get hall hk2
    rw [List.getElem?_map] at hd
    obtain ⟨hnd, hh, rfl⟩ := Option.map_eq_some_iff.mp hd
    obtain ⟨ha, h0, h1, h2, rfl, hha, g0, _, _⟩ := dp3 hx
    cases dp_str g0
    have sT : Same G (upd G T (.tup [.int (i : Nat), .ref ha])) := same_new nT
    have s3 := s1.trans (sG.trans sT)
    refine ⟨T, _, rfl, .inl (.inl upd_same), rfl, _, _, rfl, _, _, rfl, rfl, rfl, ?_⟩
    refine ⟨_, rfl, ha, _, 0, _, rfl, rfl, same_tup s3 hha, atI_nat (j := 0) rfl, _, rfl, o, _, rfl, .inl (SqL.of (sT _ _ (sG _ _ ho))), rfl, flat_strs _, _, rfl, ?_⟩
    have e1 : isFirst hs i = !decide (hnd.1 ∈ begunOf hs) := by
      unfold isFirst
      rw [hh]
    have hr1 : (List.range (i + 1)).filter (isFirst hs) = (List.range i).filter (isFirst hs) ++ (if isFirst hs i then [i] else []) := by
      rw [List.range_succ, List.filter_append]
      congr 1
      cases z : isFirst hs i <;> simp [z]
    rw [if_pos rfl, in_strs, ← e1]
    have hD2 := sT _ _ hD
    cases z : isFirst hs i with
    | true =>
      rw [z, if_pos rfl] at hr1
      refine iteT ⟨_, rfl, _, hD2, ?_, same_put (sG.trans sT) nD, ?_⟩
      · rw [List.length_map]
        have := List.length_filter_le (isFirst hs) (List.range i)
        rw [List.length_range] at this
        exact LC.small_line (by omega)
      · rw [upd_same, hr1, List.map_append]
        rfl
    | false =>
      rw [z, if_neg Bool.false_ne_true, List.append_nil] at hr1
      refine iteF ⟨sG.trans sT, ?_⟩
      rw [hr1]
      exact hD2
  · obtain ⟨sG, hD⟩ := h
    rw [hxl] at hD
    exact q G D (s1.trans sG) (same_none s1 nD) hD
/-- hands_of -/
def spHandsOf (K : PySem.W.Frag) : Sp := fun vs H Q _ => ∃ (v : V) (p : Prog), vs = [v] ∧ Dp K H v (progD p) ∧ ProgOk p ∧ ∀ (H' : Hp) (o : Addr), Same H H' → H o = none → H' o = some (.lst ((p.2.map (·.1)).map V.str)) → Q (.ref o) H'
theorem ok_handsof {f : Addr} {fd : FuncData} {k : Nat} (F : Fun K "hands_of" "hands_of" s_hands_of f fd) (L : Def P w K mg base CX0 (k + 1) "look_at_program" ["thing"] (spLook K)) : FnOk P w K mg base CX0 (k + 1 + 1) f fd ["program"] (spHandsOf K) := by
  refine F.ok scHandsOf (fun vs H Q E h => ?_) (fun cdv A outer s H vs Q E hr h => ?_)
  · obtain ⟨v, p, rfl, _⟩ := h
    rfl
  obtain ⟨v, p, rfl, hv, ok, q⟩ := h
  have nd := scHandsOf.nd
  refine ⟨_, pss_cons (ps_expr (pe_call L.ok hr (by rfl) L.g L.kp L.b .nil pass0 (pa_cons (pv 0) pa_nil)))
    (pss_one (ps_ret (pe_lc (own := [("hand", 1)]) (g := gName 1) (tt := tYes) (by rfl) nd (pi_tup (pe_ix ix_tup (pv 0) pe_int (fun _ _ => rfl)))
      (blkOk_by (N := ["program", "hand"]) (sc := defScope s_hands_of) (by decide +kernel)) (fun _ _ _ _ _ => pg_name (i := 1) nd rfl (.inl rfl)) (fun _ _ _ _ _ => pts_nil)
      (fun _ _ _ _ _ => pe_ix (r := rIxT K) ix_tup (pv 1) pe_int (fun _ _ => rfl))))), ?_⟩
  obtain ⟨va, x1, x2, rfl, hva, _, d2⟩ := dp2 hv
  obtain ⟨a, xs, rfl, hxs, hall⟩ := dp_tup d2
  have hxl : xs.length = p.2.length := by rw [dpAll_len hall, List.length_map]
  have l4 := ok.few
  refine ⟨_, rfl, .ref va, p, rfl, hv, ok, fun H1 s1 => ?_⟩
  refine ⟨_, rfl, va, _, 1, _, rfl, rfl, same_tup s1 hva, atI_nat (j := 1) rfl, a, rfl, ⟨_, same_tup s1 hxs⟩, fun D nD => ?_⟩
  refine lc_it (walk_tup (a := a) (xs := xs) (K := K)) (fun i G => Same H1 G ∧ G D = some (.lst (((p.2.take i).map (·.1)).map V.str))) ⟨same_new nD, upd_same⟩ (fun i G _ h => same_tup (s1.trans h.1) hxs) (fun i x G G' hi h y => ?_) (fun G h => ?_)
  · obtain ⟨sG, hD⟩ := h
    obtain ⟨rfl, ex⟩ := y
    obtain ⟨d, hd, hx⟩ := dpAll_get hall ex
    rw [List.getElem?_map] at hd
    obtain ⟨hnd, hh, rfl⟩ := Option.map_eq_some_iff.mp hd
    obtain ⟨ha, h0, h1, h2, rfl, hha, g0, _, _⟩ := dp3 hx
    cases dp_str g0
    refine ⟨rfl, ?_⟩
    dsimp only [tYes]
    rw [if_pos rfl]
    refine ⟨_, rfl, ha, _, 0, _, rfl, rfl, same_tup (s1.trans sG) hha, atI_nat (j := 0) rfl, _, hD, ?_, same_put sG nD, ?_⟩
    · rw [List.length_map, List.length_map, List.length_take]
      exact LC.small_line (by omega)
    · rw [upd_same, take_next hh, List.map_append, List.map_append]
      rfl
  · obtain ⟨sG, hD⟩ := h
    rw [List.take_of_length_le (by omega)] at hD
    exact q G D (s1.trans sG) (same_none s1 nD) hD
/-- first_hands -/
def spFirstH (K : PySem.W.Frag) : Sp := fun vs H Q _ => ∃ (v : V) (p : Prog), vs = [v] ∧ Dp K H v (progD p) ∧ ProgOk p ∧ ∀ (H' : Hp) (o : Addr), Same H H' → H o = none → H' o = some (.lst ((firstsOf p.2).map fun i : Nat => V.int i)) → Q (.ref o) H'
theorem ok_firsth {f : Addr} {fd : FuncData} {k : Nat} (F : Fun K "first_hands" "first_hands" s_first_hands f fd) (L : Def P w K mg base CX0 (k + 1) "look_at_program" ["thing"] (spLook K)) (N : Def P w K mg base CX0 (k + 1) "numbers_from_first" ["hands"] (spFirsts K)) : FnOk P w K mg base CX0 (k + 1 + 1) f fd ["program"] (spFirstH K) := by
  refine F.ok scFirstH (fun vs H Q E h => ?_) (fun cdv A outer s H vs Q E hr h => ?_)
  · obtain ⟨v, p, rfl, _⟩ := h
    rfl
  obtain ⟨v, p, rfl, hv, ok, q⟩ := h
  have nd := scFirstH.nd
  refine ⟨_, pss_cons (ps_expr (pe_call L.ok hr (by rfl) L.g L.kp L.b .nil pass0 (pa_cons (pv 0) pa_nil)))
    (pss_one (ps_ret (pe_call N.ok hr (by rfl) N.g N.kp N.b .nil pass0 (pa_cons (pe_ix ix_tup (pv 0) pe_int (fun _ _ => rfl)) pa_nil)))), ?_⟩
  obtain ⟨va, x1, x2, rfl, hva, _, d2⟩ := dp2 hv
  have l4 := ok.few
  refine ⟨_, rfl, .ref va, p, rfl, hv, ok, fun H1 s1 => ?_⟩
  exact ⟨_, rfl, va, _, 1, _, rfl, rfl, same_tup s1 hva, atI_nat (j := 1) rfl, x2, p.2, rfl, dp_same s1 _ _ d2, begun_le ok _ (fun _ h => h) l4, by omega, fun H2 o s2 no ho => q H2 o (s1.trans s2) (same_none s1 no) ho⟩
end
end PP

set_option maxHeartbeats 4000000
/-! errors without fields, calls with keywords that may raise, isinstance of an error that is kept, tuple times int -/
namespace QA
open PySem PySem.Spec PyProof.Rows L2 G3 G5 E2 E3 E4 E5 E7 E8 E9 EB EC EE
section
variable {X : Cx}
/-- an error's own dict, where there is one -/
def DictOf (H : Hp) (d : Option Addr) : Prop := d = none ∨ ∃ (dd : Addr) (fs : List (Str × V)), d = some dd ∧ H dd = some (.xd fs)
theorem pmk_new0 {nm : Str} {p pos : Pos} (S : Err X.prog X.w X.K X.mg X.base nm []) (hr : Room 2 X.A) (hg : Gl X nm) (hdb : (nm == ("__debug__" : Str)) = false := by decide) :
    PMk X (.Call (.Name nm p) [] [] pos) (fun _ H Q => ∀ (d : Option Addr) H', Same H H' → DictOf H' d → Q (.ref S.C) d H') := by
  intro pins s σ H Q I hyp
  refine wpAny_Call_Name_kw (ld_glob I hg S.g ?_ hdb)
  refine PySem.W.callWith_K0 I.kIn S.T.kC (EA.run_mk (us := []) (vs := []) S.T S.ok hr S.kb I .nil (by decide) fun a na => ⟨a, [], rfl, rfl, upd_same, fun H2 gr en => ⟨rfl, ?_⟩⟩)
  rcases en with ⟨_, ea⟩ | ⟨dx, ea, ed, nd⟩
  · refine .inr ⟨ea, hyp _ _ (fun b o hb => ?_) (.inl rfl)⟩
    have nba := ne_of_none hb na
    rw [del_ne nba]
    exact gr b o (by rw [upd_ne nba]; exact hb) nba
  · have ne : dx ≠ a := fun e => by
      rw [e, upd_same] at nd
      cases nd
    have nd1 : H dx = none := by
      rw [upd_ne ne] at nd
      exact nd
    refine .inl ⟨dx, _, ea, ed, nd1, hyp _ _ (fun b o hb => ?_) (.inr ⟨dx, _, rfl, upd_same⟩)⟩
    have nba := ne_of_none hb na
    rw [upd_ne (ne_of_none hb nd1), del_ne nba]
    exact gr b o (by rw [upd_ne nba]; exact hb) nba
theorem ps_raise0 {nm : Str} {p pos pos' : Pos} {W : WX} (hc : X.calm = true) (tk : Takes X W) (S : Err X.prog X.w X.K X.mg X.base nm []) (hr : Room 2 X.A) (hg : Gl X nm) (hdb : (nm == ("__debug__" : Str)) = false := by decide) :
    PS X (.Raise (some (.Call (.Name nm p) [] [] pos)) none pos') (fun _ σ H => ∀ (d : Option Addr) H', Same H H' → DictOf H' d → W (.ref S.C) d σ H') := ps_raise hc tk (pmk_new0 S hr hg hdb)
/-- isinstance(e, c), e an error that was caught and kept -/
def rIsKept (K : PySem.W.Frag) : List V → Hp → VK → Prop := fun xs H Q => ∃ (a C : Addr) (d : Option Addr) (c : V) (u : Value) (b : Bool), xs = [.ref a, c] ∧ H a = some (exk a (.ref C) d) ∧ DictOf H d ∧ ExcC K C ∧ ClsV c u ∧ PySem.W.kitOne K (.ref C) u = some b ∧ Q (.bl b) H
theorem call_isKept : CallR X (.builtin "isinstance") (rIsKept X.K) := by
  intro pins s σ H xs us Q I r hyp
  obtain ⟨a, C, d, c, u, b, rfl, ea, dd, T, cv, e, q⟩ := hyp
  cases r with
  | cons rx rr =>
    cases rr with
    | cons rt rr =>
      cases rr
      cases rx
      have ec := cv.eq rt
      subst ec
      have hcl : (PySem.W.clsIn X.K C).isSome = true := by
        obtain ⟨cd, hc, _⟩ := PySem.W.any_some T.hd
        rw [hc]
        rfl
      obtain ⟨oe, vs, at0, z0, dt⟩ := exk_at I.hok ea
      have fin : ∀ {od : Option Obj}, PySem.W.InstAt s.heap a oe C od → wpAny (model X.prog X.w) X.A (call (.builtin "isinstance") [.ref a, _]) (EP X pins σ Q) X.xe s := fun {od} J =>
        PySem.W.kia_one (PySem.W.kitx_exc hcl T.hg T.hk T.hs T.ha T.hn T.ht T.hm) I.kIn J e (fun z => nomatch z) fun tk => ⟨.bl b, H, I.kept (t' := tk) fun _ _ z => z, rfl, q⟩
      rcases dd with rfl | ⟨dd, fs, rfl, ed⟩
      · exact fin (od := none) ⟨at0, z0.1, by unfold PySem.W.notCls; rw [dt] <;> rfl, by rw [z0.2]; trivial⟩
      · obtain ⟨mA, nsD, rel⟩ := (show ObjOk X.prog X.w H s.heap dd (.xd fs) from I.hok dd _ ed)
        obtain ⟨od, ho, hl⟩ := lookIn_ns nsD
        exact fin (od := some od) ⟨at0, z0.1, by unfold PySem.W.notCls; rw [dt] <;> rfl, by rw [z0.2]; exact ho⟩
/-- f(e, .., k = v, ..) that may raise, wished for at the caller's slots -/
def tCallKS (sp : Sp) (gV : List V → List V → List V) (E : L2.St → XK) (t tk : TA) : TE := fun σ H Q => t σ H fun vs H1 => tk σ H1 fun zs H2 => sp (gV vs zs) H2 Q (E σ)
theorem pe_callKS {CX : CXT} {k : Nat} {f : Addr} {fd : FuncData} {ps ks : List Str} {sp : Sp} {E : L2.St → XK} {x : Str} {p pos : Pos} {e : Expr} {es : List Expr} {kws : List Keyword} {t tk : TA} {g : List Value → List Value → List Value} {gV : List V → List V → List V}
    (F : FnOk X.prog X.w X.K X.mg X.base CX k f fd ps sp) (hr : Room k X.A) (hg : Gl X x) (hm : X.mg x = some (.ref f)) (hk : PySem.W.keepIn X.K (.ref f) = true) (hb : KBinds X.K fd ps ks g gV) (hx : ∀ σ, PassesAt CX X σ (E σ))
    (ha : PA X (e :: es) t) (hkw : PK X kws tk) (hall : (backToKw pos (keywordEach kws X.env)).all (·.1.isSome) = true := by rfl) (hks : (backToKw pos (keywordEach kws X.env)).filterMap (·.1) = ks := by rfl)
    (hdb : (x == ("__debug__" : Str)) = false := by decide) (he : starEach (e :: es) X.env = (false, eval e X.env) :: starEach es X.env := by rfl)
    (hpl : ((backTo pos (starEach (e :: es) X.env)).any (·.1) || (backToKw pos (keywordEach kws X.env)).any (·.1.isNone)) = false := by rfl) :
    PE X (.Call (.Name x p) (e :: es) kws pos) (tCallKS sp gV E t tk) := by
  refine ⟨fun pins s σ H Q I h => ?_⟩
  refine wpAny_Call_Name_kw (ld_glob I hg hm ?_ hdb)
  refine PySem.W.callWith_KW (h₀ := X.base) I.ok.mod.kin hk hall (thn (ha.run pos pins s σ H _ I h) fun us s1 ⟨vs, H1, I1, r, q⟩ => ?_) hpl he
  refine thn (hkw.run pos pins s1 σ H1 _ I1 q) fun ws s2 ⟨zs, H2, I2, rz, q2⟩ => ⟨I2.kIn, ?_⟩
  rw [hks]
  have r2 := hb.rel r rz
  have hl : (g us ws).length = ps.length := by rw [← r2.length]; exact F.len _ _ _ _ q2
  refine wpAny_call (codeAny_mono (F.run X.A X.stack s2 H2 ⟨us, ks.zip ws⟩ (g us ws) (gV vs zs) Q (E σ) hr I2.env0 (hb.to s2 us ws I2.kIn hl) r2 q2) fun r s' hq => ?_)
  cases r with
  | error e => exact hx σ pins H2 s2 e s' I2 hq
  | ok fl =>
    cases fl with
    | ret u => exact I2.after hq
    | next => exact False.elim hq
    | brk => exact False.elim hq
    | cont => exact False.elim hq
/-- two promises of one def -/
theorem fn_or {P : Program} {w : World} {K : PySem.W.Frag} {mg : Str → Option Value} {base : Heap} {CX : CXT} {k : Nat} {f : Addr} {fd : FuncData} {ps : List Str} {sp sp2 : Sp} (F : FnOk P w K mg base CX k f fd ps sp) (G : FnOk P w K mg base CX k f fd ps sp2) : FnOk P w K mg base CX k f fd ps (fun vs H Q E => sp vs H Q E ∨ sp2 vs H Q E) :=
  ⟨fun vs H Q E h => h.elim (F.len vs H Q E) (G.len vs H Q E), fun A outer s H args us vs Q E hr e0 b r h => h.elim (F.run A outer s H args us vs Q E hr e0 b r) (G.run A outer s H args us vs Q E hr e0 b r)⟩
theorem op_or {f : Value → Value → Sem Value} {r1 r2 : R2} (h1 : OpR X f r1) (h2 : OpR X f r2) : OpR X f (fun x y H Q => r1 x y H Q ∨ r2 x y H Q) := by
  intro pins s σ H x y v u Q I rx ry h
  exact h.elim (h1 pins s σ H x y v u Q I rx ry) (h2 pins s σ H x y v u Q I rx ry)
theorem op_repA : OpR X (binaryOp .Mult) (fun x y H Q => TM.rRep01 X.K x y H Q ∨ rRepT X.K x y H Q) := op_or TM.op_rep01 op_repT
theorem rep_any {K : PySem.W.Frag} {G : Hp} {t : Addr} {x : V} {n : Nat} {T : VK} (h : SqT K G t [x]) (n1 : 1 ≤ n) (n2 : n ≤ 1000) (go : ∀ ot G', SqT K G' ot (List.replicate n x) → Same G G' → T (.ref ot) G') : TM.rRep01 K (.ref t) (.int n) G T ∨ rRepT K (.ref t) (.int n) G T := by
  by_cases e : n = 1
  · subst e
    exact .inl ⟨t, _, _, rfl, rfl, h, by simp, .inl ⟨rfl, go t G h (Same.refl G)⟩⟩
  · refine .inr ⟨t, n, _, rfl, rfl, h, by simp, by omega, by omega, by simp, fun p np => ?_⟩
    have e2 : (List.replicate ((n : Nat) : Int).toNat [x]).flatten = List.replicate n x := by
      rw [Int.toNat_natCast, List.flatten_replicate_singleton]
    rw [e2]
    exact go p _ (SqT.of upd_same) (same_new np)
end
section
variable {X : Cx}
theorem call_reprBl : CallR X (.builtin "repr") (fun xs H Q => ∃ b, xs = [.bl b] ∧ Q (.str (if b then "True" else "False")) H) := by
  intro pins s σ H xs us Q I rel hyp
  obtain ⟨b, rfl, fin⟩ := hyp
  obtain ⟨u, rfl, ru⟩ := vals1 rel
  cases ru
  exact PySem.P.repr_of_bool ⟨.str _, H, I.tok _, ⟨_, rfl⟩, fin⟩
end
/-! how keywords come to parameters -/
def g21 {α : Type} : List α → List α → List α
  | [a, b], [c] => [a, b, c]
  | _, _ => []
def gS2 {α : Type} : List α → List α → List α
  | [], [c, d] => [c, d]
  | _, _ => []
def gR2 {α : Type} : List α → List α → List α
  | [], [c, d] => [d, c]
  | _, _ => []
def gR3 {α : Type} : List α → List α → List α
  | [], [c, d, e] => [e, d, c]
  | _, _ => []
theorem g21_rel {vs zs : List V} {us ws : List Value} (r : Vals vs us) (rz : Vals zs ws) : Vals (g21 vs zs) (g21 us ws) := by
  match vs, us, r, zs, ws, rz with
  | _, _, .cons r1 (.cons r2 .nil), _, _, .cons r3 .nil => exact .cons r1 (.cons r2 (.cons r3 .nil))
  | _, _, .nil, _, _, _ => exact .nil
  | _, _, .cons _ .nil, _, _, _ => exact .nil
  | _, _, .cons _ (.cons _ (.cons _ _)), _, _, _ => exact .nil
  | _, _, .cons _ (.cons _ .nil), _, _, .nil => exact .nil
  | _, _, .cons _ (.cons _ .nil), _, _, .cons _ (.cons _ _) => exact .nil
theorem gS2_rel {vs zs : List V} {us ws : List Value} (r : Vals vs us) (rz : Vals zs ws) : Vals (gS2 vs zs) (gS2 us ws) := by
  match vs, us, r, zs, ws, rz with
  | _, _, .nil, _, _, .cons r1 (.cons r2 .nil) => exact .cons r1 (.cons r2 .nil)
  | _, _, .cons _ _, _, _, _ => exact .nil
  | _, _, .nil, _, _, .nil => exact .nil
  | _, _, .nil, _, _, .cons _ .nil => exact .nil
  | _, _, .nil, _, _, .cons _ (.cons _ (.cons _ _)) => exact .nil
theorem gR2_rel {vs zs : List V} {us ws : List Value} (r : Vals vs us) (rz : Vals zs ws) : Vals (gR2 vs zs) (gR2 us ws) := by
  match vs, us, r, zs, ws, rz with
  | _, _, .nil, _, _, .cons r1 (.cons r2 .nil) => exact .cons r2 (.cons r1 .nil)
  | _, _, .cons _ _, _, _, _ => exact .nil
  | _, _, .nil, _, _, .nil => exact .nil
  | _, _, .nil, _, _, .cons _ .nil => exact .nil
  | _, _, .nil, _, _, .cons _ (.cons _ (.cons _ _)) => exact .nil
theorem gR3_rel {vs zs : List V} {us ws : List Value} (r : Vals vs us) (rz : Vals zs ws) : Vals (gR3 vs zs) (gR3 us ws) := by
  match vs, us, r, zs, ws, rz with
  | _, _, .nil, _, _, .cons r1 (.cons r2 (.cons r3 .nil)) => exact .cons r3 (.cons r2 (.cons r1 .nil))
  | _, _, .cons _ _, _, _, _ => exact .nil
  | _, _, .nil, _, _, .nil => exact .nil
  | _, _, .nil, _, _, .cons _ .nil => exact .nil
  | _, _, .nil, _, _, .cons _ (.cons _ .nil) => exact .nil
  | _, _, .nil, _, _, .cons _ (.cons _ (.cons _ (.cons _ _))) => exact .nil
theorem g21_len {α : Type} {us ws : List α} (h : (g21 us ws).length = 3) : ∃ a b c, us = [a, b] ∧ ws = [c] := by
  unfold g21 at h
  split at h
  · exact ⟨_, _, _, rfl, rfl⟩
  · simp at h
theorem gS2_len {α : Type} {us ws : List α} (h : (gS2 us ws).length = 2) : ∃ c d, us = [] ∧ ws = [c, d] := by
  unfold gS2 at h
  split at h
  · exact ⟨_, _, rfl, rfl⟩
  · simp at h
theorem gR2_len {α : Type} {us ws : List α} (h : (gR2 us ws).length = 2) : ∃ c d, us = [] ∧ ws = [c, d] := by
  unfold gR2 at h
  split at h
  · exact ⟨_, _, rfl, rfl⟩
  · simp at h
theorem gR3_len {α : Type} {us ws : List α} (h : (gR3 us ws).length = 3) : ∃ c d e, us = [] ∧ ws = [c, d, e] := by
  unfold gR3 at h
  split at h
  · exact ⟨_, _, _, rfl, rfl⟩
  · simp at h
end QA

set_option maxHeartbeats 4000000
/-! truths beside whole numbers: 0 <= x < n of a truth x -/
namespace HX
open PySem PySem.Spec PyProof.Rows L2 G3 QA
theorem sub_ib : isSubtype (.type "int") (.type "bool") = pure false := by rw [isSubtype_type]; kernel_rfl
theorem sub_bi : isSubtype (.type "bool") (.type "int") = pure true := by rw [isSubtype_type]; kernel_rfl
theorem gives_lt (a : Bool) (b : Int) (u : Tok) : Gives (Builtin.«int.__lt__» ⟨[.bool a, .int b u], []⟩) (.val (Value.bool (decide ((if a = true then (1 : Int) else 0) < b)))) :=
  .of_wp fun M A E s Q h => by
    obtain ⟨hp, g, d, tk, os⟩ := s
    wp_walk
    exact ⟨_, rfl, h⟩
theorem gives_ge (a : Bool) (b : Int) (u : Tok) : Gives (Builtin.«int.__ge__» ⟨[.bool a, .int b u], []⟩) (.val (Value.bool (decide ((if a = true then (1 : Int) else 0) ≥ b)))) :=
  .of_wp fun M A E s Q h => by
    obtain ⟨hp, g, d, tk, os⟩ := s
    wp_walk
    exact ⟨_, rfl, h⟩
section
variable {X : Cx}
theorem op_ltBI : OpR X (compareOp .Lt) (fun x y H Q => ∃ (a : Bool) (j : Int), x = .bl a ∧ y = .int j ∧ Q (.bl (decide ((if a = true then (1 : Int) else 0) < j))) H) := by
  intro pins s σ H x y v u Q I rx ry h
  obtain ⟨a, j, rfl, rfl, q⟩ := h
  cases (show v = Value.bool a from rx)
  obtain ⟨t, rfl⟩ := ry
  exact SeqAt.rc_left_or (op := .Lt) (s := s) (Ta := "bool") rfl (typeIs_int s j t) (by decide) sub_ib PySem.F.slot_bool_lt (call_gives PySem.F.slot_bool_lt rfl PySem.F.entry_int_lt (PySem.F.args_int_lt_2 _ _) (gives_lt a j t) ⟨nofun, ⟨.bl _, H, I, rfl, q⟩⟩) (.inl rfl)
theorem op_leIB : OpR X (compareOp .LtE) (fun x y H Q => ∃ (i : Int) (b : Bool), x = .int i ∧ y = .bl b ∧ Q (.bl (decide (i ≤ (if b = true then (1 : Int) else 0)))) H) := by
  intro pins s σ H x y v u Q I rx ry h
  obtain ⟨i, b, rfl, rfl, q⟩ := h
  obtain ⟨t, rfl⟩ := rx
  cases (show u = Value.bool b from ry)
  exact SeqAt.rc_sub_first_or (op := .LtE) (s := s) (Tb := "bool") (typeIs_int s i t) rfl (by decide) sub_bi PySem.F.slot_bool_ge_refl (call_gives PySem.F.slot_bool_ge_refl rfl PySem.F.entry_int_ge (PySem.F.args_int_ge_2 _ _) (gives_ge b i t) ⟨nofun, ⟨.bl _, H, I, rfl, q⟩⟩) (.inl rfl)
/-- i <= x, x a whole number or a truth -/
theorem op_leA : OpR X (compareOp .LtE) (fun x y H Q => (rI0 fun i j => .bl (decide (i ≤ j))) x y H Q ∨ ∃ (i : Int) (b : Bool), x = .int i ∧ y = .bl b ∧ Q (.bl (decide (i ≤ (if b = true then (1 : Int) else 0)))) H) := op_or op_le op_leIB
theorem op_ltA : OpR X (compareOp .Lt) (fun x y H Q => (rI0 fun i j => .bl (decide (i < j))) x y H Q ∨ ∃ (a : Bool) (j : Int), x = .bl a ∧ y = .int j ∧ Q (.bl (decide ((if a = true then (1 : Int) else 0) < j))) H) := op_or op_lt op_ltBI
theorem op_isIB : OpR X (compareOp .Is) (fun x y H Q => ∃ i b, x = .int i ∧ y = .bl b ∧ Q (.bl false) H) := by
  intro pins s σ H x y v u Q I rx ry h
  obtain ⟨i, b, rfl, rfl, q⟩ := h
  obtain ⟨t, rfl⟩ := rx
  cases (show u = Value.bool b from ry)
  exact wpAny_is_other rfl (fun z => nomatch z) ⟨.bl false, H, I, rfl, q⟩
/-- x is True, x a whole number or a truth -/
theorem op_isA : OpR X (compareOp .Is) (fun x y H Q => (∃ i b, x = .int i ∧ y = .bl b ∧ Q (.bl false) H) ∨ rIsB x y H Q) := op_or op_isIB op_isBl
end
end HX

set_option maxHeartbeats 4000000
namespace PP
open PySem PySem.Spec PyProof.Rows L2 G3 G4 M0 PA
theorem scWhole : FnScope ["thing"] ["thing"] (defScope s_is_whole) := ⟨rfl, rfl, rfl, by decide +kernel, rfl, by decide +kernel, by decide +kernel⟩
theorem scTuple : FnScope ["thing", "fewest", "most"] ["thing", "fewest", "most"] (defScope s_is_tuple) := ⟨rfl, rfl, rfl, by decide +kernel, rfl, by decide +kernel, by decide +kernel⟩
/-- what may be asked about -/
structure Fit (d : PyData) : Prop where
  lay : d.canLay0 = true
  dep : d.depth ≤ 20
  blk : d.bulk ≤ 100000
def mWhole : PyData → Bool
  | .int _ => true
  | _ => false
def mNought : PyData → Bool
  | .int i => decide (0 ≤ i)
  | _ => false
/-- is_tuple(d, n, n) -/
def aTup (n : Nat) : PyData → Bool
  | .tuple ds => decide (ds.length = n)
  | _ => false
section
variable {P : Program} {w : World} {K : PySem.W.Frag} {mg : Str → Option Value} {base : Heap}
/-- asked of anything, a truth is told and nothing is changed -/
def spAsk (K : PySem.W.Frag) (m : PyData → Bool) : Sp := fun vs H Q _ => ∃ (x : V) (d : PyData), vs = [x] ∧ Dp K H x d ∧ Fit d ∧ ∀ H', Same H H' → Q (.bl (m d)) H'
def spTuple (K : PySem.W.Frag) : Sp := fun vs H Q _ => ∃ (x : V) (d : PyData) (n : Nat), vs = [x, .int n, .int n] ∧ Dp K H x d ∧ Fit d ∧ Q (.bl (aTup n d)) H
theorem ask_len {m : PyData → Bool} : ∀ vs H Q E, spAsk K m vs H Q E → vs.length = 1 := fun vs H Q E h => by
  obtain ⟨x, d, rfl, _⟩ := h
  rfl
theorem ok_whole {f : Addr} {fd : FuncData} {k : Nat} (F : Fun K "is_whole" "is_whole" s_is_whole f fd) (mi : mg "isinstance" = none) (mn : mg "int" = none) (mb : mg "bool" = none) : FnOk P w K mg base CX0 (k + 1) f fd ["thing"] (spAsk K mWhole) := by
  refine F.ok scWhole ask_len (fun cdv A outer s H vs Q E hr h => ?_)
  obtain ⟨x, d, rfl, hd, ft, q⟩ := h
  have nd := scWhole.nd
  refine ⟨_, pss_one (ps_ret (pe_and (pe_callB call_isi (by rfl) mi PyProof.Rows.boot_isinstance (pa_cons (pv 0) (pa_cons (pe_bltn (by rfl) mn (u := .type "int") (by decide +kernel) (show RelV (.ty "int") (.type "int") from rfl)) pa_nil)))
    (pe_one (pe_not (pe_callB call_isi (by rfl) mi PyProof.Rows.boot_isinstance (pa_cons (pv 0) (pa_cons (pe_bltn (by rfl) mb (u := .type "bool") (by decide +kernel) (show RelV (.ty "bool") (.type "bool") from rfl)) pa_nil))))))), ?_⟩
  refine ⟨_, rfl, _, _, _, _, _, rfl, .ty "int", dp_ty hd, kit_int K hd, _, rfl, ite2 (fun e => ?_) (fun e => ?_)⟩
  · refine ⟨_, rfl, _, _, _, _, _, rfl, .ty "bool", dp_ty hd, kit_bool K hd, _, rfl, ?_⟩
    have z := q H (Same.refl H)
    cases hd with
    | bl b => exact z
    | int i => exact z
    | _ => exact Bool.noConfusion (show false = true from e)
  · have z := q H (Same.refl H)
    cases hd with
    | bl b => exact absurd rfl e
    | int i => exact absurd rfl e
    | _ => exact z
theorem ok_tuple {f : Addr} {fd : FuncData} {k : Nat} (F : Fun K "is_tuple" "is_tuple" s_is_tuple f fd) (mi : mg "isinstance" = none) (mt : mg "tuple" = none) (ml : mg "len" = none) : FnOk P w K mg base CX0 (k + 1) f fd ["thing", "fewest", "most"] (spTuple K) := by
  refine F.ok scTuple (fun vs H Q E h => ?_) (fun cdv A outer s H vs Q E hr h => ?_)
  · obtain ⟨x, d, n, rfl, _⟩ := h
    rfl
  obtain ⟨x, d, n, rfl, hd, ft, q⟩ := h
  have nd := scTuple.nd
  refine ⟨_, pss_one (ps_ret (pe_and (pe_callB call_isi (by rfl) mi PyProof.Rows.boot_isinstance (pa_cons (pv 0) (pa_cons (pe_bltn (by rfl) mt (u := .type "tuple") (by decide +kernel) (show RelV (.ty "tuple") (.type "tuple") from rfl)) pa_nil)))
    (pe_one (pe_chain op_le op_le (pv 1) (pe_callB call_len_seq (by rfl) ml PySem.boot_len (pa_cons (pv 0) pa_nil)) (pv 2))))), ?_⟩
  refine ⟨_, rfl, _, _, _, _, _, rfl, .ty "tuple", dp_ty hd, kit_tup K hd, _, rfl, ite2 (fun e => ?_) (fun e => ?_)⟩
  · cases hd with
    | @tup a xs ds hs ha =>
      have hl := dpAll_len ha
      refine ⟨_, rfl, _, rfl, a, _, rfl, .inr hs, _, _, rfl, rfl, _, rfl, ite2 (fun e1 => ?_) (fun e1 => ?_)⟩
      · refine ⟨_, rfl, _, _, rfl, rfl, ?_⟩
        have e2 : decide ((xs.length : Int) ≤ (n : Int)) = decide (ds.length = n) := by
          have := of_decide_eq_true e1
          rw [decide_eq_decide]
          omega
        show Q (.bl (decide ((xs.length : Int) ≤ (n : Int)))) H
        rw [e2]
        exact q
      · have e2 : decide (ds.length = n) = false := by
          rw [decide_eq_false_iff_not]
          intro z
          exact e1 (decide_eq_true (by omega))
        have q2 : Q (.bl (decide (ds.length = n))) H := q
        rw [e2] at q2
        exact q2
    | _ => exact Bool.noConfusion (show false = true from e)
  · cases hd with
    | tup hs ha => exact absurd rfl e
    | _ => exact q
end


theorem lay_in {d : PyData} : ∀ {ds : List PyData}, PyData.canLayAll0 ds = true → d ∈ ds → d.canLay0 = true
  | x :: ds, h, m => by
    simp only [PyData.canLayAll0, Bool.and_eq_true] at h
    rcases List.mem_cons.mp m with e | m
    · rw [e]; exact h.1
    · exact lay_in h.2 m
theorem depth_in {d : PyData} : ∀ {ds : List PyData}, d ∈ ds → d.depth ≤ PyData.depthAll ds
  | x :: ds, m => by
    simp only [PyData.depthAll]
    rcases List.mem_cons.mp m with e | m
    · rw [e]; exact Nat.le_max_left _ _
    · exact Nat.le_trans (depth_in m) (Nat.le_max_right _ _)
theorem Fit.mem {ds : List PyData} {d : PyData} (h : Fit (.tuple ds)) (m : d ∈ ds) : Fit d := by
  refine ⟨?_, ?_, ?_⟩
  · have h2 := h.lay
    simp only [PyData.canLay0] at h2
    exact lay_in h2 m
  · have h1 := h.dep
    simp only [PyData.depth] at h1
    have := depth_in m
    omega
  · have h1 := h.blk
    simp only [PyData.bulk] at h1
    have := bulk_mem m
    omega
theorem Fit.len {ds : List PyData} (h : Fit (.tuple ds)) : ds.length ≤ 100000 := by
  have h1 := h.blk
  simp only [PyData.bulk] at h1
  have := bulk_len ds
  omega
theorem small_line {n : Nat} (h : n ≤ 100000) : n < sizeLine := Nat.lt_of_le_of_lt h (by decide)
/-- [e(x) for x in t], e a truth of each -/
theorem lc_ask {K : PySem.W.Frag} {a : Addr} {xs : List V} {ds : List PyData} {m : PyData → Bool} {g : TG} {te : TE} {vs : List Nat} {σ : L2.St} {H1 : Hp} {D : Addr} {Qd : Hp → Prop}
    (hx : SqT K H1 a xs) (hd : DpAll K H1 xs ds) (len : ds.length ≤ 100000) (nD : H1 D = none)
    (turn : ∀ x d H (R : V → Hp → Prop), d ∈ ds → Dp K H x d → (∀ H', Same H H' → R (.bl (m d)) H') → g x (wipe σ vs) H fun σ2 H2 => wipe σ2 vs = wipe σ vs ∧ te σ2 H2 R)
    (fin : ∀ H', Same H1 H' → H' D = some (.lst ((ds.map m).map V.bl)) → Qd H') :
    ∃ W : Nat → Nat → Hp → Prop, (∃ m, W 0 m (upd H1 D (.lst []))) ∧ ∀ i m H, W i m H →
      ((Itt K a).stop i H ∧ Qd H) ∨ ((Itt K a).go i H ∧ ∃ Nx : Hp → Prop, (∀ H', Nx H' → ∃ m', m' < m ∧ W (i + 1) m' H') ∧ ∀ x H', (Itt K a).yld i H x H' → g x (wipe σ vs) H' fun σ2 H2 => wipe σ2 vs = wipe σ vs ∧ tYes σ2 H2 fun b H3 =>
        if b = true then te σ2 H3 fun y H4 => ∃ acc, H4 D = some (.lst acc) ∧ acc.length < sizeLine ∧ Nx (upd H4 D (.lst (acc ++ [y]))) else Nx H3) := by
  have hl := dpAll_len hd
  refine lc_tup (xs := xs) (fun i H => Same H1 H ∧ H D = some (.lst (((ds.take i).map m).map V.bl))) ⟨same_new nD, upd_same⟩ (fun i H _ h => same_tup h.1 hx) (fun i x H e h => ?_) (fun H h => fin H h.1 ?_)
  · obtain ⟨d, ed, hxd⟩ := dpAll_get hd e
    have hlt : i < ds.length := (List.getElem?_eq_some_iff.mp ed).1
    have t := turn x d H (fun y H4 => ∃ acc, H4 D = some (.lst acc) ∧ acc.length < sizeLine ∧ (Same H1 (upd H4 D (.lst (acc ++ [y]))) ∧ (upd H4 D (.lst (acc ++ [y]))) D = some (.lst (((ds.take (i + 1)).map m).map V.bl)))) (List.mem_of_getElem? ed) (dp_same h.1 _ _ hxd) (fun H' s => ?_)
    · dsimp only [tYes]
      simp only [if_true]
      exact t
    · refine ⟨_, s _ _ h.2, ?_, same_put (h.1.trans s) nD, ?_⟩
      · rw [List.length_map, List.length_map, List.length_take]
        exact small_line (by omega)
      · rw [upd_same, List.take_succ, ed]
        simp
  · have e : ds.take xs.length = ds := List.take_of_length_le (by omega)
    rw [e] at h
    exact h.2

end PP

set_option maxHeartbeats 4000000
namespace PP
open PySem PySem.Spec PyProof.Rows L2 G3 G4 M0 PA EE QA HX
theorem aTup_of {K : PySem.W.Frag} {H : Hp} {n : Nat} {d : PyData} {v : V} (hd : Dp K H v d) (h : aTup n d = true) : ∃ a xs ds, v = .ref a ∧ d = .tuple ds ∧ SqT K H a xs ∧ DpAll K H xs ds ∧ ds.length = n := by
  cases hd with
  | tup hs ha => exact ⟨_, _, _, rfl, rfl, hs, ha, of_decide_eq_true h⟩
  | _ => exact Bool.noConfusion (show false = true from h)
theorem pair_of {ds : List PyData} (h : ds.length = 2) : ∃ a b, ds = [a, b] := by
  match ds, h with
  | [a, b], _ => exact ⟨a, b, rfl⟩
/-- a hand of so many -/
def mHand (n : Nat) : PyData → Bool
  | .int i => decide (0 ≤ i) && decide (i < (n : Int))
  | _ => false
def mBetween (lo hi : Int) : PyData → Bool
  | .int i => decide (lo ≤ i) && decide (i ≤ hi)
  | _ => false
/-- how many rows the text has -/
def rowsIn (ts : List PA.Text) : PyData → Int
  | .int i => match ts[i.toNat]? with
    | some t => t.2.length
    | none => 0
  | _ => 0
def mPoint (ts : List PA.Text) : PyData → Bool
  | .tuple [a, b] => mBetween 0 ((ts.length : Int) - 1) a && mBetween 0 (rowsIn ts a) b
  | _ => false
/-- the row at a point -/
def rowAt (ts : List PA.Text) (a b : Int) : PA.Row := match ts[a.toNat]? with
  | some t => (t.2[b.toNat]?).getD .back
  | none => .back
theorem scLookHand : FnScope ["program", "thing"] ["program", "thing"] (defScope s_look_at_hand) := ⟨rfl, rfl, rfl, by decide +kernel, rfl, by decide +kernel, by decide +kernel⟩
theorem scBetween : FnScope ["thing", "low", "high"] ["thing", "low", "high"] (defScope s_is_between) := ⟨rfl, rfl, rfl, by decide +kernel, rfl, by decide +kernel, by decide +kernel⟩
theorem scPoint : FnScope ["texts", "thing"] ["texts", "thing"] (defScope s_is_point) := ⟨rfl, rfl, rfl, by decide +kernel, rfl, by decide +kernel, by decide +kernel⟩
abbrev nRowOf : List Str := ["texts", "point", "text", "at", "rows"]
theorem scRowOf : FnScope nRowOf ["texts", "point"] (defScope s_row_of) := ⟨rfl, rfl, rfl, by decide +kernel, rfl, by decide +kernel, by decide +kernel⟩
abbrev nRowAt : List Str := ["program", "hand", "point", "texts"]
theorem scRowAt : FnScope nRowAt ["program", "hand", "point"] (defScope s_row_at) := ⟨rfl, rfl, rfl, by decide +kernel, rfl, by decide +kernel, by decide +kernel⟩
section
variable {P : Program} {w : World} {K : PySem.W.Frag} {mg : Str → Option Value} {base : Heap}
def spLookHand (K : PySem.W.Frag) (C : Addr) : Sp := fun vs H Q E => ∃ (v x : V) (p : Prog) (d : PyData), vs = [v, x] ∧ Dp K H v (progD p) ∧ p.2.length ≤ 1000 ∧ Dp K H x d ∧
  (mHand p.2.length d = true → ∀ H', Same H H' → Q .non H') ∧ (mHand p.2.length d = false → ∀ dd H', H dd = none → Same H H' → H' dd = some (.xd [("hand", x)]) → E (.ref C) (some dd) H')
set_option maxHeartbeats 8000000 in
theorem ok_lookhand {f : Addr} {fd : FuncData} {k : Nat} (F : Fun K "look_at_hand" "look_at_hand" s_look_at_hand f fd) (S : Err P w K mg base "NoHand" ["hand"]) (mi : mg "isinstance" = none) (mn : mg "int" = none) (ml : mg "len" = none) : FnOk P w K mg base (L2.CX P w) (k + 2 + 1) f fd ["program", "thing"] (spLookHand K S.C) := by
  refine F.okX scLookHand (fun vs H Q E h => ?_) (fun cdv A outer s H vs Q E hr h => ?_)
  · obtain ⟨v, x, p, d, rfl, _⟩ := h
    rfl
  obtain ⟨v, x, p, d, rfl, hv, hl, hd, yes, no⟩ := h
  have nd := scLookHand.nd
  refine ⟨_, pss_one (ps_if (PW.pt (pw_or (pt_not (pt_val (pe_callB call_isi (by rfl) mi PyProof.Rows.boot_isinstance (pa_cons (pv 1) (pa_cons (pe_bltn (by rfl) mn (u := .type "int") (by decide +kernel) (show RelV (.ty "int") (.type "int") from rfl)) pa_nil)))))
      (pw_or (pt_not (pt_chain op_leA op_ltA pe_int (pv 1) (pe_callB call_len_seq (by rfl) ml PySem.boot_len (pa_cons (pe_ix ix_tup (pv 0) pe_int (fun _ _ => rfl)) pa_nil))))
      (pw_or (pt_cmpR op_isA (pv 1) pe_bl (nomark _)) (pw_or1 (pt_cmpR op_isA (pv 1) pe_bl (nomark _)))))))
    (pss_one (ps_raiseN rfl (takes_of rfl rfl rfl rfl) S (hr.mono (by omega)) (by rfl) (pa_cons (pv 1) pa_nil))) pss_nil), ?_⟩
  obtain ⟨va, x1, x2, rfl, hva, _, d2⟩ := dp2 hv
  obtain ⟨xa, xs, rfl, hxa, hxs⟩ := dp_tup d2
  have hxl : xs.length = p.2.length := by rw [dpAll_len hxs, List.length_map]
  have raise : mHand p.2.length d = false → tNewR S.C ["hand"] (tCons (tVar 1) tNil) (start ["program", "thing"] [.ref va, x]) H fun cls dd H' => E cls dd H' := fun z =>
    ⟨_, rfl, by show 1 ≤ 1000; decide, rfl, by simp [E9.names], fun dd H' n1 s1 h1 => no z dd H' n1 s1 h1⟩
  refine ⟨_, rfl, _, _, _, _, _, rfl, .ty "int", dp_ty hd, kit_int K hd, _, rfl, ?_⟩
  cases hd with
  | int i =>
    refine iteF ⟨_, rfl, .inl ⟨_, _, rfl, rfl, _, rfl, ?_⟩⟩
    cases e0 : decide (0 ≤ i) with
    | false =>
      exact iteF ⟨_, rfl, iteT (iteT (raise (by show (decide (0 ≤ i) && _) = false; rw [e0]; rfl)))⟩
    | true =>
      refine iteT ⟨_, rfl, va, _, 1, _, rfl, rfl, hva, atI_nat (j := 1) rfl, xa, _, rfl, .inr hxa, .inl ⟨_, _, rfl, rfl, _, rfl, ?_⟩⟩
      cases e1 : decide (i < (xs.length : Int)) with
      | false =>
        exact iteT (iteT (raise (by show (decide (0 ≤ i) && decide (i < (p.2.length : Int))) = false; rw [← hxl, e1, Bool.and_false])))
      | true =>
        refine iteF ⟨_, rfl, .inl ⟨_, _, rfl, rfl, _, rfl, iteF ⟨_, rfl, .inl ⟨_, _, rfl, rfl, _, rfl, iteF ?_⟩⟩⟩⟩
        exact yes (by show (decide (0 ≤ i) && decide (i < (p.2.length : Int))) = true; rw [← hxl, e0, e1]; rfl) H (Same.refl H)
  | bl b =>
    refine iteF ⟨_, rfl, .inr ⟨_, _, rfl, rfl, _, rfl, ?_⟩⟩
    have e0 : decide ((0 : Int) ≤ (if b = true then (1 : Int) else 0)) = true := by cases b <;> rfl
    rw [e0]
    refine iteT ⟨_, rfl, va, _, 1, _, rfl, rfl, hva, atI_nat (j := 1) rfl, xa, _, rfl, .inr hxa, .inr ⟨_, _, rfl, rfl, _, rfl, ?_⟩⟩
    cases e1 : decide ((if b = true then (1 : Int) else 0) < (xs.length : Int)) with
    | false => exact iteT (iteT (raise rfl))
    | true =>
      refine iteF ⟨_, rfl, .inr ⟨_, _, rfl, rfl, _, rfl, ?_⟩⟩
      cases b with
      | true => exact iteT (iteT (raise rfl))
      | false => exact iteF ⟨_, rfl, .inr ⟨_, _, rfl, rfl, _, rfl, iteT (raise rfl)⟩⟩
  | _ => exact iteT (iteT (raise rfl))
def spBetw (K : PySem.W.Frag) : Sp := fun vs H Q _ => ∃ (x : V) (d : PyData) (lo hi : Int), vs = [x, .int lo, .int hi] ∧ Dp K H x d ∧ Fit d ∧ ∀ H', Same H H' → Q (.bl (mBetween lo hi d)) H'
theorem ok_between {f : Addr} {fd : FuncData} {k : Nat} (F : Fun K "is_between" "is_between" s_is_between f fd) (W : Def P w K mg base CX0 (k + 1) "is_whole" ["thing"] (spAsk K mWhole)) : FnOk P w K mg base CX0 (k + 1 + 1) f fd ["thing", "low", "high"] (spBetw K) := by
  refine F.ok scBetween (fun vs H Q E h => ?_) (fun cdv A outer s H vs Q E hr h => ?_)
  · obtain ⟨x, d, lo, hi, rfl, _⟩ := h
    rfl
  obtain ⟨x, d, lo, hi, rfl, hd, ft, q⟩ := h
  have nd := scBetween.nd
  refine ⟨_, pss_one (ps_ret (pe_and (pe_call W.ok hr (by rfl) W.g W.kp W.b .nil pass0 (pa_cons (pv 0) pa_nil)) (pe_one (pe_chain op_le op_le (pv 1) (pv 0) (pv 2))))), ?_⟩
  refine ⟨_, rfl, x, d, rfl, hd, ft, fun H1 s1 => ⟨_, rfl, ?_⟩⟩
  have z := q H1 s1
  cases hd with
  | int i =>
    refine iteT ⟨_, rfl, _, rfl, _, _, rfl, rfl, _, rfl, ?_⟩
    have e : mBetween lo hi (.int i) = (decide (lo ≤ i) && decide (i ≤ hi)) := rfl
    rw [e] at z
    cases e0 : decide (lo ≤ i) with
    | false =>
      rw [e0] at z
      exact iteF z
    | true =>
      rw [e0] at z
      exact iteT ⟨_, rfl, _, _, rfl, rfl, z⟩
  | _ => exact iteF z
def spPoint (K : PySem.W.Frag) : Sp := fun vs H Q _ => ∃ (v x : V) (ts : List PA.Text) (d : PyData), vs = [v, x] ∧ Dp K H v (.tuple (ts.map textD)) ∧ Dp K H x d ∧ Fit d ∧ ∀ H', Same H H' → Q (.bl (mPoint ts d)) H'
theorem point_not {ts : List PA.Text} {d : PyData} (h : aTup 2 d = false) : mPoint ts d = false := by
  unfold mPoint
  split
  · exact Bool.noConfusion (show true = false from h)
  · rfl
set_option maxHeartbeats 8000000 in
theorem ok_point {f : Addr} {fd : FuncData} {k : Nat} (F : Fun K "is_point" "is_point" s_is_point f fd) (T : Def P w K mg base CX0 (k + 1) "is_tuple" ["thing", "fewest", "most"] (spTuple K)) (B : Def P w K mg base CX0 (k + 1) "is_between" ["thing", "low", "high"] (spBetw K)) (ml : mg "len" = none) : FnOk P w K mg base CX0 (k + 1 + 1) f fd ["texts", "thing"] (spPoint K) := by
  refine F.ok scPoint (fun vs H Q E h => ?_) (fun cdv A outer s H vs Q E hr h => ?_)
  · obtain ⟨v, x, ts, d, rfl, _⟩ := h
    rfl
  obtain ⟨v, x, ts, d, rfl, hv, hd, ft, q⟩ := h
  have nd := scPoint.nd
  refine ⟨_, pss_cons (ps_if (PW.pt (pw_or (pt_not (pt_val (pe_call T.ok hr (by rfl) T.g T.kp T.b .nil pass0 (pa_cons (pv 1) (pa_cons pe_int (pa_cons pe_int pa_nil))))))
      (pw_or1 (pt_not (pt_val (pe_call B.ok hr (by rfl) B.g B.kp B.b .nil pass0 (pa_cons (pe_ix ix_tup (pv 1) pe_int (fun _ _ => rfl)) (pa_cons pe_int (pa_cons (pe_op op_sub (pe_callB call_len_seq (by rfl) ml PySem.boot_len (pa_cons (pv 0) pa_nil)) pe_int) pa_nil)))))))))
      (pss_one (ps_ret pe_bl)) pss_nil)
    (pss_one (ps_ret (pe_call B.ok hr (by rfl) B.g B.kp B.b .nil pass0 (pa_cons (pe_ix ix_tup (pv 1) pe_int (fun _ _ => rfl)) (pa_cons pe_int (pa_cons (pe_callB call_len_seq (by rfl) ml PySem.boot_len (pa_cons (pe_ix ix_tup (pe_ix ix_tup (pv 0) (pe_ix ix_tup (pv 1) pe_int (fun _ _ => rfl)) (fun _ _ => rfl)) pe_int (fun _ _ => rfl)) pa_nil)) pa_nil)))))), ?_⟩
  obtain ⟨ta, xs, rfl, hta, htl⟩ := dp_tup hv
  have hxl : xs.length = ts.length := by rw [dpAll_len htl, List.length_map]
  refine ⟨_, rfl, x, d, 2, rfl, hd, ft, _, rfl, ?_⟩
  cases e : aTup 2 d with
  | false =>
    have z := q H (Same.refl H)
    rw [point_not e] at z
    exact iteT (iteT z)
  | true =>
    obtain ⟨xa, ys, ds, rfl, rfl, hxa, hds, hlen⟩ := aTup_of hd e
    obtain ⟨d0, d1, rfl⟩ := pair_of hlen
    obtain ⟨xb, v0, v1, eab, hab, h0, h1⟩ := dp2 (.tup hxa hds)
    cases eab
    have f0 : Fit d0 := ft.mem List.mem_cons_self
    have f1 : Fit d1 := ft.mem (List.mem_cons_of_mem _ List.mem_cons_self)
    refine iteF ⟨_, rfl, xa, _, 0, _, rfl, rfl, hab, atI_nat (j := 0) rfl, _, rfl, ta, _, rfl, .inr hta, _, _, rfl, rfl, v0, d0, _, _, rfl, h0, f0, fun H1 s1 => ⟨_, rfl, ?_⟩⟩
    have z := q H1 s1
    have em : mPoint ts (.tuple [d0, d1]) = (mBetween 0 ((ts.length : Int) - 1) d0 && mBetween 0 (rowsIn ts d0) d1) := rfl
    rw [em] at z q
    rw [hxl]
    cases e0 : mBetween 0 ((ts.length : Int) - 1) d0 with
    | false =>
      rw [e0] at z
      exact iteT z
    | true =>
      rw [e0, Bool.true_and] at q
      obtain ⟨i, rfl⟩ : ∃ i, d0 = .int i := by
        cases d0 with
        | int i => exact ⟨i, rfl⟩
        | _ => exact Bool.noConfusion (show false = true from e0)
      cases dp_int h0
      have eb : decide (0 ≤ i) = true ∧ decide (i ≤ (ts.length : Int) - 1) = true := Bool.and_eq_true_iff.mp e0
      have b0 := of_decide_eq_true eb.1
      have b1 := of_decide_eq_true eb.2
      have hi : i.toNat < ts.length := by omega
      obtain ⟨y, hy, hyd⟩ := dpAll_getD htl (i := i.toNat) (d := textD ts[i.toNat]) (by rw [List.getElem?_map, List.getElem?_eq_getElem hi]; rfl)
      obtain ⟨tb, t0, t1, rfl, htb, _, hrs⟩ := dp2 hyd
      obtain ⟨ra, rs, rfl, hra, hrl⟩ := dp_tup hrs
      have hat : atI xs i = some (.ref tb) := by
        have z2 := atI_nat (xs := xs) hy
        rwa [Int.toNat_of_nonneg b0] at z2
      refine iteF ⟨_, rfl, xa, _, 1, _, rfl, rfl, same_tup s1 hab, atI_nat (j := 1) rfl, _, rfl, _, rfl, xa, _, 0, _, rfl, rfl, same_tup s1 hab, atI_nat (j := 0) rfl, ta, _, i, _, rfl, rfl, same_tup s1 hta, hat, tb, _, 1, _, rfl, rfl, same_tup s1 htb, atI_nat (j := 1) rfl, ra, _, rfl, .inr (same_tup s1 hra), ?_⟩
      refine ⟨v1, d1, _, _, rfl, dp_same s1 _ _ h1, f1, fun H2 s2 => ?_⟩
      have z3 := q H2 (s1.trans s2)
      have er : rowsIn ts (.int i) = (rs.length : Int) := by
        show (match ts[i.toNat]? with
          | some t => (t.2.length : Int)
          | none => 0) = _
        rw [List.getElem?_eq_getElem hi, dpAll_len hrl, List.length_map]
      rw [er] at z3
      exact z3
/-- a point of the texts, told apart -/
theorem point_parts {ts : List PA.Text} {d : PyData} (h : mPoint ts d = true) : ∃ (a b : Int) (t : PA.Text), d = .tuple [.int a, .int b] ∧ 0 ≤ a ∧ ts[a.toNat]? = some t ∧ 0 ≤ b ∧ b ≤ t.2.length := by
  unfold mPoint at h
  split at h
  · rename_i a b
    obtain ⟨h1, h2⟩ := Bool.and_eq_true_iff.mp h
    cases a with
    | int i =>
      obtain ⟨e1, e2⟩ := Bool.and_eq_true_iff.mp (show (decide (0 ≤ i) && decide (i ≤ (ts.length : Int) - 1)) = true from h1)
      have b0 := of_decide_eq_true e1
      have b1 := of_decide_eq_true e2
      have hi : i.toNat < ts.length := by omega
      cases b with
      | int j =>
        have er : rowsIn ts (.int i) = (ts[i.toNat].2.length : Int) := by
          show (match ts[i.toNat]? with
            | some t => (t.2.length : Int)
            | none => 0) = _
          rw [List.getElem?_eq_getElem hi]
        rw [er] at h2
        obtain ⟨e3, e4⟩ := Bool.and_eq_true_iff.mp (show (decide (0 ≤ j) && decide (j ≤ (ts[i.toNat].2.length : Int))) = true from h2)
        exact ⟨i, j, _, rfl, b0, List.getElem?_eq_getElem hi, of_decide_eq_true e3, of_decide_eq_true e4⟩
      | _ => exact Bool.noConfusion (show false = true from h2)
    | _ => exact Bool.noConfusion (show false = true from h1)
  · exact Bool.noConfusion h
/-- the row behind all, where it stands -/
def Behind (K : PySem.W.Frag) (rb : Addr) : Prop := ∀ H : Hp, Dp K H (.ref rb) PA.Row.back.data
def spRowOf (K : PySem.W.Frag) : Sp := fun vs H Q _ => ∃ (v u : V) (ts : List PA.Text) (t : PA.Text) (a b : Int), vs = [v, u] ∧ Dp K H v (.tuple (ts.map textD)) ∧ Dp K H u (.tuple [.int a, .int b]) ∧ 0 ≤ a ∧ ts[a.toNat]? = some t ∧ 0 ≤ b ∧
  ∀ H' u', Same H H' → Dp K H' u' ((t.2[b.toNat]?).getD .back).data → Q u' H'
theorem ok_rowof {f rb : Addr} {fd : FuncData} {k : Nat} (F : Fun K "row_of" "row_of" s_row_of f fd) (mb : mg "ROW_BEHIND_ALL" = some (.ref rb)) (bh : Behind K rb) (ml : mg "len" = none) : FnOk P w K mg base CX0 (k + 1) f fd ["texts", "point"] (spRowOf K) := by
  refine F.ok scRowOf (fun vs H Q E h => ?_) (fun cdv A outer s H vs Q E hr h => ?_)
  · obtain ⟨v, u, ts, t, a, b, rfl, _⟩ := h
    rfl
  obtain ⟨v, u, ts, t, a, b, rfl, hv, hu, ha, ht, hb, q⟩ := h
  have nd := scRowOf.nd
  refine ⟨_, pss_cons (ps_asg (pv 1) (pg_tup rfl (pgs_cons (pg_name (i := 2) nd rfl (.inl rfl)) (pgs_cons (pg_name (i := 3) nd rfl (.inl rfl)) pgs_nil))))
    (pss_cons (ps_set (i := 4) nd rfl (.inl rfl) (pe_ix ix_tup (pe_ix ix_tup (pv 0) (pv 2) (fun _ _ => rfl)) pe_int (fun _ _ => rfl)))
    (pss_one (ps_ret (pe_ifExp (pt_cmpR op_lt (pv 3) (pe_callB call_len_seq (by rfl) ml PySem.boot_len (pa_cons (pv 4) pa_nil)) (nomark _)) (pe_ix ix_tup (pv 4) (pv 3) (fun _ _ => rfl)) (pe_glob (v := .ref rb) (by rfl) mb rfl))))), ?_⟩
  obtain ⟨ua, u0, u1, rfl, hua, e0, e1⟩ := dp2 hu
  cases dp_int e0
  cases dp_int e1
  obtain ⟨ta, xs, rfl, hta, htl⟩ := dp_tup hv
  obtain ⟨y, hy, hyd⟩ := dpAll_getD htl (i := a.toNat) (d := textD t) (by rw [List.getElem?_map, ht]; rfl)
  obtain ⟨tb, t0, t1, rfl, htb, _, hrs⟩ := dp2 hyd
  obtain ⟨ra, rs, rfl, hra, hrl⟩ := dp_tup hrs
  have hat : atI xs a = some (.ref tb) := by
    have z := atI_nat (xs := xs) hy
    rwa [Int.toNat_of_nonneg ha] at z
  have hrlen : rs.length = t.2.length := by rw [dpAll_len hrl, List.length_map]
  refine ⟨_, rfl, ua, _, rfl, hua, rfl, _, _, rfl, _, _, rfl, rfl, ?_⟩
  refine ⟨_, rfl, _, rfl, ta, _, a, _, rfl, rfl, hta, hat, tb, _, 1, _, rfl, rfl, htb, atI_nat (j := 1) rfl, ?_⟩
  refine ⟨_, rfl, _, rfl, ra, _, rfl, .inr hra, _, _, rfl, rfl, _, rfl, ite2 (fun e => ?_) (fun e => ?_)⟩
  · have hlt : b.toNat < t.2.length := by
      have := of_decide_eq_true e
      omega
    obtain ⟨y2, hy2, hyd2⟩ := dpAll_getD hrl (i := b.toNat) (d := (t.2[b.toNat]).data) (by rw [List.getElem?_map, List.getElem?_eq_getElem hlt]; rfl)
    have hat2 : atI rs b = some y2 := by
      have z := atI_nat (xs := rs) hy2
      rwa [Int.toNat_of_nonneg hb] at z
    refine ⟨_, rfl, _, rfl, ra, _, b, _, rfl, rfl, hra, hat2, q H y2 (Same.refl H) ?_⟩
    rw [List.getElem?_eq_getElem hlt]
    exact hyd2
  · have hge : t.2.length ≤ b.toNat := by
      have : ¬ b < (rs.length : Int) := fun z => e (decide_eq_true z)
      omega
    refine q H _ (Same.refl H) ?_
    rw [List.getElem?_eq_none hge]
    exact bh H
def spRowAt (K : PySem.W.Frag) (CH CP : Addr) : Sp := fun vs H Q E => ∃ (v x y : V) (p : Prog) (d e : PyData), vs = [v, x, y] ∧ Dp K H v (progD p) ∧ ProgOk p ∧ Dp K H x d ∧ Dp K H y e ∧ Fit e ∧
  (mHand p.2.length d = false → ∀ dd H', H dd = none → Same H H' → H' dd = some (.xd [("hand", x)]) → E (.ref CH) (some dd) H') ∧
  ∀ (i : Int) (h : Hand), d = .int i → 0 ≤ i → p.2[i.toNat]? = some h →
    (mPoint h.2.2 e = false → ∀ dd H', H dd = none → Same H H' → H' dd = some (.xd [("point", y)]) → E (.ref CP) (some dd) H') ∧
    ∀ (a b : Int) (t : PA.Text), e = .tuple [.int a, .int b] → 0 ≤ a → h.2.2[a.toNat]? = some t → 0 ≤ b → b ≤ t.2.length → ∀ H' u', Same H H' → Dp K H' u' ((t.2[b.toNat]?).getD .back).data → Q u' H'
set_option maxHeartbeats 8000000 in
theorem ok_rowat {f : Addr} {fd : FuncData} {k : Nat} (F : Fun K "row_at" "row_at" s_row_at f fd) (SH : Err P w K mg base "NoHand" ["hand"]) (SP : Err P w K mg base "NoPoint" ["point"]) (L : Def P w K mg base CX0 (k + 2 + 1) "look_at_program" ["thing"] (spLook K)) (N : Def P w K mg base (L2.CX P w) (k + 2 + 1) "look_at_hand" ["program", "thing"] (spLookHand K SH.C))
    (I : Def P w K mg base CX0 (k + 2 + 1) "is_point" ["texts", "thing"] (spPoint K)) (R : Def P w K mg base CX0 (k + 2 + 1) "row_of" ["texts", "point"] (spRowOf K)) : FnOk P w K mg base (L2.CX P w) (k + 2 + 1 + 1) f fd ["program", "hand", "point"] (spRowAt K SH.C SP.C) := by
  refine F.okX scRowAt (fun vs H Q E h => ?_) (fun cdv A outer s H vs Q E hr h => ?_)
  · obtain ⟨v, x, y, p, d, e, rfl, _⟩ := h
    rfl
  obtain ⟨v, x, y, p, d, e, rfl, hv, ok, hd, he, ft, noH, rest⟩ := h
  have nd := scRowAt.nd
  refine ⟨_, pss_cons (ps_expr (pe_call L.ok hr (by rfl) L.g L.kp L.b .nil pass0 (pa_cons (pv 0) pa_nil)))
    (pss_cons (ps_expr (pe_callS N.ok hr (by rfl) N.g N.kp N.b (fun σ => passAt (takes_of rfl rfl rfl rfl) σ) (pa_cons (pv 0) (pa_cons (pv 1) pa_nil))))
    (pss_cons (ps_set (i := 3) nd rfl (.inl rfl) (pe_ix ix_tup (pe_ix ix_tup (pe_ix ix_tup (pv 0) pe_int (fun _ _ => rfl)) (pv 1) (fun _ _ => rfl)) pe_int (fun _ _ => rfl)))
    (pss_cons (ps_if (pt_not (pt_val (pe_call I.ok hr (by rfl) I.g I.kp I.b .nil pass0 (pa_cons (pv 3) (pa_cons (pv 2) pa_nil)))))
      (pss_one (ps_raiseN rfl (takes_of rfl rfl rfl rfl) SP (hr.mono (by omega)) (by rfl) (pa_cons (pv 2) pa_nil))) pss_nil)
    (pss_one (ps_ret (pe_call R.ok hr (by rfl) R.g R.kp R.b .nil pass0 (pa_cons (pv 3) (pa_cons (pv 2) pa_nil)))))))), ?_⟩
  have l4 := ok.few
  refine ⟨_, rfl, v, p, rfl, hv, ok, fun H1 s1 => ?_⟩
  refine ⟨_, rfl, _, rfl, v, x, p, d, rfl, dp_same s1 _ _ hv, by omega, dp_same s1 _ _ hd, fun yes H2 s2 => ?_, fun no dd H' n1 s' h1 => noH no dd H' (same_none s1 n1) (s1.trans s') h1⟩
  obtain ⟨i, rfl⟩ : ∃ i, d = .int i := by
    cases d with
    | int i => exact ⟨i, rfl⟩
    | _ => exact Bool.noConfusion (show false = true from yes)
  cases dp_int hd
  obtain ⟨e1, e2⟩ := Bool.and_eq_true_iff.mp (show (decide (0 ≤ i) && decide (i < (p.2.length : Int))) = true from yes)
  have b0 := of_decide_eq_true e1
  have b1 := of_decide_eq_true e2
  have hi : i.toNat < p.2.length := by omega
  obtain ⟨bad, good⟩ := rest i _ rfl b0 (List.getElem?_eq_getElem hi)
  obtain ⟨va, x1, x2, rfl, hva, _, d2⟩ := dp2 hv
  obtain ⟨xa, xs, rfl, hxa, hxs⟩ := dp_tup d2
  obtain ⟨z, hz, hzd⟩ := dpAll_getD hxs (i := i.toNat) (d := handD (p.2[i.toNat])) (by rw [List.getElem?_map, List.getElem?_eq_getElem hi]; rfl)
  obtain ⟨ha, h0, h1, h2, rfl, hha, _, _, hts⟩ := dp3 hzd
  have s12 := s1.trans s2
  have hat : atI xs i = some (.ref ha) := by
    have z2 := atI_nat (xs := xs) hz
    rwa [Int.toNat_of_nonneg b0] at z2
  refine ⟨_, rfl, va, _, 1, _, rfl, rfl, same_tup s12 hva, atI_nat (j := 1) rfl, _, rfl, xa, _, i, _, rfl, rfl, same_tup s12 hxa, hat, ha, _, 2, _, rfl, rfl, same_tup s12 hha, atI_nat (j := 2) rfl, ?_⟩
  refine ⟨_, rfl, _, rfl, h2, y, (p.2[i.toNat]).2.2, e, rfl, dp_same s12 _ _ hts, dp_same s12 _ _ he, ft, fun H3 s3 => ⟨_, rfl, ?_⟩⟩
  have s13 := s12.trans s3
  cases em : mPoint (p.2[i.toNat]).2.2 e with
  | false =>
    refine iteT ⟨_, rfl, by show 1 ≤ 1000; decide, rfl, by simp [E9.names], fun dd H' n1 s' h1 => ?_⟩
    exact bad em dd H' (same_none s13 n1) (s13.trans s') h1
  | true =>
    obtain ⟨a, b, t, rfl, ha0, ht, hb0, hb1⟩ := point_parts em
    refine iteF ⟨_, rfl, _, rfl, h2, y, (p.2[i.toNat]).2.2, t, a, b, rfl, dp_same s13 _ _ hts, dp_same s13 _ _ he, ha0, ht, hb0, fun H4 u' s4 hu' => ?_⟩
    exact good a b t rfl ha0 ht hb0 hb1 H4 u' (s13.trans s4) hu'
end
end PP

set_option maxHeartbeats 4000000
namespace PP
open PySem PySem.Spec PyProof.Rows L2 G3 G4 M0 PA EE QA HX
/-! data without truths is alike just where it is the same -/
mutual
def noB : PyData → Bool
  | .none => true
  | .bool _ => false
  | .int _ => true
  | .str _ => true
  | .list ds => noBs ds
  | .tuple ds => noBs ds
  | .dict _ => false
def noBs : List PyData → Bool
  | [] => true
  | d :: ds => noB d && noBs ds
end
mutual
theorem eqv_iff : ∀ d e : PyData, noB d = true → noB e = true → (PyData.eqv d e = true ↔ d = e)
  | .none, e, _, he => by cases e <;> simp [PyData.eqv, noB] at he ⊢
  | .int i, e, _, he => by cases e <;> simp [PyData.eqv, noB] at he ⊢
  | .str z, e, _, he => by cases e <;> simp [PyData.eqv, noB] at he ⊢
  | .list ds, e, hd, he => by
    cases e with
    | list es =>
      have := eqvs_iff ds es (by simpa only [noB] using hd) (by simpa only [noB] using he)
      simpa [PyData.eqv] using this
    | _ => simp [PyData.eqv, noB] at he ⊢
  | .tuple ds, e, hd, he => by
    cases e with
    | tuple es =>
      have := eqvs_iff ds es (by simpa only [noB] using hd) (by simpa only [noB] using he)
      simpa [PyData.eqv] using this
    | _ => simp [PyData.eqv, noB] at he ⊢
  | .bool _, _, hd, _ => by simp [noB] at hd
  | .dict _, _, hd, _ => by simp [noB] at hd
theorem eqvs_iff : ∀ ds es : List PyData, noBs ds = true → noBs es = true → (PyData.eqvAll ds es = true ↔ ds = es)
  | [], [], _, _ => by simp [PyData.eqvAll]
  | [], _ :: _, _, _ => by simp [PyData.eqvAll]
  | _ :: _, [], _, _ => by simp [PyData.eqvAll]
  | d :: ds, e :: es, hd, he => by
    simp only [noBs, Bool.and_eq_true] at hd he
    have h1 := eqv_iff d e hd.1 he.1
    have h2 := eqvs_iff ds es hd.2 he.2
    simp only [PyData.eqvAll, Bool.and_eq_true, h1, h2, List.cons.injEq]
end
theorem noBs_of : ∀ {ds : List PyData}, (∀ d ∈ ds, noB d = true) → noBs ds = true
  | [], _ => by simp only [noBs]
  | d :: ds, h => by simp only [noBs, h d List.mem_cons_self, noBs_of fun x hx => h x (List.mem_cons_of_mem _ hx), Bool.and_self]
theorem noB_map {α : Type} {f : α → PyData} {l : List α} (h : ∀ x ∈ l, noB (f x) = true) : noBs (l.map f) = true := noBs_of fun d hd => by
  obtain ⟨x, hx, rfl⟩ := List.mem_map.mp hd
  exact h x hx
theorem noB_box (b : Box) : noB (boxD b) = true := by simp [boxD, noB, noBs]
theorem noB_row (r : PA.Row) : noB r.data = true := by
  cases r with
  | set b s => cases s <;> simp [PA.Row.data, Src.data, noB, noBs]
  | go rs =>
    simp only [PA.Row.data, noB, noBs, Bool.true_and, Bool.and_true]
    exact noB_map fun _ _ => by simp only [noB]
  | _ => simp [PA.Row.data, noB, noBs]
theorem noB_text (t : PA.Text) : noB (textD t) = true := by
  simp only [textD, rowsD, noB, noBs, Bool.true_and, Bool.and_true]
  exact noB_map fun r _ => noB_row r
/-- what stands behind a hand's name -/
def tailD (h : Hand) : PyData := .tuple [boxesD h.2.1, .tuple (h.2.2.map textD)]
theorem noB_tail (h : Hand) : noB (tailD h) = true := by
  simp only [tailD, boxesD, noB, noBs, Bool.and_true, Bool.and_eq_true]
  exact ⟨noB_map fun b _ => noB_box b, noB_map fun t _ => noB_text t⟩
/-! what may be compared -/
theorem name_ok {z : Str} (h : nameB z = true) : PyData.strOk z = true := by
  have q := (name_parts h).2.1
  unfold Txt.isascii at q
  unfold PyData.strOk
  rw [Array.all_eq_true_iff_forall_mem] at q ⊢
  intro c hc
  have z2 := q c hc
  simp only [decide_eq_true_eq] at z2 ⊢
  omega
theorem size_in {bs : List Box} {b : Str} {n : Int} (h : size? bs b = some n) : ∃ x ∈ bs, x.1 = b := by
  unfold size? at h
  obtain ⟨x, hx, _⟩ := Option.map_eq_some_iff.mp h
  have e := List.find?_some hx
  exact ⟨x, List.mem_of_find?_eq_some hx, of_decide_eq_true e⟩
theorem row_lay {bs : List Box} {ts os : List Str} {n : Int} {r : PA.Row} (ok : RowOk bs ts os n r) (hb : ∀ x ∈ bs, PyData.strOk x.1 = true) (ht : ∀ x ∈ ts, PyData.strOk x = true) (ho : ∀ x ∈ os, PyData.strOk x = true) : r.data.canLay0 = true ∧ r.data.depth ≤ 2 := by
  have nm : ∀ {b : Str} {n : Int}, size? bs b = some n → PyData.strOk b = true := fun h => by
    obtain ⟨x, hx, rfl⟩ := size_in h
    exact hb x hx
  cases r with
  | set b s =>
    obtain ⟨n, hn, hs⟩ := ok
    have h1 := nm hn
    have t1 : PyData.strOk "set" = true := by decide +kernel
    cases s with
    | to k =>
      have t2 : PyData.strOk "to" = true := by decide +kernel
      simp [PA.Row.data, Src.data, PyData.canLay0, PyData.canLayAll0, PyData.depth, PyData.depthAll, h1, t1, t2]
    | of o =>
      obtain ⟨_, m, hm, _⟩ := hs
      have h2 := nm hm
      have t2 : PyData.strOk "of" = true := by decide +kernel
      simp [PA.Row.data, Src.data, PyData.canLay0, PyData.canLayAll0, PyData.depth, PyData.depthAll, h1, h2, t1, t2]
    | on k =>
      have t2 : PyData.strOk "on" = true := by decide +kernel
      simp [PA.Row.data, Src.data, PyData.canLay0, PyData.canLayAll0, PyData.depth, PyData.depthAll, h1, t1, t2]
    | any =>
      have t2 : PyData.strOk "any" = true := by decide +kernel
      simp [PA.Row.data, Src.data, PyData.canLay0, PyData.canLayAll0, PyData.depth, PyData.depthAll, h1, t1, t2]
  | ift b v r =>
    obtain ⟨n, hn, _⟩ := ok
    have h1 := nm hn
    have t1 : PyData.strOk "if" = true := by decide +kernel
    simp [PA.Row.data, PyData.canLay0, PyData.canLayAll0, PyData.depth, PyData.depthAll, h1, t1]
  | go rs =>
    have t1 : PyData.strOk "go" = true := by decide +kernel
    have a1 : PyData.canLayAll0 (rs.map PyData.int) = true := lay_all fun x hx => by
      obtain ⟨i, _, rfl⟩ := List.mem_map.mp hx
      simp only [PyData.canLay0]
    have a2 : PyData.depthAll (rs.map PyData.int) ≤ 0 := depth_all _ fun x hx => by
      obtain ⟨i, _, rfl⟩ := List.mem_map.mp hx
      simp only [PyData.depth]
      exact Nat.le_refl _
    simp only [PA.Row.data, PyData.canLay0, PyData.canLayAll0, PyData.depth, PyData.depthAll, t1, a1]
    exact ⟨rfl, by omega⟩
  | call t =>
    have h1 := ht t ok
    have t1 : PyData.strOk "call" = true := by decide +kernel
    simp [PA.Row.data, PyData.canLay0, PyData.canLayAll0, PyData.depth, PyData.depthAll, h1, t1]
  | back =>
    have t1 : PyData.strOk "back" = true := by decide +kernel
    simp [PA.Row.data, PyData.canLay0, PyData.canLayAll0, PyData.depth, PyData.depthAll, t1]
  | wait b v =>
    obtain ⟨n, hn, _⟩ := ok
    have h1 := nm hn
    have t1 : PyData.strOk "wait" = true := by decide +kernel
    simp [PA.Row.data, PyData.canLay0, PyData.canLayAll0, PyData.depth, PyData.depthAll, h1, t1]
  | begin b =>
    have h1 := ho b ok
    have t1 : PyData.strOk "begin" = true := by decide +kernel
    simp [PA.Row.data, PyData.canLay0, PyData.canLayAll0, PyData.depth, PyData.depthAll, h1, t1]
  | fault =>
    have t1 : PyData.strOk "fault" = true := by decide +kernel
    simp [PA.Row.data, PyData.canLay0, PyData.canLayAll0, PyData.depth, PyData.depthAll, t1]
/-- what can be laid, and is not deep -/
def LayD (n : Nat) (d : PyData) : Prop := d.canLay0 = true ∧ d.depth ≤ n
theorem LayD.tup {n : Nat} {ds : List PyData} (h : ∀ d ∈ ds, LayD n d) : LayD (n + 1) (.tuple ds) :=
  ⟨by simp only [PyData.canLay0]; exact lay_all fun x hx => (h x hx).1, depth_tuple fun x hx => (h x hx).2⟩
theorem LayD.lst {n : Nat} {ds : List PyData} (h : ∀ d ∈ ds, LayD n d) : LayD (n + 1) (.list ds) :=
  ⟨by simp only [PyData.canLay0]; exact lay_all fun x hx => (h x hx).1, depth_list fun x hx => (h x hx).2⟩
theorem LayD.up {n m : Nat} {d : PyData} (h : LayD n d) (a : n ≤ m) : LayD m d := ⟨h.1, Nat.le_trans h.2 a⟩
theorem LayD.shaped {n : Nat} {d : PyData} (h : LayD n d) (a : n ≤ 64) : SeqAt.shaped d = true := by
  unfold SeqAt.shaped
  rw [h.1, decide_eq_true (Nat.le_trans h.2 a)]
  rfl
theorem lay_str {z : Str} (h : PyData.strOk z = true) : LayD 0 (.str z) := ⟨by simp only [PyData.canLay0]; exact h, by simp only [PyData.depth]; exact Nat.le_refl _⟩
theorem lay_int (i : Int) : LayD 0 (.int i) := ⟨by simp only [PyData.canLay0], by simp only [PyData.depth]; exact Nat.le_refl _⟩
theorem lay_box {b : Box} (h : PyData.strOk b.1 = true) : LayD 1 (boxD b) := LayD.tup fun d hd => by
  rcases List.mem_cons.mp hd with rfl | hd
  · exact lay_str h
  · rw [List.mem_singleton.mp hd]
    exact lay_int _
theorem lay_boxes {bs : List Box} (h : ∀ b ∈ bs, PyData.strOk b.1 = true) : LayD 2 (boxesD bs) := LayD.tup fun d hd => by
  obtain ⟨b, hb, rfl⟩ := List.mem_map.mp hd
  exact lay_box (h b hb)
theorem boxes_str {bs : List Box} {m : Nat} {g : Int} {ah : List Str} (ok : BoxesOk bs m g ah) : ∀ b ∈ bs, PyData.strOk b.1 = true := fun b hb => name_ok (ok.nm b hb).1
theorem texts_lay {bs : List Box} {os : List Str} {ts : List PA.Text} (ok : TextsOk bs os ts) (hb : ∀ x ∈ bs, PyData.strOk x.1 = true) (ho : ∀ x ∈ os, PyData.strOk x = true) : LayD 5 (.tuple (ts.map textD)) := LayD.tup fun d hd => by
  obtain ⟨t, ht, rfl⟩ := List.mem_map.mp hd
  refine LayD.tup fun d hd => ?_
  rcases List.mem_cons.mp hd with rfl | hd
  · exact (lay_str (name_ok (ok.nm t ht).1)).up (by decide)
  · rw [List.mem_singleton.mp hd]
    refine LayD.tup fun d hd => ?_
    obtain ⟨r, hr, rfl⟩ := List.mem_map.mp hd
    exact row_lay (ok.row t ht r hr) hb (fun x hx => by
      obtain ⟨t2, ht2, rfl⟩ := List.mem_map.mp hx
      exact name_ok (ok.nm t2 ht2).1) ho
theorem hand_lay {p : Prog} (ok : ProgOk p) {h : Hand} (hh : h ∈ p.2) : LayD 2 (boxesD h.2.1) ∧ LayD 5 (.tuple (h.2.2.map textD)) := by
  have ob := boxes_str (ok.own h hh)
  refine ⟨lay_boxes ob, texts_lay (ok.txt h hh) (fun x hx => ?_) fun x hx => ?_⟩
  · rcases List.mem_append.mp hx with z | z
    · exact boxes_str ok.box x z
    · exact ob x z
  · obtain ⟨g, hg, rfl⟩ := List.mem_map.mp (List.mem_filter.mp hx).1
    exact name_ok (ok.nm g hg)
theorem tail_lay {p : Prog} (ok : ProgOk p) {h : Hand} (hh : h ∈ p.2) : LayD 6 (tailD h) := LayD.tup fun d hd => by
  obtain ⟨h1, h2⟩ := hand_lay ok hh
  rcases List.mem_cons.mp hd with rfl | hd
  · exact h1.up (by decide)
  · rw [List.mem_singleton.mp hd]
    exact h2
theorem hand_whole {p : Prog} (ok : ProgOk p) {h : Hand} (hh : h ∈ p.2) : LayD 6 (handD h) := LayD.tup fun d hd => by
  obtain ⟨h1, h2⟩ := hand_lay ok hh
  rcases List.mem_cons.mp hd with rfl | hd
  · exact (lay_str (name_ok (ok.nm h hh))).up (by decide)
  rcases List.mem_cons.mp hd with rfl | hd
  · exact h1.up (by decide)
  · rw [List.mem_singleton.mp hd]
    exact h2
theorem prog_lay {p : Prog} (ok : ProgOk p) : LayD 8 (progD p) := LayD.tup fun d hd => by
  rcases List.mem_cons.mp hd with rfl | hd
  · exact (lay_boxes (boxes_str ok.box)).up (by decide)
  · rw [List.mem_singleton.mp hd]
    refine LayD.tup fun d hd => ?_
    obtain ⟨h, hh, rfl⟩ := List.mem_map.mp hd
    exact hand_whole ok hh
end PP

set_option maxHeartbeats 4000000
/-! slices of tuples, whatever they are (as in k27's PS) -/
namespace SA
open PySem PySem.Spec PyProof.Rows L2 G3
theorem cut_whole {xs : List V} {lo hi : Option Int} (h : HT.sIx xs.length 0 lo = 0 ∧ HT.sIx xs.length xs.length hi = xs.length) : cutV xs lo hi = xs := by
  unfold cutV
  rw [h.1, h.2, List.drop_zero, Nat.sub_zero, List.take_length]
theorem cut_take {xs : List V} (j : Nat) : cutV xs none (some (j : Int)) = xs.take j := by
  unfold cutV
  rw [HT.sIx_none, HT.sIx_nat, List.drop_zero, Nat.sub_zero, List.take_eq_take_iff]
  omega
theorem cut_drop {xs : List V} (j : Nat) : cutV xs (some (j : Int)) none = xs.drop j := by
  unfold cutV
  rw [HT.sIx_none, HT.sIx_nat]
  by_cases h : j ≤ xs.length
  · rw [Nat.min_eq_left h, List.take_of_length_le (by rw [List.length_drop]; omega)]
  · have e : min j xs.length = xs.length := by omega
    rw [e, List.drop_length, List.take_nil, List.drop_eq_nil_of_le (by omega)]
theorem sl_any {K : PySem.W.Frag} {G : Hp} {a : Addr} {xs : List V} {lo hi : Option Int} {T : VK} (h : SqT K G a xs) (go : ∀ c G', SqT K G' c (cutV xs lo hi) → Same G G' → T (.ref c) G') : rSlA K (.ref a) lo hi G T := by
  refine ⟨a, xs, rfl, h, fun z => go a G (by rw [cut_whole z]; exact h) (Same.refl G), fun _ q nq => go q _ (SqT.of upd_same) (same_new nq)⟩
end SA

set_option maxHeartbeats 4000000
namespace PP
open PySem PySem.Spec PyProof.Rows L2 G3 G4 M0 PA EE QA HX SA
/-! hands that are alike -/
/-- neither begun nor beginning -/
def isFree (hs : List Hand) (i : Nat) : Bool := isFirst hs i && (match hs[i]? with | some h => (begunHand h).isEmpty | none => false)
def freeOf (hs : List Hand) : List Nat := (List.range hs.length).filter (isFree hs)
def sameTail (hs : List Hand) (i j : Nat) : Bool := match hs[i]?, hs[j]? with
  | some a, some b => PyData.eqv (tailD a) (tailD b)
  | _, _ => false
def lotOf (hs : List Hand) (i : Nat) : List Nat := if isFree hs i then (freeOf hs).filter fun o => sameTail hs o i else [i]
def startsLot (hs : List Hand) (i : Nat) : Bool := decide ((lotOf hs i).head? = some i)
def lotsOf (hs : List Hand) : List (List Nat) := ((List.range hs.length).filter (startsLot hs)).map (lotOf hs)
theorem free_lt {hs : List Hand} {i : Nat} (h : isFree hs i = true) : i < hs.length := by
  unfold isFree at h
  by_cases e : i < hs.length
  · exact e
  · rw [List.getElem?_eq_none (by omega), Bool.and_false] at h
    cases h
theorem mem_free {hs : List Hand} {i : Nat} : i ∈ freeOf hs ↔ isFree hs i = true := by
  unfold freeOf
  rw [List.mem_filter, List.mem_range]
  exact ⟨fun h => h.2, fun h => ⟨free_lt h, h⟩⟩
theorem same_refl' {hs : List Hand} {i : Nat} (h : i < hs.length) : sameTail hs i i = true := by
  unfold sameTail
  rw [List.getElem?_eq_getElem h]
  exact (eqv_iff _ _ (noB_tail _) (noB_tail _)).mpr rfl
theorem lot_mem {hs : List Hand} {i : Nat} : i ∈ lotOf hs i := by
  unfold lotOf
  split
  · rename_i h
    exact List.mem_filter.mpr ⟨mem_free.mpr h, same_refl' (free_lt h)⟩
  · exact List.mem_singleton.mpr rfl
theorem lot_len {hs : List Hand} (i : Nat) : (lotOf hs i).length ≤ hs.length + 1 := by
  unfold lotOf
  split
  · refine Nat.le_trans (List.length_filter_le _ _) ?_
    unfold freeOf
    refine Nat.le_trans (List.length_filter_le _ _) ?_
    rw [List.length_range]
    omega
  · show 1 ≤ _
    omega
abbrev natV (l : List Nat) : List V := l.map fun i : Nat => V.int i
theorem natV_snoc (l : List Nat) (j : Nat) : natV (l ++ [j]) = natV l ++ [V.int j] := by
  show (l ++ [j]).map (fun i : Nat => V.int i) = _
  rw [List.map_append]
  rfl
theorem in_ints (i : Nat) (l : List Nat) : inV (.int i) (natV l) = decide (i ∈ l) := by
  unfold inV
  rw [List.any_map, Bool.eq_iff_iff, List.any_eq_true, decide_eq_true_eq]
  constructor
  · rintro ⟨x, hx, e⟩
    have e2 : x = i := by
      have z : ((x : Int) == (i : Int)) = true := e
      have := eq_of_beq z
      omega
    exact e2 ▸ hx
  · intro h
    exact ⟨i, h, by show ((i : Int) == (i : Int)) = true; exact beq_self_eq_true _⟩
theorem flat_ints (l : List Nat) : (natV l).all flatV = true := by
  rw [List.all_map, List.all_eq_true]
  intro _ _
  rfl
/-- lists of numbers, new -/
inductive LotsAt (H0 H : Hp) (L : Addr) : List Addr → List (List Nat) → Prop
  | nil : LotsAt H0 H L [] []
  | cons {a : Addr} {as : List Addr} {l : List Nat} {ls : List (List Nat)} : H0 a = none → a ≠ L → H a = some (.lst (natV l)) → LotsAt H0 H L as ls → LotsAt H0 H L (a :: as) (l :: ls)
theorem LotsAt.len {H0 H : Hp} {L : Addr} : ∀ {as : List Addr} {ls : List (List Nat)}, LotsAt H0 H L as ls → as.length = ls.length
  | _, _, .nil => rfl
  | _, _, .cons _ _ _ h => by rw [List.length_cons, List.length_cons, h.len]
theorem LotsAt.keep {H0 H H' : Hp} {L : Addr} : ∀ {as : List Addr} {ls : List (List Nat)}, LotsAt H0 H L as ls → (∀ a l, a ≠ L → H a = some (.lst (natV l)) → H' a = some (.lst (natV l))) → LotsAt H0 H' L as ls
  | _, _, .nil, _ => .nil
  | _, _, .cons h1 h2 h3 h, k => .cons h1 h2 (k _ _ h2 h3) (h.keep k)
theorem LotsAt.snoc {H0 H : Hp} {L a : Addr} {l : List Nat} (h1 : H0 a = none) (h2 : a ≠ L) (h3 : H a = some (.lst (natV l))) : ∀ {as : List Addr} {ls : List (List Nat)}, LotsAt H0 H L as ls → LotsAt H0 H L (as ++ [a]) (ls ++ [l])
  | _, _, .nil => .cons h1 h2 h3 .nil
  | _, _, .cons g1 g2 g3 g => .cons g1 g2 g3 (g.snoc h1 h2 h3)
theorem LotsAt.old {H0 H1 H : Hp} {L : Addr} (s : Same H1 H0) : ∀ {as : List Addr} {ls : List (List Nat)}, LotsAt H0 H L as ls → LotsAt H1 H L as ls
  | _, _, .nil => .nil
  | _, _, .cons h1 h2 h3 h => .cons (same_none s h1) h2 h3 (h.old s)
theorem bn_free (hs : List Hand) : freeOf hs = (firstsOf hs).filter fun i => match hs[i]? with | some h => (begunHand h).isEmpty | none => false := by
  unfold freeOf firstsOf
  rw [List.filter_filter]
  refine List.filter_congr fun i _ => ?_
  unfold isFree
  rw [Bool.and_comm]
theorem starts_succ (hs : List Hand) (i : Nat) : ((List.range (i + 1)).filter (startsLot hs)).map (lotOf hs) = ((List.range i).filter (startsLot hs)).map (lotOf hs) ++ (if startsLot hs i then [lotOf hs i] else []) := by
  rw [List.range_succ, List.filter_append, List.map_append]
  congr 1
  cases z : startsLot hs i <;> simp [z]
theorem filter_snoc {α : Type} (f : α → Bool) {l : List α} {i : Nat} {x : α} (h : l[i]? = some x) : (l.take (i + 1)).filter f = (l.take i).filter f ++ (if f x then [x] else []) := by
  rw [take_next h, List.filter_append]
  congr 1
  cases z : f x <;> simp [z]
abbrev nLike : List Str := ["program", "hands", "number", "free", "lots", "hand", "lot", "other"]
theorem scLike : FnScope nLike ["program"] (defScope s_like_hands) := ⟨rfl, rfl, rfl, by decide +kernel, rfl, by decide +kernel, by decide +kernel⟩
section
variable {P : Program} {w : World} {K : PySem.W.Frag} {mg : Str → Option Value} {base : Heap}
theorem lot_put {hs : List Hand} {i : Nat} {D : Ends} {x0 x1 x3 x5 x7 : Option V} {H G : Hp} {L c : Addr} {as : List Addr} (sG : Same H G) (nL : H L = none) (hL : G L = some (.lst (as.map V.ref))) (hA : LotsAt H G L as (((List.range i).filter (startsLot hs)).map (lotOf hs))) (few : as.length ≤ 1000)
    (nc : H c = none) (cL : c ≠ L) (hc : G c = some (.lst (natV (lotOf hs i))))
    (fin : ∀ (G' : Hp) (as' : List Addr), Same H G' → (∀ b o, b ≠ L → G b = some o → G' b = some o) → G' L = some (.lst (as'.map V.ref)) → LotsAt H G' L as' (((List.range (i + 1)).filter (startsLot hs)).map (lotOf hs)) → D.nx [x0, x1, some (.int i), x3, some (.ref L), x5, some (.ref c), x7] G') :
    tIfS (tTest (tOp rEq (tOp (rIxL K) (tVar 6) (tC (.int 0))) (tVar 2))) (tDrop (tBM K "list" rAppend (tVar 4) (tCons (tVar 6) tNil))) tNext D [x0, x1, some (.int i), x3, some (.ref L), x5, some (.ref c), x7] G := by
  obtain ⟨h0, rest, el⟩ : ∃ h0 rest, lotOf hs i = h0 :: rest := by
    cases e : lotOf hs i with
    | nil =>
      have z := lot_mem (hs := hs) (i := i)
      rw [e] at z
      cases z
    | cons a r => exact ⟨a, r, rfl⟩
  have es : startsLot hs i = decide (h0 = i) := by
    unfold startsLot
    rw [el]
    simp
  have sn := starts_succ hs i
  refine ⟨_, rfl, c, _, 0, .int h0, rfl, rfl, SqL.of hc, ?_, _, rfl, rfl, _, rfl, ?_⟩
  · rw [el]
    exact atI_nat (j := 0) rfl
  · have ed : decide (V.int (h0 : Int) = V.int (i : Int)) = decide (h0 = i) := by
      rw [decide_eq_decide]
      exact ⟨fun z => by have := V.int.inj z; omega, fun z => by rw [z]⟩
    rw [ed, ← es]
    cases z : startsLot hs i with
    | true =>
      rw [z, if_pos rfl] at sn
      refine iteT ⟨_, rfl, .inl ⟨rfl, _, SqL.of hL⟩, _, rfl, L, _, _, rfl, rfl, hL, by rw [List.length_map]; exact LC.small_line (by omega), ?_⟩
      refine fin _ (as ++ [c]) (same_put sG nL) (fun b o hb e => by rw [upd_ne hb]; exact e) (by rw [upd_same, List.map_append]; rfl) ?_
      rw [sn]
      exact (hA.keep fun a l ha e => by rw [upd_ne ha]; exact e).snoc nc cL (by rw [upd_ne cL]; exact hc)
    | false =>
      rw [z, if_neg Bool.false_ne_true, List.append_nil] at sn
      refine iteF (fin G as sG (fun _ _ _ e => e) hL ?_)
      rw [sn]
      exact hA
def spLike (K : PySem.W.Frag) : Sp := fun vs H Q _ => ∃ (v : V) (p : Prog), vs = [v] ∧ Dp K H v (progD p) ∧ ProgOk p ∧
  ∀ (H' : Hp) (L : Addr) (as : List Addr), Same H H' → H L = none → H' L = some (.lst (as.map V.ref)) → LotsAt H H' L as (lotsOf p.2) → Q (.ref L) H'
set_option maxHeartbeats 8000000 in
theorem ok_like {f : Addr} {fd : FuncData} {k : Nat} (F : Fun K "like_hands" "like_hands" s_like_hands f fd) (Lk : Def P w K mg base CX0 (k + 1) "look_at_program" ["thing"] (spLook K)) (N : Def P w K mg base CX0 (k + 1) "numbers_from_first" ["hands"] (spFirsts K)) (B : Def P w K mg base CX0 (k + 1) "all_begun" ["hands"] (spBegun K)) (me : mg "enumerate" = none) :
    FnOk P w K mg base CX0 (k + 1 + 1) f fd ["program"] (spLike K) := by
  refine F.ok scLike (fun vs H Q E h => ?_) (fun cdv A outer s H vs Q E hr h => ?_)
  · obtain ⟨v, p, rfl, _⟩ := h
    rfl
  obtain ⟨v, p, rfl, hv, ok, q⟩ := h
  have nd := scLike.nd
  refine ⟨_, pss_cons (ps_expr (pe_call Lk.ok hr (by rfl) Lk.g Lk.kp Lk.b .nil pass0 (pa_cons (pv 0) pa_nil)))
    (pss_cons (ps_set (i := 1) nd rfl (.inr rfl) (pe_ix ix_tup (pv 0) pe_int (fun _ _ => rfl)))
    (pss_cons (ps_setLc (i := 3) (own := [("number", 2)]) (g := gName 2) (by rfl) nd rfl rfl (sw_true rfl rfl rfl (by decide +kernel)) (pi_list (pe_call N.ok hr (by rfl) N.g N.kp N.b .nil pass0 (pa_cons (pv 1) pa_nil)))
        (blkOk_by (N := nLike) (sc := defScope s_like_hands) (by decide +kernel)) (fun _ _ _ _ _ => pg_name (i := 2) nd rfl (.inl rfl))
        (fun _ _ _ _ _ => pts_one (t := tNot fun σ H Q => tCall (spBegun K) [] E0 (tCons (tTup (tCons (tOp (rIxT K) (tVar 1) (tVar 2)) tNil)) tNil) σ H fun x H' => ∃ k, TruV K x H' k ∧ Q k H') (pt_not (pt_truth (pe_call B.ok hr (by rfl) B.g B.kp B.b .nil pass0 (pa_cons (pe_tup (pa_cons (pe_ix (r := rIxT K) ix_tup (pv 1) (pv 2) (fun _ _ => rfl)) pa_nil)) pa_nil)) (fun _ => rfl)))) (fun _ _ _ _ _ => pv 2))
    (pss_cons (ps_set (i := 4) nd rfl (.inl rfl) (pe_lst pa_nil))
    (pss_cons (ps_for PassesOwn.never rfl (EN.pi_enumT (by rfl) me (pa_cons (pv 1) pa_nil)) (pg_tup rfl (pgs_cons (pg_name (i := 2) nd rfl (.inl rfl)) (pgs_cons (pg_name (i := 5) nd rfl (.inr rfl)) pgs_nil)))
      (pss_cons (ps_set (i := 6) nd rfl (.inl rfl) (pe_lst (pa_cons (pv 2) pa_nil)))
      (pss_cons (ps_if (pt_cmpR op_in_seq (pv 2) (pv 3) (by rfl))
        (pss_one (ps_setLc (i := 6) (own := [("other", 7)]) (g := gName 7) (by rfl) nd rfl rfl (sw_true rfl rfl rfl (by decide +kernel)) (pi_list (pv 3))
          (blkOk_by (N := nLike) (sc := defScope s_like_hands) (by decide +kernel)) (fun _ _ _ _ _ => pg_name (i := 7) nd rfl (.inl rfl))
          (fun _ _ _ _ _ => pts_one (t := tTest (tOp (rEqD K) (tSl (rSlA K) (tOp (rIxT K) (tVar 1) (tVar 7)) (tPart (tC (.int 1))) tNoPart) (tSl (rSlA K) (tVar 5) (tPart (tC (.int 1))) tNoPart))) (pt_cmpR (r := rEqD K) (op_eqD hr.units) (pe_slice (r := rSlA K) sl_tupA (pe_ix (r := rIxT K) ix_tup (pv 1) (pv 7) (fun _ _ => rfl)) (po_some pe_int) po_none) (pe_slice (r := rSlA K) sl_tupA (pv 5) (po_some pe_int) po_none) (nomark _))) (fun _ _ _ _ _ => pv 7))) pss_nil)
      (pss_one (ps_if (pt_cmpR op_eq (pe_ix ix_list (pv 6) pe_int (fun _ _ => rfl)) (pv 2) (nomark _))
        (pss_one (ps_expr (pe_bm PySem.F.plainAttrs_list PySem.F.slot_list_append PySem.F.type_list_append mt_append (pv 4) (pa_cons (pv 6) pa_nil)))) pss_nil)))))
    (pss_one (ps_ret (pv 4))))))), ?_⟩
  obtain ⟨va, x1, x2, rfl, hva, _, d2⟩ := dp2 hv
  obtain ⟨xa, xs, rfl, hxs, hall⟩ := dp_tup d2
  have hxl : xs.length = p.2.length := by rw [dpAll_len hall, List.length_map]
  have l4 := ok.few
  refine ⟨_, rfl, .ref va, p, rfl, hv, ok, fun H1 s1 => ?_⟩
  refine ⟨_, rfl, va, _, 1, _, rfl, rfl, same_tup s1 hva, atI_nat (j := 1) rfl, ?_⟩
  refine ⟨_, rfl, .ref xa, p.2, rfl, dp_same s1 _ _ d2, begun_le ok _ (fun _ h => h) l4, by omega, fun H2 o s2 no ho => ⟨o, rfl, ⟨_, SqL.of ho⟩, fun D nD => ?_⟩⟩
  have s12 := s1.trans s2
  -- a hand of that number
  have at_hand : ∀ (j : Nat), j < p.2.length → ∃ (ha : Addr) (h0 h1 h2 : V), atI xs (j : Int) = some (.ref ha) ∧ SqT K H ha [h0, h1, h2] ∧ Dp K H (.ref ha) (handD p.2[j]!) ∧ Dp K H h1 (boxesD (p.2[j]!).2.1) ∧ Dp K H h2 (.tuple ((p.2[j]!).2.2.map textD)) := fun j hj => by
    have e : p.2[j]! = p.2[j] := getElem!_pos p.2 j hj
    rw [e]
    obtain ⟨z, hz, hzd⟩ := dpAll_getD hall (i := j) (d := handD p.2[j]) (by rw [List.getElem?_map, List.getElem?_eq_getElem hj]; rfl)
    obtain ⟨ha, h0, h1, h2, rfl, hha, _, g1, g2⟩ := dp3 hzd
    exact ⟨ha, h0, h1, h2, atI_nat hz, hha, hzd, g1, g2⟩
  have bn : ∀ j, j < p.2.length → (match p.2[j]? with | some h => (begunHand h).isEmpty | none => false) = (begunHand p.2[j]!).isEmpty := fun j hj => by
    rw [List.getElem?_eq_getElem hj, getElem!_pos p.2 j hj]
  have fl : ∀ j ∈ firstsOf p.2, j < p.2.length := fun j hj => List.mem_range.mp (List.mem_filter.mp hj).1
  refine lc_it (walk_list (a := o) (xs := natV (firstsOf p.2)) (K := K)) (fun i G => Same H2 G ∧ G D = some (.lst (natV (((firstsOf p.2).take i).filter fun i => match p.2[i]? with | some h => (begunHand h).isEmpty | none => false)))) ⟨same_new nD, upd_same⟩ (fun i G _ h => SqL.of (h.1 _ _ ho)) (fun i x G G' hi h y => ?_) (fun G h => ?_)
  · obtain ⟨sG, hD⟩ := h
    obtain ⟨rfl, ex⟩ := y
    rw [List.getElem?_map] at ex
    obtain ⟨j, hj, rfl⟩ := Option.map_eq_some_iff.mp ex
    have jl := fl j (List.mem_of_getElem? hj)
    obtain ⟨ha, h0, h1, h2, hat, hha, hhd, _, _⟩ := at_hand j jl
    have sn := filter_snoc (fun i => match p.2[i]? with | some h => (begunHand h).isEmpty | none => false) hj
    rw [bn j jl] at sn
    refine ⟨rfl, ?_⟩
    refine ⟨_, rfl, _, rfl, xa, _, j, _, rfl, rfl, same_tup (s12.trans sG) hxs, hat, lz1, fun t nt => ?_⟩
    have sT := same_new (o := .tup [.ref ha]) nt
    have hm : p.2[j]! ∈ p.2 := by
      rw [getElem!_pos p.2 j jl]
      exact List.getElem_mem jl
    refine ⟨.ref t, [p.2[j]!], rfl, .tup (SqT.of upd_same) (.cons (dp_same ((s12.trans sG).trans sT) _ _ hhd) .nil), begun_le ok _ (fun z hz => by rw [List.mem_singleton.mp hz]; exact hm) (by show 1 ≤ 4; decide), fun G2 o2 s3 no2 ho2 => ?_⟩
    have eb : begunOf [p.2[j]!] = begunHand p.2[j]! := by
      unfold begunOf
      simp
    rw [eb] at ho2
    have hD2 := s3 _ _ (sT _ _ hD)
    have sG2 := sG.trans (sT.trans s3)
    refine ⟨_, .inl ⟨_, SqL.of ho2, rfl⟩, ?_⟩
    have ee : (!(!((begunHand p.2[j]!).map V.str).isEmpty)) = (begunHand p.2[j]!).isEmpty := by
      rw [Bool.not_not, List.isEmpty_map]
    dsimp only
    rw [ee]
    cases z : (begunHand p.2[j]!).isEmpty with
    | true =>
      rw [z, if_pos rfl] at sn
      refine iteT ⟨_, rfl, _, hD2, ?_, same_put sG2 nD, ?_⟩
      · rw [List.length_map]
        have a1 := List.length_filter_le (fun i => match p.2[i]? with | some h => (begunHand h).isEmpty | none => false) ((firstsOf p.2).take i)
        have a2 := List.length_filter_le (isFirst p.2) (List.range p.2.length)
        rw [List.length_take] at a1
        rw [List.length_range] at a2
        have a3 : (firstsOf p.2).length ≤ p.2.length := a2
        exact LC.small_line (by omega)
      · rw [upd_same, sn, natV_snoc]
    | false =>
      rw [z, if_neg Bool.false_ne_true, List.append_nil] at sn
      refine iteF ⟨sG2, ?_⟩
      rw [sn]
      exact hD2
  obtain ⟨sG, hD⟩ := h
  rw [List.take_of_length_le (by rw [List.length_map]; exact Nat.le_refl _), ← bn_free] at hD
  have s13 := s12.trans sG
  have nDH : H D = none := same_none s12 nD
  clear ho no nD s1 s2 s12 sG
  refine ⟨Nat.zero_le _, fun L nL => ?_⟩
  have nLH : H L = none := same_none s13 nL
  have sL := same_new (o := .lst []) nL
  have eDL : D ≠ L := ne_of_none hD nL
  refine ⟨_, rfl, xa, xs, rfl, same_tup (s13.trans sL) hxs, EN.for_enumT (xs := xs) (fun i σ G => ∃ y2 y5 y6 y7, σ = [some (.ref va), some (.ref xa), y2, some (.ref D), some (.ref L), y5, y6, y7] ∧ Same H G ∧ G D = some (.lst (natV (freeOf p.2))) ∧ ∃ as : List Addr, G L = some (.lst (as.map V.ref)) ∧ LotsAt H G L as (((List.range i).filter (startsLot p.2)).map (lotOf p.2)))
    ⟨_, _, _, _, rfl, s13.trans sL, sL _ _ hD, [], upd_same, .nil⟩ (fun i σ G hP => ?_) (fun i x T σ G hx hP nT => ?_) (fun σ G hP => ?_)⟩
  · obtain ⟨_, _, _, _, _, sg, _⟩ := hP
    exact same_tup sg hxs
  · obtain ⟨y2, y5, y6, y7, rfl, sg, hD2, as, hL, hA⟩ := hP
    have hi : i < p.2.length := by
      rw [← hxl]
      exact (List.getElem?_eq_some_iff.mp hx).1
    obtain ⟨ha, h0, h1, h2, hat, hha, hhd, hg1, hg2⟩ := at_hand i hi
    have ex : x = .ref ha := by
      obtain ⟨hb, _⟩ : ∃ h : i < xs.length, xs[i] = x := List.getElem?_eq_some_iff.mp hx
      have z := atI_nat (xs := xs) hx
      rw [z] at hat
      exact Option.some.inj hat
    subst ex
    have sT := same_new (o := .tup [.int (i : Nat), .ref ha]) nT
    have hDT := sT _ _ hD2
    have hLT := sT _ _ hL
    have hAT := hA.keep (H' := upd G T (.tup [.int (i : Nat), .ref ha])) fun a l _ e => sT _ _ e
    have sgT := sg.trans sT
    refine ⟨T, _, rfl, SqT.of upd_same, rfl, _, _, rfl, _, _, rfl, rfl, ?_⟩
    generalize upd G T (.tup [.int (i : Nat), .ref ha]) = G1 at hDT hLT hAT sgT ⊢
    refine ⟨_, rfl, lz1, fun c nc => ?_⟩
    have sc := same_new (o := .lst [.int i]) nc
    have hc0 : upd G1 c (.lst [.int i]) c = some (.lst [.int i]) := upd_same
    have nc0 := same_none sgT nc
    have cL : c ≠ L := fun e => by
      rw [e, hLT] at nc
      cases nc
    have hDc := sc _ _ hDT
    have hLc := sc _ _ hLT
    have hAc := hAT.keep (H' := upd G1 c (.lst [.int i])) fun a l _ e => sc _ _ e
    have sgc := sgT.trans sc
    generalize upd G1 c (.lst [.int i]) = G2 at hDc hLc hAc sgc hc0 ⊢
    have few : as.length ≤ 1000 := by
      have a1 := hA.len
      rw [List.length_map] at a1
      have a2 := List.length_filter_le (startsLot p.2) (List.range i)
      rw [List.length_range] at a2
      omega
    refine ⟨_, rfl, _, rfl, D, _, rfl, .inl (SqL.of hDc), rfl, flat_ints _, _, rfl, ?_⟩
    rw [if_neg Bool.false_ne_true, in_ints]
    by_cases hf : i ∈ freeOf p.2
    · rw [decide_eq_true hf]
      have hfr := mem_free.mp hf
      refine iteT ⟨_, rfl, D, rfl, ⟨_, SqL.of hDc⟩, fun E2 nE => ?_⟩
      have nE0 := same_none sgc nE
      have eL : E2 ≠ L := fun e => by
        rw [e, hLc] at nE
        cases nE
      refine lc_it (walk_list (a := D) (xs := natV (freeOf p.2)) (K := K)) (fun m G3 => Same G2 G3 ∧ G3 E2 = some (.lst (natV (((freeOf p.2).take m).filter fun o => sameTail p.2 o i)))) ⟨same_new nE, upd_same⟩ (fun m G3 _ h => SqL.of (h.1 _ _ hDc)) (fun m x2 G3 G3' hm h y => ?_) (fun G3 h => ?_)
      · obtain ⟨s3, hE⟩ := h
        obtain ⟨rfl, ex2⟩ := y
        rw [List.getElem?_map] at ex2
        obtain ⟨j, hj, rfl⟩ := Option.map_eq_some_iff.mp ex2
        have jl := free_lt (mem_free.mp (List.mem_of_getElem? hj))
        obtain ⟨hb, g0, g1, g2, hat2, hhb, hbd, hgb1, hgb2⟩ := at_hand j jl
        have sn := filter_snoc (fun o => sameTail p.2 o i) hj
        have sg3 := sgc.trans s3
        refine ⟨rfl, ?_⟩
        refine ⟨_, rfl, _, rfl, xa, _, j, _, rfl, rfl, same_tup sg3 hxs, hat2, 1, rfl, ?_⟩
        unfold tNoPart
        refine sl_any (same_tup sg3 hhb) fun c1 K1 hc1 t1 => ⟨_, rfl, 1, rfl, ?_⟩
        refine sl_any (same_tup (sg3.trans t1) hha) fun c2 K2 hc2 t2 => ?_
        have dA : Dp K K2 (.ref c1) (tailD p.2[j]!) := .tup (same_tup t2 hc1) (.cons (dp_same (sg3.trans (t1.trans t2)) _ _ hgb1) (.cons (dp_same (sg3.trans (t1.trans t2)) _ _ hgb2) .nil))
        have dB : Dp K K2 (.ref c2) (tailD p.2[i]!) := .tup hc2 (.cons (dp_same (sg3.trans (t1.trans t2)) _ _ hg1) (.cons (dp_same (sg3.trans (t1.trans t2)) _ _ hg2) .nil))
        have shp : ∀ j, j < p.2.length → SeqAt.shaped (tailD p.2[j]!) = true := fun j hj => by
          rw [getElem!_pos p.2 j hj]
          exact (tail_lay ok (List.getElem_mem hj)).shaped (by decide)
        refine ⟨_, _, dA, dB, shp j jl, shp i hi, _, rfl, ?_⟩
        have es : PyData.eqv (tailD p.2[j]!) (tailD p.2[i]!) = sameTail p.2 j i := by
          unfold sameTail
          rw [List.getElem?_eq_getElem jl, List.getElem?_eq_getElem hi, getElem!_pos p.2 j jl, getElem!_pos p.2 i hi]
        rw [es]
        have s4 := s3.trans (t1.trans t2)
        have hE2 := t2 _ _ (t1 _ _ hE)
        cases z : sameTail p.2 j i with
        | true =>
          rw [z, if_pos rfl] at sn
          refine iteT ⟨_, rfl, _, hE2, ?_, same_put s4 nE, ?_⟩
          · rw [List.length_map]
            have a1 := List.length_filter_le (fun o => sameTail p.2 o i) ((freeOf p.2).take m)
            have a2 := List.length_filter_le (isFree p.2) (List.range p.2.length)
            rw [List.length_take] at a1
            rw [List.length_range] at a2
            have a3 : (freeOf p.2).length ≤ p.2.length := a2
            exact LC.small_line (by omega)
          · rw [upd_same, sn, natV_snoc]
        | false =>
          rw [z, if_neg Bool.false_ne_true, List.append_nil] at sn
          refine iteF ⟨s4, ?_⟩
          rw [sn]
          exact hE2
      · obtain ⟨s3, hE⟩ := h
        rw [List.take_of_length_le (by rw [List.length_map]; exact Nat.le_refl _)] at hE
        have elot : lotOf p.2 i = (freeOf p.2).filter fun o => sameTail p.2 o i := by
          unfold lotOf
          rw [if_pos hfr]
        rw [← elot] at hE
        have hA3 := hAc.keep (H' := G3) fun a l _ e => s3 _ _ e
        refine lot_put (hs := p.2) (sgc.trans s3) nLH (s3 _ _ hLc) hA3 few nE0 eL hE fun G' as' s' k' hL' hA' => ?_
        exact ⟨_, _, _, _, rfl, s', k' _ _ eDL (s3 _ _ hDc), as', hL', hA'⟩
    · rw [decide_eq_false hf]
      have hfr : ¬ isFree p.2 i = true := fun z => hf (mem_free.mpr z)
      have elot : lotOf p.2 i = [i] := by
        unfold lotOf
        rw [if_neg hfr]
      refine iteF ?_
      refine lot_put (hs := p.2) sgc nLH hLc hAc few nc0 cL (by rw [elot]; exact hc0) fun G' as' s' k' hL' hA' => ?_
      exact ⟨_, _, _, _, rfl, s', k' _ _ eDL hDc, as', hL', hA'⟩
  · obtain ⟨_, _, _, _, rfl, sg, _, as, hL, hA⟩ := hP
    refine ⟨_, rfl, q G L as sg nLH hL ?_⟩
    rw [hxl] at hA
    exact hA
end
end PP

set_option maxHeartbeats 4000000
namespace PP
open PySem PySem.Spec PyProof.Rows L2 G3 G4 M0 PA EE QA HX SA
theorem pi_or {X : Cx} {tg iter : Expr} {w1 w2 : TI} (h1 : PI X tg iter w1) (h2 : PI X tg iter w2) : PI X tg iter (fun σ H R => w1 σ H R ∨ w2 σ H R) := ⟨fun pins s σ H R I h => h.elim (h1.run pins s σ H R I) (h2.run pins s σ H R I)⟩
abbrev nNamed : List Str := ["_law_hands", "_law_found", "_law_who", "_law_title", "_law_rows", "_law_line"]
theorem scNamed : FnScope nNamed ["_law_hands"] (defScope s_law_named) := ⟨rfl, rfl, rfl, by decide +kernel, rfl, by decide +kernel, by decide +kernel⟩
section
variable {P : Program} {w : World} {K : PySem.W.Frag} {mg : Str → Option Value} {base : Heap}
def spNamed (K : PySem.W.Frag) : Sp := fun vs H Q _ => ∃ (a : Addr) (xs : List V) (hs : List Hand), vs = [.ref a] ∧ (SqL K H a xs ∨ SqT K H a xs) ∧ DpAll K H xs (hs.map handD) ∧ (begunOf hs).length ≤ 900000 ∧
  ∀ (H' : Hp) (o : Addr), Same H H' → H o = none → H' o = some (.lst ((begunOf hs).map V.str)) → Q (.ref o) H'
set_option maxHeartbeats 8000000 in
theorem ok_named {f : Addr} {fd : FuncData} {k : Nat} (F : Fun K "_law_named" "_law_named" s_law_named f fd) : FnOk P w K mg base CX0 (k + 1) f fd ["_law_hands"] (spNamed K) := by
  refine F.ok scNamed (fun vs H Q E h => ?_) (fun cdv A outer s H vs Q E hr h => ?_)
  · obtain ⟨a, xs, hs, rfl, _⟩ := h
    rfl
  obtain ⟨a, xs, hs, rfl, hsq, hall, hl, q⟩ := h
  have nd := scNamed.nd
  refine ⟨_, pss_cons (ps_set (i := 1) nd rfl (.inl rfl) (pe_lst pa_nil))
    (pss_cons (ps_for PassesOwn.never rfl (pi_or (pi_list (pv 0)) (pi_tup (pv 0))) (pg_name (i := 2) nd rfl (.inl rfl))
      (pss_one (ps_for PassesOwn.never rfl (pi_tup (pe_ix ix_tup (pv 2) pe_int (fun _ _ => rfl))) (pg_tup rfl (pgs_cons (pg_name (i := 3) nd rfl (.inl rfl)) (pgs_cons (pg_name (i := 4) nd rfl (.inl rfl)) pgs_nil)))
        (pss_one (ps_set (i := 1) nd rfl (.inl rfl) (pe_op op_cat (pv 1) (pe_lc (own := [("_law_line", 5)]) (g := gName 5) (by rfl) nd (pi_tup (pv 4))
          (blkOk_by (N := nNamed) (sc := defScope s_law_named) (by decide +kernel)) (fun _ _ _ _ _ => pg_name (i := 5) nd rfl (.inl rfl))
          (fun _ _ _ _ _ => pts_one (pt_cmpR op_eq (pe_ix (r := rIxT K) ix_tup (pv 5) pe_int (fun _ _ => rfl)) pe_str (nomark _))) (fun _ _ _ _ _ => pe_ix (r := rIxT K) ix_tup (pv 5) pe_int (fun _ _ => rfl)))))))))
    (pss_one (ps_ret (pv 1)))), ?_⟩
  have hxl : xs.length = hs.length := by rw [dpAll_len hall, List.length_map]
  refine ⟨Nat.zero_le _, fun o no => ?_⟩
  have s0 : Same H (upd H o (.lst [])) := same_new no
  have keepL : ∀ {G}, Same H G → SqL K H a xs → SqL K G a xs := fun s h => s.seq h
  rcases hsq with hsq | hsq
  all_goals
    first
    | refine .inl ⟨_, rfl, a, rfl, ⟨_, s0.seq hsq⟩, for_it (walk_list (a := a) (xs := xs) (K := K)) (fun i σ G => ∃ c y2 y3 y4, σ = [some (.ref a), some (.ref c), y2, y3, y4, none] ∧ Same H G ∧ H c = none ∧ G c = some (.lst ((begunOf (hs.take i)).map V.str)))
        ⟨o, none, none, none, rfl, s0, no, upd_same⟩ (fun i σ G _ h => ?_) (fun i x σ G G' hi h y => ?_) (fun σ G h => ?_)⟩
    | refine .inr ⟨_, rfl, a, rfl, ⟨_, same_tup s0 hsq⟩, for_it (walk_tup (a := a) (xs := xs) (K := K)) (fun i σ G => ∃ c y2 y3 y4, σ = [some (.ref a), some (.ref c), y2, y3, y4, none] ∧ Same H G ∧ H c = none ∧ G c = some (.lst ((begunOf (hs.take i)).map V.str)))
        ⟨o, none, none, none, rfl, s0, no, upd_same⟩ (fun i σ G _ h => ?_) (fun i x σ G G' hi h y => ?_) (fun σ G h => ?_)⟩
    · obtain ⟨_, _, _, _, _, sg, _⟩ := h
      first
      | exact sg.seq hsq
      | exact same_tup sg hsq
    · obtain ⟨c, y2, y3, y4, rfl, sg, nc, hc⟩ := h
      obtain ⟨rfl, ex⟩ := y
      obtain ⟨d, hd, hx⟩ := dpAll_get hall ex
      rw [List.getElem?_map] at hd
      obtain ⟨hnd, hh, rfl⟩ := Option.map_eq_some_iff.mp hd
      obtain ⟨ft, fl⟩ := flat_take begunHand hh
      obtain ⟨ha, h0, h1, h2, rfl, hha, _, _, hts⟩ := dp3 hx
      obtain ⟨ta, ts, rfl, hta, htl⟩ := dp_tup hts
      refine ⟨_, rfl, ha, _, 2, _, rfl, rfl, same_tup sg hha, atI_nat (j := 2) rfl, ta, rfl, ⟨_, same_tup sg hta⟩, ?_⟩
      refine for_tup (xs := ts) (fun j σ G2 => ∃ c y3 y4, σ = [some (.ref a), some (.ref c), some (.ref ha), y3, y4, none] ∧ Same H G2 ∧ H c = none ∧ G2 c = some (.lst ((begunOf (hs.take i) ++ (hnd.2.2.take j).flatMap begunText).map V.str)))
        ⟨c, y3, y4, rfl, sg, nc, by rw [List.take_zero, List.flatMap_nil, List.append_nil]; exact hc⟩ (fun j σ G2 _ h => ?_) (fun j x2 σ G2 ex2 h => ?_) (fun σ G2 h => ?_)
      · obtain ⟨_, _, _, _, sg2, _⟩ := h
        exact same_tup sg2 hta
      · obtain ⟨c2, y3, y4, rfl, sg2, nc2, hc2⟩ := h
        obtain ⟨d2, hd2, hx2⟩ := dpAll_get htl ex2
        rw [List.getElem?_map] at hd2
        obtain ⟨tx, htx, rfl⟩ := Option.map_eq_some_iff.mp hd2
        obtain ⟨ft2, fl2⟩ := flat_take begunText htx
        obtain ⟨tb, t0, t1, rfl, htb, _, hrs⟩ := dp2 hx2
        obtain ⟨ra, rs, rfl, hra, hrl⟩ := dp_tup hrs
        refine ⟨tb, _, rfl, same_tup sg2 htb, rfl, _, _, rfl, _, _, rfl, rfl, ?_⟩
        refine ⟨_, rfl, _, rfl, ra, rfl, ⟨_, same_tup sg2 hra⟩, fun D nD => ?_⟩
        have b1 : begunOf hs = hs.flatMap begunHand := rfl
        have b2 : begunHand hnd = hnd.2.2.flatMap begunText := rfl
        have b3 : begunText tx = tx.2.filterMap begunRow := rfl
        have b4 : begunOf (hs.take i) = (hs.take i).flatMap begunHand := rfl
        have tot : (begunOf (hs.take i)).length + ((hnd.2.2.take j).flatMap begunText).length + (tx.2.filterMap begunRow).length ≤ 900000 := by
          rw [b2] at fl
          rw [b3] at fl2
          rw [b1] at hl
          rw [b4]
          omega
        refine lc_it (walk_tup (a := ra) (xs := rs) (K := K)) (fun m G3 => Same G2 G3 ∧ G3 D = some (.lst (((tx.2.take m).filterMap begunRow).map V.str))) ⟨same_new nD, upd_same⟩ (fun m G3 _ h => same_tup (sg2.trans h.1) hra) (fun m x3 G3 G3' hm h y => ?_) (fun G3 h => ?_)
        · obtain ⟨s3, hD3⟩ := h
          obtain ⟨rfl, ex3⟩ := y
          obtain ⟨d3, hd3, hx3⟩ := dpAll_get hrl ex3
          rw [List.getElem?_map] at hd3
          obtain ⟨rw3, hrw, rfl⟩ := Option.map_eq_some_iff.mp hd3
          obtain ⟨ft3, fl3⟩ := filt_take begunRow hrw
          obtain ⟨rb, ys, z, rfl, hrb, y0, hz⟩ := row_word hx3
          refine ⟨rfl, ?_⟩
          refine ⟨_, rfl, rb, _, 0, _, rfl, rfl, same_tup (sg2.trans s3) hrb, atI_nat (j := 0) y0, rfl, _, rfl, ?_⟩
          rcases hz with ⟨e1, e2⟩ | ⟨b, e1, rfl, y1⟩
          · rw [decide_eq_false (fun e => e2 (V.str.inj e))]
            refine iteF ⟨s3, ?_⟩
            rw [ft3, e1, Option.toList_none, List.append_nil]
            exact hD3
          · rw [decide_eq_true rfl]
            refine iteT ⟨_, rfl, rb, _, 1, _, rfl, rfl, same_tup (sg2.trans s3) hrb, atI_nat (j := 1) y1, _, hD3, ?_, same_put s3 nD, ?_⟩
            · rw [List.length_map]
              rw [e1] at fl3
              exact LC.small_line (by omega)
            · rw [upd_same, ft3, e1, Option.toList_some, List.map_append (l₂ := [b])]
              rfl
        · obtain ⟨s3, hD3⟩ := h
          have el : tx.2.take rs.length = tx.2 := List.take_of_length_le (by rw [dpAll_len hrl, List.length_map]; exact Nat.le_refl _)
          rw [el] at hD3
          refine ⟨c2, D, _, _, rfl, rfl, s3 _ _ hc2, hD3, ?_, fun e ne => ?_⟩
          · rw [List.length_map, List.length_map, List.length_append]
            exact Nat.le_of_lt (LC.small_line (by omega))
          · have s23 := sg2.trans s3
            refine ⟨e, _, _, rfl, same_put s23 (same_none s23 ne), same_none s23 ne, ?_⟩
            rw [upd_same, ft2, ← List.append_assoc, List.map_append (l₂ := begunText tx)]
            rfl
      · obtain ⟨c2, y3, y4, rfl, sg2, nc2, hc2⟩ := h
        have el : hnd.2.2.take ts.length = hnd.2.2 := List.take_of_length_le (by rw [dpAll_len htl, List.length_map]; exact Nat.le_refl _)
        rw [el] at hc2
        refine ⟨c2, _, _, _, rfl, sg2, nc2, ?_⟩
        show G2 c2 = some (.lst (((hs.take (i + 1)).flatMap begunHand).map V.str))
        rw [ft]
        exact hc2
    · obtain ⟨c, y2, y3, y4, rfl, sg, nc, hc⟩ := h
      have el : hs.take xs.length = hs := List.take_of_length_le (by omega)
      rw [el] at hc
      exact ⟨_, rfl, q G c sg nc hc⟩
end
end PP

set_option maxHeartbeats 4000000
namespace PP
open PySem PySem.Spec PyProof.Rows L2 G3 G4 M0 PA EE QA HX SA
/-! lots found one hand behind the other -/
def begunData : PyData → Option Str
  | .tuple [.str z, .str b] => if z = "begin" then some b else none
  | _ => none
theorem begun_data (r : PA.Row) : begunRow r = begunData r.data := by
  cases r with
  | set b s => cases s <;> rfl
  | ift b v r => rfl
  | go rs => rfl
  | call t =>
    show none = (if ("call" : Str) = "begin" then some t else none)
    rw [if_neg (by decide +kernel)]
  | back => rfl
  | wait b v => rfl
  | begin b => rfl
  | fault => rfl
def begunTextD : PyData → List Str
  | .tuple [_, .tuple rs] => rs.filterMap begunData
  | _ => []
theorem begun_textD (t : PA.Text) : begunText t = begunTextD (textD t) := by
  show t.2.filterMap begunRow = (t.2.map PA.Row.data).filterMap begunData
  rw [List.filterMap_map]
  congr 1
  funext r
  exact begun_data r
def begunTailD : PyData → List Str
  | .tuple [_, .tuple ts] => ts.flatMap begunTextD
  | _ => []
theorem begun_tailD (h : Hand) : begunHand h = begunTailD (tailD h) := by
  show h.2.2.flatMap begunText = (h.2.2.map textD).flatMap begunTextD
  rw [List.flatMap_map]
  congr 1
  funext t
  exact begun_textD t
theorem same_iff {hs : List Hand} {i j : Nat} (hi : i < hs.length) (hj : j < hs.length) : sameTail hs i j = true ↔ tailD hs[i] = tailD hs[j] := by
  unfold sameTail
  rw [List.getElem?_eq_getElem hi, List.getElem?_eq_getElem hj]
  exact eqv_iff _ _ (noB_tail _) (noB_tail _)
/-- a hand goes to a lot by its first -/
def joins (hs : List Hand) (i s : Nat) : Bool := isFree hs s && (isFree hs i && sameTail hs i s)
theorem free_parts {hs : List Hand} {i : Nat} (hi : i < hs.length) : isFree hs i = (isFirst hs i && (begunHand hs[i]).isEmpty) := by
  unfold isFree
  rw [List.getElem?_eq_getElem hi]
/-- as the law finds it -/
theorem joins_law {hs : List Hand} {i s : Nat} (hi : i < hs.length) (hsn : s < hs.length) : joins hs i s = (sameTail hs s i && (isFirst hs s && isFree hs i)) := by
  unfold joins
  rw [Bool.eq_iff_iff]
  simp only [Bool.and_eq_true]
  constructor
  · rintro ⟨h1, h2, h3⟩
    refine ⟨(same_iff hsn hi).mpr ((same_iff hi hsn).mp h3).symm, ?_, h2⟩
    rw [free_parts hsn, Bool.and_eq_true] at h1
    exact h1.1
  · rintro ⟨h1, h2, h3⟩
    have e := (same_iff hsn hi).mp h1
    refine ⟨?_, h3, (same_iff hi hsn).mpr e.symm⟩
    rw [free_parts hi, Bool.and_eq_true] at h3
    rw [free_parts hsn, h2, begun_tailD, e, ← begun_tailD, h3.2]
    rfl
def partOf (hs : List Hand) (m s : Nat) : List Nat := if isFree hs s then (List.range m).filter fun o => isFree hs o && sameTail hs o s else if s < m then [s] else []
def startsUpTo (hs : List Hand) (m : Nat) : List Nat := (List.range m).filter (startsLot hs)
def foundOf (hs : List Hand) (m : Nat) : List (List Nat) := (startsUpTo hs m).map (partOf hs m)
theorem starts_iff {hs : List Hand} {i : Nat} (hi : i < hs.length) : startsLot hs i = true ↔ (isFree hs i = false ∨ ∀ o, o < i → (isFree hs o && sameTail hs o i) = false) := by
  unfold startsLot
  rw [decide_eq_true_eq]
  unfold lotOf
  cases hf : isFree hs i with
  | false => simp
  | true =>
    have e : (freeOf hs).filter (fun o => sameTail hs o i) = (List.range hs.length).filter fun o => isFree hs o && sameTail hs o i := by
      unfold freeOf
      rw [List.filter_filter]
      refine List.filter_congr fun o _ => ?_
      rw [Bool.and_comm]
    rw [if_pos rfl, e, List.head?_filter, List.find?_range_eq_some]
    constructor
    · rintro ⟨_, _, h⟩
      refine .inr fun o ho => ?_
      have := h o ho
      cases z : (isFree hs o && sameTail hs o i) with
      | false => rfl
      | true => rw [z] at this; cases this
    · rintro (h | h)
      · cases h
      · refine ⟨?_, List.mem_range.mpr hi, fun o ho => by rw [h o ho]; rfl⟩
        rw [hf, same_refl' hi]
        rfl
theorem part_end (hs : List Hand) (s : Nat) (h : s < hs.length) : partOf hs hs.length s = lotOf hs s := by
  unfold partOf lotOf
  cases hf : isFree hs s with
  | false => rw [if_neg Bool.false_ne_true, if_neg Bool.false_ne_true, if_pos h]
  | true =>
    rw [if_pos rfl, if_pos rfl]
    unfold freeOf
    rw [List.filter_filter]
    refine List.filter_congr fun o _ => ?_
    rw [Bool.and_comm]
theorem found_end (hs : List Hand) : foundOf hs hs.length = lotsOf hs := by
  unfold foundOf lotsOf startsUpTo
  refine List.map_congr_left fun s hs' => ?_
  exact part_end hs s (List.mem_range.mp (List.mem_filter.mp hs').1)
theorem part_succ (hs : List Hand) {i s : Nat} (h : s < i) : partOf hs (i + 1) s = partOf hs i s ++ (if joins hs i s then [i] else []) := by
  unfold partOf joins
  cases hf : isFree hs s with
  | false =>
    rw [if_neg Bool.false_ne_true, if_neg Bool.false_ne_true, if_pos h, if_pos (by omega), Bool.false_and, if_neg Bool.false_ne_true, List.append_nil]
  | true =>
    rw [if_pos rfl, if_pos rfl, List.range_succ, List.filter_append, Bool.true_and]
    congr 1
    cases z : (isFree hs i && sameTail hs i s) <;> simp [z]
theorem part_new {hs : List Hand} {i : Nat} (hi : i < hs.length) (h : startsLot hs i = true) : partOf hs (i + 1) i = [i] := by
  unfold partOf
  cases hf : isFree hs i with
  | false => rw [if_neg Bool.false_ne_true, if_pos (by omega)]
  | true =>
    have z := (starts_iff hi).mp h
    rw [hf] at z
    rcases z with z | z
    · cases z
    · rw [if_pos rfl, List.range_succ, List.filter_append]
      have e1 : (List.range i).filter (fun o => isFree hs o && sameTail hs o i) = [] := by
        rw [List.filter_eq_nil_iff]
        intro o ho
        rw [z o (List.mem_range.mp ho)]
        decide
      rw [e1]
      simp [hf, same_refl' hi]
theorem part_head {hs : List Hand} {i s : Nat} (hi : i ≤ hs.length) (hsi : s < i) (h : startsLot hs s = true) : ∃ r, partOf hs i s = s :: r := by
  unfold partOf
  cases hf : isFree hs s with
  | false => exact ⟨[], by rw [if_neg Bool.false_ne_true, if_pos hsi]⟩
  | true =>
    have z := (starts_iff (show s < hs.length by omega)).mp h
    rw [hf] at z
    rcases z with z | z
    · cases z
    · rw [if_pos rfl]
      have e : ((List.range i).filter fun o => isFree hs o && sameTail hs o s).head? = some s := by
        rw [List.head?_filter, List.find?_range_eq_some]
        refine ⟨?_, List.mem_range.mpr hsi, fun o ho => by rw [z o ho]; rfl⟩
        rw [hf, same_refl' (by omega)]
        rfl
      cases e2 : (List.range i).filter fun o => isFree hs o && sameTail hs o s with
      | nil => rw [e2] at e; cases e
      | cons a r =>
        rw [e2] at e
        cases e
        exact ⟨r, rfl⟩
/-- who starts a lot goes to none -/
theorem starts_no {hs : List Hand} {i s : Nat} (hi : i < hs.length) (hsi : s < i) (h : startsLot hs i = true) : joins hs i s = false := by
  have z := (starts_iff hi).mp h
  unfold joins
  rcases z with z | z
  · rw [z, Bool.false_and, Bool.and_false]
  · cases e : (isFree hs s && (isFree hs i && sameTail hs i s)) with
    | false => rfl
    | true =>
      simp only [Bool.and_eq_true] at e
      have e2 := z s hsi
      rw [e.1, (same_iff (by omega) hi).mpr ((same_iff hi (by omega)).mp e.2.2).symm] at e2
      cases e2
theorem starts_some {hs : List Hand} {i : Nat} (hi : i < hs.length) (h : startsLot hs i = false) : ∃ s, s < i ∧ startsLot hs s = true ∧ joins hs i s = true := by
  have z : ¬ (isFree hs i = false ∨ ∀ o, o < i → (isFree hs o && sameTail hs o i) = false) := fun z => by
    rw [(starts_iff hi).mpr z] at h
    cases h
  have hf : isFree hs i = true := by
    cases e : isFree hs i with
    | true => rfl
    | false => exact absurd (.inl e) z
  have ex : ∃ o, o < i ∧ (isFree hs o && sameTail hs o i) = true := by
    apply Classical.byContradiction
    intro no
    refine z (.inr fun o ho => ?_)
    cases e : (isFree hs o && sameTail hs o i) with
    | false => rfl
    | true => exact absurd ⟨o, ho, e⟩ no
  -- the least
  have least : ∀ n o : Nat, o ≤ n → o < i → (isFree hs o && sameTail hs o i) = true → ∃ s, s < i ∧ (isFree hs s && sameTail hs s i) = true ∧ ∀ o, o < s → (isFree hs o && sameTail hs o i) = false := by
    intro n
    induction n with
    | zero =>
      intro o ho hoi e
      refine ⟨o, hoi, e, fun k hk => by omega⟩
    | succ n ih =>
      intro o ho hoi e
      by_cases q : ∃ k, k < o ∧ (isFree hs k && sameTail hs k i) = true
      · obtain ⟨k, hk, ek⟩ := q
        exact ih k (by omega) (by omega) ek
      · refine ⟨o, hoi, e, fun k hk => ?_⟩
        cases e3 : (isFree hs k && sameTail hs k i) with
        | false => rfl
        | true => exact absurd ⟨k, hk, e3⟩ q
  obtain ⟨o, ho, eo⟩ := ex
  obtain ⟨s, hsi, es, mn⟩ := least o o (Nat.le_refl _) ho eo
  simp only [Bool.and_eq_true] at es
  have hsn : s < hs.length := by omega
  have t := (same_iff hsn hi).mp es.2
  refine ⟨s, hsi, (starts_iff hsn).mpr (.inr fun k hk => ?_), ?_⟩
  · cases e3 : (isFree hs k && sameTail hs k s) with
    | false => rfl
    | true =>
      simp only [Bool.and_eq_true] at e3
      have hk2 : k < hs.length := by omega
      have e4 := mn k hk
      rw [e3.1, (same_iff hk2 hi).mpr (((same_iff hk2 hsn).mp e3.2).trans t)] at e4
      cases e4
  · unfold joins
    rw [es.1, hf, (same_iff hi hsn).mpr t.symm]
    rfl
theorem joins_one {hs : List Hand} {i s t : Nat} (hi : i < hs.length) (hs1 : s < i) (ht : t < i) (h1 : startsLot hs s = true) (h2 : startsLot hs t = true) (j1 : joins hs i s = true) (j2 : joins hs i t = true) : s = t := by
  unfold joins at j1 j2
  simp only [Bool.and_eq_true] at j1 j2
  have a1 := (same_iff hi (by omega)).mp j1.2.2
  have a2 := (same_iff hi (by omega)).mp j2.2.2
  have e : tailD (hs[s]'(by omega)) = tailD (hs[t]'(by omega)) := a1.symm.trans a2
  rcases Nat.lt_trichotomy s t with z | z | z
  · exfalso
    rcases (starts_iff (show t < hs.length by omega)).mp h2 with q | q
    · rw [j2.1] at q
      cases q
    · have := q s z
      rw [j1.1, (same_iff (by omega) (by omega)).mpr e] at this
      cases this
  · exact z
  · exfalso
    rcases (starts_iff (show s < hs.length by omega)).mp h1 with q | q
    · rw [j1.1] at q
      cases q
    · have := q t z
      rw [j2.1, (same_iff (by omega) (by omega)).mpr e.symm] at this
      cases this
theorem starts_up (hs : List Hand) (i : Nat) : startsUpTo hs (i + 1) = startsUpTo hs i ++ (if startsLot hs i then [i] else []) := by
  unfold startsUpTo
  rw [List.range_succ, List.filter_append]
  congr 1
  cases z : startsLot hs i <;> simp [z]
theorem mem_starts {hs : List Hand} {i s : Nat} (h : s ∈ startsUpTo hs i) : s < i ∧ startsLot hs s = true := ⟨List.mem_range.mp (List.mem_filter.mp h).1, (List.mem_filter.mp h).2⟩
theorem found_new {hs : List Hand} {i : Nat} (hi : i < hs.length) (h : startsLot hs i = true) : foundOf hs (i + 1) = foundOf hs i ++ [[i]] := by
  unfold foundOf
  rw [starts_up, h, if_pos rfl, List.map_append]
  congr 1
  · refine List.map_congr_left fun s hs' => ?_
    have m := mem_starts hs'
    rw [part_succ hs m.1, starts_no hi m.1 h, if_neg Bool.false_ne_true, List.append_nil]
  · show [partOf hs (i + 1) i] = [[i]]
    rw [part_new hi h]
theorem found_set {hs : List Hand} {i at' s : Nat} (hi : i < hs.length) (h : startsLot hs i = false) (ha : (startsUpTo hs i)[at']? = some s) (hj : joins hs i s = true) : foundOf hs (i + 1) = (foundOf hs i).set at' (partOf hs i s ++ [i]) := by
  unfold foundOf
  rw [starts_up, h, if_neg Bool.false_ne_true, List.append_nil]
  have ms := mem_starts (List.mem_of_getElem? ha)
  have nd : (startsUpTo hs i).Nodup := (List.nodup_range).sublist List.filter_sublist
  refine List.ext_getElem? fun j => ?_
  rw [List.getElem?_map, List.getElem?_set, List.length_map]
  by_cases e : at' = j
  · subst e
    have hl := (List.getElem?_eq_some_iff.mp ha).1
    rw [if_pos rfl, if_pos hl, ha]
    show some (partOf hs (i + 1) s) = _
    rw [part_succ hs ms.1, hj, if_pos rfl]
  · rw [if_neg e, List.getElem?_map]
    cases ej : (startsUpTo hs i)[j]? with
    | none => rfl
    | some t =>
      have mt := mem_starts (List.mem_of_getElem? ej)
      have nj : joins hs i t = false := by
        cases z : joins hs i t with
        | false => rfl
        | true =>
          exfalso
          have q := joins_one hi ms.1 mt.1 ms.2 mt.2 hj z
          subst q
          obtain ⟨l1, g1⟩ := List.getElem?_eq_some_iff.mp ha
          obtain ⟨l2, g2⟩ := List.getElem?_eq_some_iff.mp ej
          have pw := List.pairwise_iff_getElem.mp nd
          rcases Nat.lt_trichotomy at' j with z | z | z
          · exact pw at' j l1 l2 z (g1.trans g2.symm)
          · exact e z
          · exact pw j at' l2 l1 z (g2.trans g1.symm)
      show some (partOf hs (i + 1) t) = some (partOf hs i t)
      rw [part_succ hs mt.1, nj, if_neg Bool.false_ne_true, List.append_nil]
end PP

set_option maxHeartbeats 4000000
namespace PP
open PySem PySem.Spec PyProof.Rows L2 G3 G4 M0 PA EE QA HX SA
/-! lots as the law finds them -/
theorem for_enumL {K : PySem.W.Frag} {a : Addr} {xs : List V} {g : TG} {tb : TS} {D : Ends} {σ : L2.St} {H : Hp} (Pv : Nat → L2.St → Hp → Prop) (h0 : Pv 0 σ H) (hl : ∀ i σ H, Pv i σ H → SqL K H a xs)
    (hs : ∀ (i : Nat) (x : V) (T : Addr) (σ : L2.St) (H : Hp), xs[i]? = some x → Pv i σ H → H T = none → g (.ref T) σ (upd H T (.tup [.int (i : Nat), x])) fun σ2 H2 => tb { D with nx := Pv (i + 1), ct := Pv (i + 1), bk := D.nx } σ2 H2) (hd : ∀ σ H, Pv xs.length σ H → D.nx σ H) :
    ∃ W : Nat → Nat → L2.St → Hp → Prop, (∃ m, W 0 m σ H) ∧ ∀ i m σ H, W i m σ H →
      ((Ite K a).stop i H ∧ D.nx σ H) ∨ ((Ite K a).go i H ∧ ∃ N : L2.St → Hp → Prop, (∀ σ' H', N σ' H' → ∃ m', m' < m ∧ W (i + 1) m' σ' H') ∧ ∀ x H', (Ite K a).yld i H x H' → g x σ H' fun σ2 H2 => tb { D with nx := N, ct := N, bk := D.nx } σ2 H2) := by
  refine ⟨fun i m σ H => m = xs.length - i ∧ i ≤ xs.length ∧ Pv i σ H, ⟨xs.length, rfl, Nat.zero_le _, h0⟩, ?_⟩
  rintro i m σ H ⟨rfl, hi, p⟩
  have q := hl i σ H p
  by_cases hlt : i < xs.length
  · refine .inr ⟨⟨xs, xs[i], q, by simp [hlt]⟩, Pv (i + 1), fun σ' H' p' => ⟨xs.length - (i + 1), by omega, rfl, hlt, p'⟩, fun v H' y => ?_⟩
    obtain ⟨T, x, rfl, hT, rfl, y⟩ := y
    exact hs i x T σ H (y xs q) p hT
  · have e : i = xs.length := by omega
    subst e
    exact .inl ⟨⟨xs, q, Nat.le_refl _⟩, hd σ H p⟩
/-- what rows begin are names -/
theorem begun_str {p : Prog} (ok : ProgOk p) {hs : List Hand} (hm : ∀ h ∈ hs, h ∈ p.2) : ∀ z ∈ begunOf hs, PyData.strOk z = true := fun z hz => by
  obtain ⟨h, hh, hz⟩ := List.mem_flatMap.mp (show z ∈ hs.flatMap begunHand from hz)
  obtain ⟨t, ht, hz⟩ := List.mem_flatMap.mp (show z ∈ h.2.2.flatMap begunText from hz)
  obtain ⟨r, hr, hz⟩ := List.mem_filterMap.mp (show z ∈ t.2.filterMap begunRow from hz)
  have o := (ok.txt h (hm h hh)).row t ht r hr
  cases r with
  | begin b =>
    cases hz
    obtain ⟨g, hg, rfl⟩ := List.mem_map.mp (List.mem_filter.mp (show z ∈ _ from o)).1
    exact name_ok (ok.nm g hg)
  | _ => cases hz
theorem dp_strs {K : PySem.W.Frag} {H : Hp} : ∀ l : List Str, DpAll K H (l.map V.str) (l.map PyData.str)
  | [] => .nil
  | z :: l => .cons (.str z) (dp_strs l)
theorem lay_strs {l : List Str} (h : ∀ z ∈ l, PyData.strOk z = true) : LayD 1 (.list (l.map PyData.str)) := LayD.lst fun d hd => by
  obtain ⟨z, hz, rfl⟩ := List.mem_map.mp hd
  exact lay_str (h z hz)
theorem lay_nilL : LayD 1 (.list []) := LayD.lst fun _ z => nomatch z
theorem ne_nilL (l : List Str) : (!PyData.eqv (.list (l.map PyData.str)) (.list [])) = !l.isEmpty := by
  cases l <;> simp [PyData.eqv, PyData.eqvAll]
theorem LotsAt.at {H0 H : Hp} {L : Addr} : ∀ {as : List Addr} {ls : List (List Nat)}, LotsAt H0 H L as ls → ∀ {i : Nat} {a : Addr}, as[i]? = some a → ∃ l, ls[i]? = some l ∧ a ≠ L ∧ H a = some (.lst (natV l)) ∧ H0 a = none
  | _, _, .cons g1 g2 g3 g, 0, _, e => by
    cases e
    exact ⟨_, rfl, g2, g3, g1⟩
  | _, _, .cons g1 g2 g3 g, i + 1, _, e => g.at (i := i) e
theorem LotsAt.put {H0 H : Hp} {L a : Addr} {l : List Nat} (h1 : H0 a = none) (h2 : a ≠ L) (h3 : H a = some (.lst (natV l))) : ∀ {as : List Addr} {ls : List (List Nat)} {i : Nat}, LotsAt H0 H L as ls → LotsAt H0 H L (as.set i a) (ls.set i l)
  | _, _, _, .nil => .nil
  | _, _, 0, .cons g1 g2 g3 g => .cons h1 h2 h3 g
  | _, _, i + 1, .cons g1 g2 g3 g => .cons g1 g2 g3 (g.put (i := i) h1 h2 h3)
abbrev nLots : List Str := ["_law_prog", "_law_found", "_law_number", "_law_who", "_law_alone", "_law_place", "_law_at", "_law_lot", "_law_other", "_law_alike"]
theorem scLots : FnScope nLots ["_law_prog"] (defScope s_law_lots) := ⟨rfl, rfl, rfl, by decide +kernel, rfl, by decide +kernel, by decide +kernel⟩
theorem ixN_at' {n j : Nat} (h : j < n) : ixN n (j : Int) = some j := by
  unfold ixN
  rw [if_pos (by omega), if_pos (by omega), Int.toNat_natCast]
/-- a or b, whose rest runs in two heaps -/
theorem orV_by {ta tb : TE} {σ : L2.St} {H : Hp} {Q : VK} (I : Bool → Hp → Prop) (h : ∀ Q' : VK, (∀ c G, I c G → Q' (.bl c) G) → tOrV ta tb σ H Q') (go : ∀ c G, I c G → Q (.bl c) G) : tOrV ta tb σ H Q := h Q go
theorem andV_by {ta tb : TE} {σ : L2.St} {H : Hp} {Q : VK} (I : Bool → Hp → Prop) (h : ∀ Q' : VK, (∀ c G, I c G → Q' (.bl c) G) → tAndV ta tb σ H Q') (go : ∀ c G, I c G → Q (.bl c) G) : tAndV ta tb σ H Q := h Q go
/-- what has been found out of the lots ahead -/
def PlaceIs (hs : List Hand) (i j : Nat) (y : V) : Prop :=
  (y = .non ∧ ∀ t s, t < j → (startsUpTo hs i)[t]? = some s → joins hs i s = false) ∨ ∃ t s, y = .int (t : Nat) ∧ t < j ∧ (startsUpTo hs i)[t]? = some s ∧ joins hs i s = true
theorem place_no {hs : List Hand} {i j : Nat} {y : V} (h : PlaceIs hs i j y) {s : Nat} (hs1 : (startsUpTo hs i)[j]? = some s) (e : joins hs i s = false) : PlaceIs hs i (j + 1) y := by
  rcases h with ⟨rfl, h⟩ | ⟨t, s2, rfl, ht, g1, g2⟩
  · refine .inl ⟨rfl, fun t s3 ht g => ?_⟩
    rcases Nat.lt_succ_iff_lt_or_eq.mp ht with z | rfl
    · exact h t s3 z g
    · rw [hs1] at g
      cases g
      exact e
  · exact .inr ⟨t, s2, rfl, by omega, g1, g2⟩
theorem place_end {hs : List Hand} {i : Nat} (hi : i < hs.length) {y : V} (h : PlaceIs hs i (startsUpTo hs i).length y) : (y = .non ∧ startsLot hs i = true) ∨ ∃ t s, y = .int (t : Nat) ∧ (startsUpTo hs i)[t]? = some s ∧ joins hs i s = true ∧ startsLot hs i = false := by
  rcases h with ⟨rfl, h⟩ | ⟨t, s2, rfl, ht, g1, g2⟩
  · refine .inl ⟨rfl, ?_⟩
    cases z : startsLot hs i with
    | true => rfl
    | false =>
      obtain ⟨s, hs1, hs2, hs3⟩ := starts_some hi z
      have m : s ∈ startsUpTo hs i := List.mem_filter.mpr ⟨List.mem_range.mpr hs1, hs2⟩
      obtain ⟨t, lt, e⟩ := List.getElem_of_mem m
      rw [h t s lt (by rw [List.getElem?_eq_getElem lt, e])] at hs3
      cases hs3
  · refine .inr ⟨t, s2, rfl, g1, g2, ?_⟩
    cases z : startsLot hs i with
    | false => rfl
    | true =>
      rw [starts_no hi (mem_starts (List.mem_of_getElem? g1)).1 z] at g2
      cases g2
section
variable {P : Program} {w : World} {K : PySem.W.Frag} {mg : Str → Option Value} {base : Heap}
set_option maxHeartbeats 8000000 in
theorem ok_lots {f : Addr} {fd : FuncData} {k : Nat} (F : Fun K "_law_lots" "_law_lots" s_law_lots f fd) (N : Def P w K mg base CX0 (k + 1) "_law_named" ["_law_hands"] (spNamed K)) (me : mg "enumerate" = none) :
    FnOk P w K mg base CX0 (k + 1 + 1) f fd ["_law_prog"] (spLike K) := by
  refine F.ok scLots (fun vs H Q E h => ?_) (fun cdv A outer s H vs Q E hr h => ?_)
  · obtain ⟨v, p, rfl, _⟩ := h
    rfl
  obtain ⟨v, p, rfl, hv, ok, q⟩ := h
  have nd := scLots.nd
  refine ⟨_, pss_cons (ps_set (i := 1) nd rfl (.inl rfl) (pe_lst pa_nil))
    (pss_cons (ps_for PassesOwn.never rfl (EN.pi_enumT (by rfl) me (pa_cons (pe_ix ix_tup (pv 0) pe_int (fun _ _ => rfl)) pa_nil)) (pg_tup rfl (pgs_cons (pg_name (i := 2) nd rfl (.inl rfl)) (pgs_cons (pg_name (i := 3) nd rfl (.inl rfl)) pgs_nil)))
      (pss_cons (ps_set (i := 4) nd rfl (.inl rfl) (pe_or (pe_cmpR op_in_seq (pe_ix ix_tup (pv 3) pe_int (fun _ _ => rfl)) (pe_call N.ok hr (by rfl) N.g N.kp N.b .nil pass0 (pa_cons (pe_ix ix_tup (pv 0) pe_int (fun _ _ => rfl)) pa_nil)) (by rfl))
        (pe_one (pe_cmpR (op_neD hr.units) (pe_call N.ok hr (by rfl) N.g N.kp N.b .nil pass0 (pa_cons (pe_lst (pa_cons (pv 3) pa_nil)) pa_nil)) (pe_lst pa_nil) (nomark _)))))
      (pss_cons (ps_set (i := 5) nd rfl (.inl rfl) pe_non)
      (pss_cons (ps_for PassesOwn.never rfl (pi_enum (by rfl) me (pa_cons (pv 1) pa_nil)) (pg_tup rfl (pgs_cons (pg_name (i := 6) nd rfl (.inl rfl)) (pgs_cons (pg_name (i := 7) nd rfl (.inl rfl)) pgs_nil)))
        (pss_cons (ps_set (i := 8) nd rfl (.inl rfl) (pe_ix ix_tup (pe_ix ix_tup (pv 0) pe_int (fun _ _ => rfl)) (pe_ix ix_list (pv 7) pe_int (fun _ _ => rfl)) (fun _ _ => rfl)))
        (pss_cons (ps_set (i := 9) nd rfl (.inl rfl) (pe_and (pe_cmpR (op_eqD hr.units) (pe_slice (r := rSlA K) sl_tupA (pv 8) (po_some pe_int) po_none) (pe_slice (r := rSlA K) sl_tupA (pv 3) (po_some pe_int) po_none) (nomark _))
          (pe_and (pe_cmpR op_notIn_seq (pe_ix ix_tup (pv 8) pe_int (fun _ _ => rfl)) (pe_call N.ok hr (by rfl) N.g N.kp N.b .nil pass0 (pa_cons (pe_ix ix_tup (pv 0) pe_int (fun _ _ => rfl)) pa_nil)) (by rfl))
            (pe_one (pe_not (pv 4))))))
        (pss_one (ps_set (i := 5) nd rfl (.inl rfl) (pe_ifExp (pt_val (pv 9)) (pv 6) (pv 5)))))))
      (pss_one (ps_if (pt_cmpR op_isN (pv 5) pe_non (nomark _))
        (pss_one (ps_expr (pe_bm PySem.F.plainAttrs_list PySem.F.slot_list_append PySem.F.type_list_append mt_append (pv 1) (pa_cons (pe_lst (pa_cons (pv 2) pa_nil)) pa_nil))))
        (pss_one (ps_asg (pe_op op_cat (pe_ix ix_list (pv 1) (pv 5) (fun _ _ => rfl)) (pe_lst (pa_cons (pv 2) pa_nil))) (pg_sub (pv 1) (pv 5) set_list)))))))))
    (pss_one (ps_ret (pv 1)))), ?_⟩
  obtain ⟨va, x1, x2, rfl, hva, _, d2⟩ := dp2 hv
  obtain ⟨xa, xs, rfl, hxs, hall⟩ := dp_tup d2
  have hxl : xs.length = p.2.length := by rw [dpAll_len hall, List.length_map]
  have l4 := ok.few
  have at_hand : ∀ (j : Nat) (hj : j < p.2.length), ∃ (ha : Addr) (h1 h2 : V), xs[j]? = some (.ref ha) ∧ SqT K H ha [.str p.2[j].1, h1, h2] ∧ Dp K H (.ref ha) (handD p.2[j]) ∧ Dp K H h1 (boxesD p.2[j].2.1) ∧ Dp K H h2 (.tuple (p.2[j].2.2.map textD)) := fun j hj => by
    obtain ⟨z, hz, hzd⟩ := dpAll_getD hall (i := j) (d := handD p.2[j]) (by rw [List.getElem?_map, List.getElem?_eq_getElem hj]; rfl)
    obtain ⟨ha, h0, h1, h2, rfl, hha, g0, g1, g2⟩ := dp3 hzd
    cases dp_str g0
    exact ⟨ha, h1, h2, hz, hha, hzd, g1, g2⟩
  refine ⟨Nat.zero_le _, fun L nL => ?_⟩
  have sL := same_new (o := .lst []) nL
  refine ⟨_, rfl, va, _, 1, _, rfl, rfl, same_tup sL hva, atI_nat (j := 1) rfl, xa, xs, rfl, same_tup sL hxs, EN.for_enumT (xs := xs) (fun i σ G => ∃ y2 y3 y4 y5 y6 y7 y8 y9, σ = [some (.ref va), some (.ref L), y2, y3, y4, y5, y6, y7, y8, y9] ∧ Same H G ∧ ∃ as : List Addr, G L = some (.lst (as.map V.ref)) ∧ LotsAt H G L as (foundOf p.2 i))
    ⟨none, none, none, none, none, none, none, none, rfl, sL, [], upd_same, .nil⟩ (fun i σ G hP => ?_) (fun i x T σ G hx hP nT => ?_) (fun σ G hP => ?_)⟩
  · obtain ⟨_, _, _, _, _, _, _, _, _, sg, _⟩ := hP
    exact same_tup sg hxs
  · obtain ⟨y2, y3, y4, y5, y6, y7, y8, y9, rfl, sg, as, hL, hA⟩ := hP
    have hi : i < p.2.length := by
      rw [← hxl]
      exact (List.getElem?_eq_some_iff.mp hx).1
    obtain ⟨ha, h1, h2, hat, hha, hhd, hg1, hg2⟩ := at_hand i hi
    have ex : x = .ref ha := by
      rw [hx] at hat
      exact Option.some.inj hat
    subst ex
    have sT := same_new (o := .tup [.int (i : Nat), .ref ha]) nT
    have hLT := sT _ _ hL
    have hAT := hA.keep (H' := upd G T (.tup [.int (i : Nat), .ref ha])) fun a l _ e => sT _ _ e
    have sgT := sg.trans sT
    refine ⟨T, _, rfl, SqT.of upd_same, rfl, _, _, rfl, _, _, rfl, rfl, ?_⟩
    generalize upd G T (.tup [.int (i : Nat), .ref ha]) = G1 at hLT hAT sgT ⊢
    have eF : isFirst p.2 i = !decide (p.2[i].1 ∈ begunOf p.2) := by
      unfold isFirst
      rw [List.getElem?_eq_getElem hi]
    have eFr := free_parts hi
    have bl := begun_le ok p.2 (fun _ h => h) l4
    refine orV_by (fun c G2 => c = !isFree p.2 i ∧ Same G1 G2) (fun Q' q' => ?_) (fun c G2 hc => ?_)
    · refine ⟨_, rfl, ha, _, 0, _, rfl, rfl, same_tup sgT hha, atI_nat (j := 0) rfl, ?_⟩
      refine ⟨_, rfl, va, _, 1, _, rfl, rfl, same_tup sgT hva, atI_nat (j := 1) rfl, xa, xs, p.2, rfl, .inr (same_tup sgT hxs), dpAll_same sgT _ _ hall, bl, fun G2 o s2 no ho => ?_⟩
      refine ⟨o, _, rfl, .inl (SqL.of ho), rfl, flat_strs _, _, rfl, ?_⟩
      rw [if_neg Bool.false_ne_true, in_strs]
      by_cases hin : p.2[i].1 ∈ begunOf p.2
      · rw [decide_eq_true hin] at eF ⊢
        rw [if_pos rfl]
        exact q' _ _ ⟨by rw [eFr, eF]; rfl, s2⟩
      · rw [decide_eq_false hin] at eF ⊢
        rw [if_neg Bool.false_ne_true]
        refine ⟨_, rfl, lz1, fun c nc => ?_⟩
        have sc := same_new (o := .lst [.ref ha]) nc
        have hm : ∀ h ∈ [p.2[i]], h ∈ p.2 := fun h hh => by
          rw [List.mem_singleton.mp hh]
          exact List.getElem_mem hi
        refine ⟨c, _, [p.2[i]], rfl, .inl (SqL.of upd_same), .cons (dp_same ((sgT.trans s2).trans sc) _ _ hhd) .nil, begun_le ok _ hm (by show 1 ≤ 4; decide), fun G3 o3 s3 no3 ho3 => ?_⟩
        have eb : begunOf [p.2[i]] = begunHand p.2[i] := by
          unfold begunOf
          simp
        refine ⟨Nat.zero_le _, fun e ne => ?_⟩
        have se := same_new (o := .lst []) ne
        refine ⟨_, _, .lst (SqL.of (se _ _ ho3)) (dp_strs _), .lst (SqL.of upd_same) .nil, (lay_strs (begun_str ok hm)).shaped (by decide), lay_nilL.shaped (by decide), ?_⟩
        rw [ne_nilL, eb]
        exact q' _ _ ⟨by rw [eFr, eF]; cases (begunHand p.2[i]).isEmpty <;> rfl, s2.trans (sc.trans (s3.trans se))⟩
    obtain ⟨rfl, s2⟩ := hc
    have sg2 := sgT.trans s2
    have hL2 := s2 _ _ hLT
    have hA2 := hAT.keep (H' := G2) fun a l _ e => s2 _ _ e
    have hl := hA2.len
    have hsl : as.length = (startsUpTo p.2 i).length := by
      rw [hl]
      unfold foundOf
      rw [List.length_map]
    have few : as.length ≤ 1000 := by
      rw [hsl]
      have a2 := List.length_filter_le (startsLot p.2) (List.range i)
      rw [List.length_range] at a2
      show ((List.range i).filter (startsLot p.2)).length ≤ 1000
      omega
    clear hLT hAT sgT s2 nT sT
    refine ⟨_, rfl, L, _, rfl, SqL.of hL2, for_enumL (xs := as.map V.ref) (fun j σ G => ∃ z5 z6 z7 z8 z9, σ = [some (.ref va), some (.ref L), some (.int (i : Nat)), some (.ref ha), some (.bl (!isFree p.2 i)), some z5, z6, z7, z8, z9] ∧ Same G2 G ∧ PlaceIs p.2 i j z5)
      ⟨.non, _, _, _, _, rfl, (fun _ _ e => e), .inl ⟨rfl, fun t s ht => absurd ht (Nat.not_lt_zero t)⟩⟩ (fun j σ G3 hP => ?_) (fun j x T σ G3 hx2 hP nT => ?_) (fun σ G3 hP => ?_)⟩
    · obtain ⟨_, _, _, _, _, _, s3, _⟩ := hP
      exact SqL.of (s3 _ _ hL2)
    · obtain ⟨z5, z6, z7, z8, z9, rfl, s3, pl⟩ := hP
      rw [List.getElem?_map] at hx2
      obtain ⟨c, hc, rfl⟩ := Option.map_eq_some_iff.mp hx2
      obtain ⟨l, hl1, _, hl2, _⟩ := hA2.at hc
      unfold foundOf at hl1
      rw [List.getElem?_map] at hl1
      obtain ⟨s, hs1, rfl⟩ := Option.map_eq_some_iff.mp hl1
      have ms := mem_starts (List.mem_of_getElem? hs1)
      obtain ⟨r, er⟩ := part_head (show i ≤ p.2.length by omega) ms.1 ms.2
      have hsn : s < p.2.length := by omega
      have sT := same_new (o := .tup [.int (j : Nat), .ref c]) nT
      have sg3 := sg2.trans (s3.trans sT)
      have hcT := sT _ _ (s3 _ _ hl2)
      have s3T := s3.trans sT
      refine ⟨T, _, rfl, SqT.of upd_same, rfl, _, _, rfl, _, _, rfl, rfl, ?_⟩
      generalize upd G3 T (.tup [.int (j : Nat), .ref c]) = G4 at hcT sg3 s3T ⊢
      obtain ⟨hb, k1, k2, hbt, hhb, hbd, hk1, hk2⟩ := at_hand s hsn
      refine ⟨_, rfl, va, _, 1, _, rfl, rfl, same_tup sg3 hva, atI_nat (j := 1) rfl, ?_⟩
      refine ⟨_, rfl, c, _, 0, .int s, rfl, rfl, SqL.of hcT, ?_, xa, _, s, _, rfl, rfl, same_tup sg3 hxs, atI_nat hbt, ?_⟩
      · rw [er]
        exact atI_nat (j := 0) rfl
      have ej := joins_law hi hsn
      have eFs : isFirst p.2 s = !decide (p.2[s].1 ∈ begunOf p.2) := by
        unfold isFirst
        rw [List.getElem?_eq_getElem hsn]
      have es : PyData.eqv (tailD p.2[s]) (tailD p.2[i]) = sameTail p.2 s i := by
        unfold sameTail
        rw [List.getElem?_eq_getElem hsn, List.getElem?_eq_getElem hi]
      unfold gName tSeq tAsg
      dsimp only
      refine andV_by (fun b G5 => b = joins p.2 i s ∧ Same G4 G5) (fun Q' q' => ?_) (fun b G5 hb5 => ?_)
      · refine ⟨_, rfl, 1, rfl, ?_⟩
        unfold tNoPart
        refine sl_any (same_tup sg3 hhb) fun c1 K1 hc1 t1 => ⟨_, rfl, 1, rfl, ?_⟩
        refine sl_any (same_tup (sg3.trans t1) hha) fun c2 K2 hc2 t2 => ?_
        have dA : Dp K K2 (.ref c1) (tailD p.2[s]) := .tup (same_tup t2 hc1) (.cons (dp_same (sg3.trans (t1.trans t2)) _ _ hk1) (.cons (dp_same (sg3.trans (t1.trans t2)) _ _ hk2) .nil))
        have dB : Dp K K2 (.ref c2) (tailD p.2[i]) := .tup hc2 (.cons (dp_same (sg3.trans (t1.trans t2)) _ _ hg1) (.cons (dp_same (sg3.trans (t1.trans t2)) _ _ hg2) .nil))
        refine ⟨_, _, dA, dB, (tail_lay ok (List.getElem_mem hsn)).shaped (by decide), (tail_lay ok (List.getElem_mem hi)).shaped (by decide), _, rfl, ?_⟩
        have sg4 := sg3.trans (t1.trans t2)
        rw [es]
        cases e1 : sameTail p.2 s i with
        | false =>
          rw [if_neg Bool.false_ne_true]
          exact q' _ _ ⟨by rw [ej, e1]; rfl, t1.trans t2⟩
        | true =>
          rw [if_pos rfl]
          refine ⟨_, rfl, hb, _, 0, _, rfl, rfl, same_tup sg4 hhb, atI_nat (j := 0) rfl, ?_⟩
          refine ⟨_, rfl, va, _, 1, _, rfl, rfl, same_tup sg4 hva, atI_nat (j := 1) rfl, xa, xs, p.2, rfl, .inr (same_tup sg4 hxs), dpAll_same sg4 _ _ hall, bl, fun K3 o s5 no ho => ?_⟩
          refine ⟨o, _, rfl, .inl (SqL.of ho), rfl, flat_strs _, _, rfl, ?_⟩
          rw [if_pos rfl, in_strs, ← eFs]
          cases e2 : isFirst p.2 s with
          | false =>
            rw [if_neg Bool.false_ne_true]
            exact q' _ _ ⟨by rw [ej, e1, e2]; rfl, (t1.trans t2).trans s5⟩
          | true =>
            rw [if_pos rfl]
            refine ⟨_, rfl, _, rfl, ?_⟩
            exact q' _ _ ⟨by rw [ej, e1, e2]; simp, (t1.trans t2).trans s5⟩
      obtain ⟨rfl, s5⟩ := hb5
      have s6 := s3T.trans s5
      cases e3 : joins p.2 i s with
      | true =>
        refine ⟨_, rfl, _, rfl, iteT ⟨_, rfl, _, _, _, _, _, rfl, s6, .inr ⟨j, s, rfl, by omega, hs1, e3⟩⟩⟩
      | false =>
        refine ⟨_, rfl, _, rfl, iteF ⟨_, rfl, _, _, _, _, _, rfl, s6, place_no pl hs1 e3⟩⟩
    · obtain ⟨z5, z6, z7, z8, z9, rfl, s3, pl⟩ := hP
      rw [List.length_map, hsl] at pl
      have hL3 := s3 _ _ hL2
      have sg3 := sg2.trans s3
      have hA3 := hA2.keep (H' := G3) fun a l _ e => s3 _ _ e
      rcases place_end hi pl with ⟨rfl, st⟩ | ⟨t, s, rfl, ht, hj, st⟩
      · refine ⟨_, rfl, rfl, _, rfl, ?_⟩
        rw [decide_eq_true rfl]
        refine iteT ⟨_, rfl, .inl ⟨rfl, _, SqL.of hL3⟩, _, rfl, ?_⟩
        refine ⟨lz1, fun c nc => ?_⟩
        have sc := same_new (o := .lst [.int (i : Nat)]) nc
        have cL : c ≠ L := fun e => by
          rw [e, hL3] at nc
          cases nc
        have sgc := sg3.trans sc
        refine ⟨L, _, _, rfl, rfl, sc _ _ hL3, by rw [List.length_map]; exact LC.small_line (by omega), ?_⟩
        refine ⟨_, _, _, _, _, _, _, _, rfl, same_put sgc nL, as ++ [c], by rw [upd_same, List.map_append]; rfl, ?_⟩
        rw [found_new hi st]
        refine ((hA3.keep (H' := upd (upd G3 c (.lst [.int (i : Nat)])) L (.lst (as.map V.ref ++ [.ref c]))) fun a l ha2 e => ?_).snoc (same_none sg3 nc) cL ?_)
        · rw [upd_ne ha2]
          exact sc _ _ e
        · rw [upd_ne cL]
          exact upd_same
      · refine ⟨_, rfl, rfl, _, rfl, ?_⟩
        rw [decide_eq_false (fun z => by cases z)]
        refine iteF ?_
        obtain ⟨lt, et⟩ := List.getElem?_eq_some_iff.mp ht
        have ha3 : as[t]? = some (as[t]'(by omega)) := List.getElem?_eq_getElem (by omega)
        generalize as[t]'(by omega) = c at ha3
        obtain ⟨l, hl1, cL, hl2, nc0⟩ := hA3.at ha3
        unfold foundOf at hl1
        rw [List.getElem?_map, ht] at hl1
        cases hl1
        refine ⟨_, rfl, _, rfl, L, _, (t : Nat), _, rfl, rfl, SqL.of hL3, atI_nat (j := t) (by rw [List.getElem?_map, ha3]; rfl), ?_⟩
        refine ⟨_, rfl, lz1, fun n nn => ?_⟩
        have sn := same_new (o := .lst [.int (i : Nat)]) nn
        refine ⟨c, n, _, _, rfl, rfl, sn _ _ hl2, upd_same, ?_, fun e ne => ?_⟩
        · have pl1 : (partOf p.2 i s).length ≤ i + 1 := by
            unfold partOf
            split
            · refine Nat.le_trans (List.length_filter_le _ _) ?_
              rw [List.length_range]
              omega
            · split
              · show 1 ≤ _
                omega
              · show 0 ≤ _
                omega
          rw [List.length_map]
          exact Nat.le_of_lt (LC.small_line (by show (partOf p.2 i s).length + 1 ≤ _; omega))
        · have se := same_new (o := .lst (natV (partOf p.2 i s) ++ [.int (i : Nat)])) ne
          have hL5 := se _ _ (sn _ _ hL3)
          have sg5 := sg3.trans (sn.trans se)
          have eL : e ≠ L := fun z => by
            rw [z, sn _ _ hL3] at ne
            cases ne
          refine ⟨_, rfl, _, rfl, L, _, (t : Nat), t, rfl, rfl, hL5, ?_, ?_⟩
          · rw [List.length_map]
            exact ixN_at' (by omega)
          refine ⟨_, _, _, _, _, _, _, _, rfl, same_put sg5 nL, as.set t e, by rw [upd_same, List.map_set], ?_⟩
          rw [found_set hi st ht hj]
          refine LotsAt.put (same_none (sg3.trans sn) ne) eL ?_ (hA3.keep (H' := upd (upd (upd G3 n (.lst [.int (i : Nat)])) e (.lst (natV (partOf p.2 i s) ++ [.int (i : Nat)]))) L (.lst ((as.map V.ref).set t (.ref e)))) fun a l ha2 e2 => ?_)
          · rw [upd_ne eL, upd_same, natV_snoc]
          · rw [upd_ne ha2]
            exact se _ _ (sn _ _ e2)
  · obtain ⟨_, _, _, _, _, _, _, _, rfl, sg, as, hL, hA⟩ := hP
    refine ⟨_, rfl, q G L as sg nL hL ?_⟩
    rw [hxl, found_end] at hA
    exact hA
end
end PP

set_option maxHeartbeats 4000000
namespace PP
open PySem PySem.Spec PyProof.Rows L2 G3 G4 M0 PA EE QA HX SA
/-! a hand twice, by another name -/
theorem row_more {bs : List Box} {ts os os' : List Str} {n : Int} {r : PA.Row} (h : RowOk bs ts os n r) (m : ∀ z ∈ os, z ∈ os') : RowOk bs ts os' n r := by
  cases r with
  | begin b => exact m _ h
  | set b s => exact h
  | ift b v r => exact h
  | go rs => exact h
  | call t => exact h
  | back => exact h
  | wait b v => exact h
  | fault => exact h
theorem texts_more {bs : List Box} {os os' : List Str} {ts : List PA.Text} (h : TextsOk bs os ts) (m : ∀ z ∈ os, z ∈ os') : TextsOk bs os' ts :=
  ⟨h.one, h.few, h.nm, h.nd, fun t ht r hr => row_more (h.row t ht r hr) m⟩
/-- as an elder, by another name -/
def zHand (e : Hand) : Hand := ("hz", e.2)
def wHandsZ : List Str := ["ha", "hb", "hc", "hz"]
/-- a program asked about: its names, and how long it is -/
structure Short (p : Prog) : Prop where
  few : p.1.length ≤ 2
  box : ∀ b ∈ p.1, b.1 = ("s" : Str) ∨ b.1 = ("t" : Str)
  hands : p.2.length ≤ 3
  nm : ∀ h ∈ p.2, h.1 ∈ wHandsZ
  own : ∀ h ∈ p.2, h.2.1 = [] ∨ h.2.1 = ([("x", 2)] : List Box)
  txt : ∀ h ∈ p.2, ∀ t ∈ h.2.2, t.1 ∈ wTexts ∧ t.2.length ≤ 4
theorem hands_z {z : Str} (h : z ∈ wHands) : z ∈ wHandsZ ∧ z ≠ "hz" := by
  simp only [wHands, List.mem_cons, List.not_mem_nil, or_false] at h
  rcases h with rfl | rfl | rfl <;> exact ⟨by decide +kernel, by decide +kernel⟩
theorem Known.short {p : Prog} (k : Known p) (h : p.2.length ≤ 3) : Short p := ⟨k.few, k.box, h, fun g hg => (hands_z (k.nm g hg)).1, k.own, k.txt⟩
theorem twice_short {p : Prog} (k : Known p) {e : Hand} (he : e ∈ p.2) (h : p.2.length < 3) : Short (p.1, p.2 ++ [zHand e]) := by
  refine ⟨k.few, k.box, ?_, fun g hg => ?_, fun g hg => ?_, fun g hg => ?_⟩
  · show (p.2 ++ [zHand e]).length ≤ 3
    rw [List.length_append]
    exact h
  all_goals rcases List.mem_append.mp hg with z | z
  · exact (hands_z (k.nm g z)).1
  · rw [List.mem_singleton.mp z]
    show ("hz" : Str) ∈ wHandsZ
    decide +kernel
  · exact k.own g z
  · rw [List.mem_singleton.mp z]
    exact k.own e he
  · exact k.txt g z
  · rw [List.mem_singleton.mp z]
    exact k.txt e he
theorem twice_ok {p : Prog} (ok : ProgOk p) (k : Known p) {e : Hand} (he : e ∈ p.2) (h : p.2.length < 3) : ProgOk (p.1, p.2 ++ [zHand e]) := by
  have nz : ∀ z ∈ p.2.map (·.1), z ≠ ("hz" : Str) := fun z hz => by
    obtain ⟨g, hg, rfl⟩ := List.mem_map.mp hz
    exact (hands_z (k.nm g hg)).2
  have en : (p.2 ++ [zHand e]).map (·.1) = p.2.map (·.1) ++ [("hz" : Str)] := List.map_append
  refine ⟨ok.box, ?_, ?_, fun g hg => ?_, ?_, fun g hg => ?_, fun g hg => ?_⟩
  · show 1 ≤ (p.2 ++ [zHand e]).length
    rw [List.length_append]
    exact Nat.le_add_left _ _
  · show (p.2 ++ [zHand e]).length ≤ 4
    rw [List.length_append]
    exact Nat.le_succ_of_le h
  · rcases List.mem_append.mp hg with z | z
    · exact ok.nm g z
    · rw [List.mem_singleton.mp z]
      show nameB "hz" = true
      decide +kernel
  · show ((p.2 ++ [zHand e]).map (·.1)).Nodup
    rw [en, List.nodup_append]
    refine ⟨ok.nd, by decide +kernel, fun a ha b hb e2 => ?_⟩
    rw [List.mem_singleton.mp hb] at e2
    exact nz a ha e2
  · rcases List.mem_append.mp hg with z | z
    · exact ok.own g z
    · rw [List.mem_singleton.mp z]
      exact ok.own e he
  · show TextsOk (p.1 ++ g.2.1) (((p.2 ++ [zHand e]).map (·.1)).filter fun z => decide (z ≠ g.1)) g.2.2
    rw [en]
    rcases List.mem_append.mp hg with z | z
    · refine texts_more (ok.txt g z) fun x hx => ?_
      obtain ⟨h1, h2⟩ := List.mem_filter.mp hx
      exact List.mem_filter.mpr ⟨List.mem_append_left _ h1, h2⟩
    · rw [List.mem_singleton.mp z]
      refine texts_more (ok.txt e he) fun x hx => ?_
      obtain ⟨h1, h2⟩ := List.mem_filter.mp hx
      exact List.mem_filter.mpr ⟨List.mem_append_left _ h1, decide_eq_true (nz x h1)⟩
abbrev nTwice : List Str := ["_law_pool_here", "_law_prog", "_law_boxes", "_law_hands", "_law_elder"]
theorem scTwice : FnScope nTwice ["_law_pool_here", "_law_prog"] (defScope s_law_twice) := ⟨rfl, rfl, rfl, by decide +kernel, rfl, by decide +kernel, by decide +kernel⟩
section
variable {P : Program} {w : World} {K : PySem.W.Frag} {mg : Str → Option Value} {base : Heap}
def spTwice (K : PySem.W.Frag) : Sp := fun vs H Q _ => ∃ (p : Addr) (v : V) (pr : Prog), vs = [.ref p, v] ∧ Pool H p ∧ Dp K (off p H) v (progD pr) ∧ ProgOk pr ∧ Known pr ∧ pr.2.length ≤ 3 ∧
  ∀ (H' : Hp) (u : V) (pr' : Prog), Pool H' p → Same (off p H) (off p H') → Dp K (off p H') u (progD pr') → ProgOk pr' → Short pr' → Q u H'
set_option maxHeartbeats 8000000 in
theorem ok_twice {f : Addr} {fd : FuncData} {k : Nat} (F : Fun K "_law_twice" "_law_twice" s_law_twice f fd) (T : Def P w K mg base CX0 (k + 1) "_law_take" ["_law_pool_here", "_law_many"] spTake) (ml : mg "len" = none) :
    FnOk P w K mg base CX0 (k + 1 + 1) f fd ["_law_pool_here", "_law_prog"] (spTwice K) := by
  refine F.ok scTwice (fun vs H Q E h => ?_) (fun cdv A outer s H vs Q E hr h => ?_)
  · obtain ⟨p, v, pr, rfl, _⟩ := h
    rfl
  obtain ⟨p, v, pr, rfl, pl, hv, ok, kn, l3, q⟩ := h
  have nd := scTwice.nd
  refine ⟨_, pss_cons (ps_asg (pv 1) (pg_tup rfl (pgs_cons (pg_name (i := 2) nd rfl (.inl rfl)) (pgs_cons (pg_name (i := 3) nd rfl (.inl rfl)) pgs_nil))))
    (pss_cons (ps_if (PW.pt (pw_and (pt_cmpR op_lt (pe_callB call_len_seq (by rfl) ml PySem.boot_len (pa_cons (pv 3) pa_nil)) pe_int (nomark _)) (pw_and1 (pt_cmpR op_eq (pe_call T.ok hr (by rfl) T.g T.kp T.b .nil pass0 (pa_cons (pv 0) (pa_cons pe_int pa_nil))) pe_int (nomark _)))))
      (pss_cons (ps_set (i := 4) nd rfl (.inl rfl) (pe_ix ix_tup (pv 3) (pe_call T.ok hr (by rfl) T.g T.kp T.b .nil pass0 (pa_cons (pv 0) (pa_cons (pe_callB call_len_seq (by rfl) ml PySem.boot_len (pa_cons (pv 3) pa_nil)) pa_nil))) (fun _ _ => rfl)))
      (pss_one (ps_ret (pe_tup (pa_cons (pv 2) (pa_cons (pe_op op_catA (pv 3) (pe_tup (pa_cons (pe_op op_catA (pe_tup (pa_cons pe_str pa_nil)) (pe_slice (r := rSlA K) sl_tupA (pv 4) (po_some pe_int) po_none)) pa_nil))) pa_nil)))))) pss_nil)
    (pss_one (ps_ret (pv 1)))), ?_⟩
  obtain ⟨va, x1, x2, rfl, hva, d1, d2⟩ := dp2 hv
  obtain ⟨xa, xs, rfl, hxs, hall⟩ := dp_tup d2
  have hxl : xs.length = pr.2.length := by rw [dpAll_len hall, List.length_map]
  have one := ok.one
  refine ⟨_, rfl, va, _, rfl, same_tup off_sub hva, rfl, _, _, rfl, _, _, rfl, rfl, ?_⟩
  refine ⟨_, rfl, xa, xs, rfl, .inr (same_tup off_sub hxs), _, _, rfl, rfl, _, rfl, ite2 (fun e => ?_) (fun e => iteF ⟨_, rfl, q H _ pr pl (Same.refl _) hv ok (kn.short l3)⟩)⟩
  have lt := of_decide_eq_true e
  rw [hxl] at lt
  have lt' : pr.2.length < 3 := by omega
  refine ⟨_, rfl, p, 2, rfl, pl, by decide, by decide, fun H1 r pl1 o1 r0 r1 => ⟨rfl, _, rfl, ite2 (fun e2 => ?_) (fun e2 => ?_)⟩⟩
  · refine ⟨_, rfl, _, rfl, _, rfl, xa, xs, rfl, .inr (same_tup off_sub (o1 ▸ hxs)), p, _, rfl, pl1, by omega, by omega, fun H2 r2 pl2 o2 r20 r21 => ?_⟩
    rw [hxl] at r21
    have hi : r2.toNat < pr.2.length := by omega
    obtain ⟨z, hz, hzd⟩ := dpAll_getD hall (i := r2.toNat) (d := handD (pr.2[r2.toNat])) (by rw [List.getElem?_map, List.getElem?_eq_getElem hi]; rfl)
    have hat : atI xs r2 = some z := by
      have z2 := atI_nat (xs := xs) hz
      rwa [Int.toNat_of_nonneg r20] at z2
    have he : pr.2[r2.toNat] ∈ pr.2 := List.getElem_mem hi
    generalize pr.2[r2.toNat] = el at hzd he
    obtain ⟨ha, h0, h1, h2, rfl, hha, _, g1, g2⟩ := dp3 hzd
    have o12 : off p H2 = off p H := by rw [o2, o1]
    rw [← o12] at hva hxs hha
    refine ⟨xa, _, r2, _, rfl, rfl, same_tup off_sub hxs, hat, ?_⟩
    refine ⟨_, rfl, _, rfl, lz1, fun t1 n1 => ⟨_, rfl, 1, rfl, ?_⟩⟩
    have s1 := same_new (o := .tup [.str "hz"]) n1
    have ht1 : SqT K (upd H2 t1 (.tup [.str "hz"])) t1 [.str "hz"] := SqT.of upd_same
    generalize upd H2 t1 (.tup [.str "hz"]) = G1 at s1 ht1 ⊢
    unfold tNoPart
    refine sl_any (same_tup (s1) (same_tup off_sub hha)) fun c1 G2 hc1 s2 => ?_
    refine cat_two (same_tup s2 ht1) hc1 (by show 3 ≤ 1000; decide) fun c2 G3 hc2 s3 => ⟨lz1, fun t2 n2 => ?_⟩
    have s4 := same_new (o := .tup [.ref c2]) n2
    have ht2 : SqT K (upd G3 t2 (.tup [.ref c2])) t2 [.ref c2] := SqT.of upd_same
    generalize upd G3 t2 (.tup [.ref c2]) = G4 at s4 ht2 ⊢
    have s14 := s1.trans (s2.trans (s3.trans s4))
    refine cat_two (same_tup s14 (same_tup off_sub hxs)) ht2 (by rw [hxl]; show pr.2.length + 1 ≤ 1000; omega) fun c3 G5 hc3 s5 => ⟨lz2, fun t3 n3 => ?_⟩
    have s6 := same_new (o := .tup [x1, .ref c3]) n3
    have s16 := s14.trans (s5.trans s6)
    have hc3' := same_tup s6 hc3
    have ht3 : SqT K (upd G5 t3 (.tup [x1, .ref c3])) t3 [x1, .ref c3] := SqT.of upd_same
    have hc2' := same_tup (s4.trans (s5.trans s6)) hc2
    have pl6 := pool_same pl2 s16
    generalize upd G5 t3 (.tup [x1, .ref c3]) = G6 at s16 hc3' ht3 hc2' pl6 ⊢
    have tp : ∀ {a : Addr} {ys : List V}, SqT K G6 a ys → SqT K (off p G6) a ys := fun h => by
      obtain ⟨x, y, hp, _⟩ := pl6
      exact tup_hide hp h
    have sH : Same (off p H) (off p G6) := by
      rw [← o12]
      exact off_mono s16
    refine q G6 _ (pr.1, pr.2 ++ [zHand el]) pl6 sH ?_ (twice_ok ok kn he lt') (twice_short kn he lt')
    refine .tup (tp ht3) (.cons (dp_same sH _ _ d1) (.cons (.tup (tp hc3') ?_) .nil))
    rw [List.map_append]
    exact dpAll_app (dpAll_same sH _ _ hall) (.cons (.tup (tp hc2') (.cons (.str _) (.cons (dp_same sH _ _ g1) (.cons (dp_same sH _ _ g2) .nil)))) .nil)
  · exact ⟨_, rfl, q H1 _ pr pl1 (by rw [o1]; exact Same.refl _) (by rw [o1]; exact hv) ok (kn.short l3)⟩
end
end PP

set_option maxHeartbeats 4000000
namespace PP
open PySem PySem.Spec PyProof.Rows L2 G3 G4 M0 PA EE QA HX SA
/-! programs asked about are shown -/
/-- nice, and how large -/
structure NB (m : Nat) (d : PyData) : Prop where
  nc : nice d = true
  bk : d.bulk ≤ m
theorem NB.up {m n : Nat} {d : PyData} (h : NB m d) (a : m ≤ n) : NB n d := ⟨h.nc, Nat.le_trans h.bk a⟩
theorem NB.tup {m n : Nat} {ds : List PyData} (h : ∀ d ∈ ds, NB m d) (hn : ds.length ≤ n) : NB ((m + 1) * n) (.tuple ds) := ⟨nice_tuple fun x hx => (h x hx).nc, bulk_tuple (fun x hx => (h x hx).bk) hn⟩
theorem NB.lst {m n : Nat} {ds : List PyData} (h : ∀ d ∈ ds, NB m d) (hn : ds.length ≤ n) : NB ((m + 1) * n) (.list ds) := ⟨nice_list fun x hx => (h x hx).nc, bulk_list (fun x hx => (h x hx).bk) hn⟩
theorem nb_int {i : Int} (h : -100 ≤ i) (h2 : i < 100) : NB 5 (.int i) := ⟨nice_int h h2, by simp only [PyData.bulk]; decide⟩
theorem nb_str {z : Str} (h : (nice (.str z) && decide ((PyData.str z).bulk ≤ 5)) = true) : NB 5 (.str z) := by
  rw [Bool.and_eq_true, decide_eq_true_eq] at h
  exact ⟨h.1, h.2⟩
theorem words_nice : ([("set" : Str), "to", "of", "on", "any", "if", "go", "call", "back", "wait", "begin", "fault", "told", "hand", "point", "s", "t", "x", "main", "sub", "ha", "hb", "hc", "hz"].all fun z => nice (.str z) && decide ((PyData.str z).bulk ≤ 5)) = true := by decide +kernel
theorem word_nice {z : Str} (h : z ∈ [("set" : Str), "to", "of", "on", "any", "if", "go", "call", "back", "wait", "begin", "fault", "told", "hand", "point", "s", "t", "x", "main", "sub", "ha", "hb", "hc", "hz"]) : NB 5 (.str z) := nb_str (List.all_eq_true.mp words_nice z h)
theorem mem2 {ds : List PyData} {a b : PyData} {m : Nat} (e : ds = [a, b]) (ha : NB m a) (hb : NB m b) : ∀ d ∈ ds, NB m d := fun d hd => by
  rw [e] at hd
  rcases List.mem_cons.mp hd with rfl | hd
  · exact ha
  · rw [List.mem_singleton.mp hd]
    exact hb
theorem nb1 {m : Nat} {a : PyData} (ha : NB m a) : ∀ d ∈ [a], NB m d := fun d hd => by
  rw [List.mem_singleton.mp hd]
  exact ha
theorem nb2 {m : Nat} {a b : PyData} (ha : NB m a) (hb : NB m b) : ∀ d ∈ [a, b], NB m d := mem2 rfl ha hb
theorem nb3 {m : Nat} {a b c : PyData} (ha : NB m a) (hb : NB m b) (hc : NB m c) : ∀ d ∈ [a, b, c], NB m d := fun d hd => by
  rcases List.mem_cons.mp hd with rfl | hd
  · exact ha
  · exact nb2 hb hc d hd
theorem nb4 {m : Nat} {a b c e : PyData} (ha : NB m a) (hb : NB m b) (hc : NB m c) (he : NB m e) : ∀ d ∈ [a, b, c, e], NB m d := fun d hd => by
  rcases List.mem_cons.mp hd with rfl | hd
  · exact ha
  · exact nb3 hb hc he d hd
theorem size_le {bs : List Box} {b : Str} {n : Int} (h : size? bs b = some n) (hb : ∀ x ∈ bs, x.2 ≤ 8) : n ≤ 8 := by
  unfold size? at h
  obtain ⟨x, hx, e⟩ := Option.map_eq_some_iff.mp h
  rw [← e]
  exact hb x (List.mem_of_find?_eq_some hx)
theorem row_nice {bs : List Box} {ts os : List Str} {n : Int} {r : PA.Row} (ok : RowOk bs ts os n r) (n4 : n ≤ 4) (hb : ∀ x ∈ bs, NB 5 (.str x.1) ∧ x.2 ≤ 8) (ht : ∀ x ∈ ts, NB 5 (.str x)) (ho : ∀ x ∈ os, NB 5 (.str x)) : NB 100 r.data := by
  have nm : ∀ {b : Str} {n : Int}, size? bs b = some n → NB 5 (.str b) := fun h => by
    obtain ⟨x, hx, rfl⟩ := size_in h
    exact (hb x hx).1
  have sz : ∀ {b : Str} {n : Int}, size? bs b = some n → n ≤ 8 := fun h => size_le h fun x hx => (hb x hx).2
  have w : ∀ z ∈ [("set" : Str), "to", "of", "on", "any", "if", "go", "call", "back", "wait", "begin", "fault", "told", "hand", "point", "s", "t", "x", "main", "sub", "ha", "hb", "hc", "hz"], NB 5 (.str z) := fun z h => word_nice h
  simp only [List.forall_mem_cons] at w
  obtain ⟨wset, wto, wof, won, wany, wif, wgo, wcall, wback, wwait, wbegin, wfault, _⟩ := w
  cases r with
  | set b s =>
    obtain ⟨n, hn, hs⟩ := ok
    have h8 := sz hn
    have src : NB 16 s.data := by
      cases s with
      | to k =>
        obtain ⟨a1, a2⟩ := hs
        exact (NB.tup (n := 2) (nb2 wto (nb_int (by omega) (by omega))) (Nat.le_refl _)).up (by decide)
      | of o =>
        obtain ⟨_, m, hm, _⟩ := hs
        exact (NB.tup (n := 2) (nb2 wof (nm hm)) (Nat.le_refl _)).up (by decide)
      | on k =>
        obtain ⟨a1, a2⟩ := hs
        exact (NB.tup (n := 2) (nb2 won (nb_int (by omega) (by omega))) (Nat.le_refl _)).up (by decide)
      | any => exact (NB.tup (n := 1) (nb1 wany) (Nat.le_refl _)).up (by decide)
    exact (NB.tup (n := 3) (nb3 (wset.up (by decide)) ((nm hn).up (by decide)) src) (Nat.le_refl _)).up (by decide)
  | ift b v r =>
    obtain ⟨n, hn, a1, a2, a3, a4⟩ := ok
    have h8 := sz hn
    exact (NB.tup (n := 4) (nb4 wif (nm hn) (nb_int (by omega) (by omega)) (nb_int (by omega) (by omega))) (Nat.le_refl _)).up (by decide)
  | go rs =>
    obtain ⟨_, l4, ri, le⟩ := ok
    have low : ∀ (rs : List Int) (a : Int), -1 ≤ a → Rising a rs → ∀ x ∈ rs, 0 ≤ x := by
      intro rs
      induction rs with
      | nil => intro a _ _ x hx; cases hx
      | cons y ys ih =>
        rintro a ha ⟨h1, h2⟩ x hx
        rcases List.mem_cons.mp hx with rfl | hx
        · omega
        · exact ih y (by omega) h2 x hx
    have all : NB ((5 + 1) * 4) (.tuple (rs.map PyData.int)) := NB.tup (fun d hd => by
      obtain ⟨i, hi, rfl⟩ := List.mem_map.mp hd
      have a1 := low rs (-1) (by omega) ri i hi
      have a2 := le i hi
      exact nb_int (by omega) (by omega)) (by rw [List.length_map]; exact l4)
    exact (NB.tup (n := 2) (nb2 (wgo.up (by decide)) all) (Nat.le_refl _)).up (by decide)
  | call t => exact (NB.tup (n := 2) (nb2 wcall (ht t ok)) (Nat.le_refl _)).up (by decide)
  | back => exact (NB.tup (n := 1) (nb1 wback) (Nat.le_refl _)).up (by decide)
  | wait b v =>
    obtain ⟨n, hn, a1, a2⟩ := ok
    have h8 := sz hn
    exact (NB.tup (n := 3) (nb3 wwait (nm hn) (nb_int (by omega) (by omega))) (Nat.le_refl _)).up (by decide)
  | begin b => exact (NB.tup (n := 2) (nb2 wbegin (ho b ok)) (Nat.le_refl _)).up (by decide)
  | fault => exact (NB.tup (n := 1) (nb1 wfault) (Nat.le_refl _)).up (by decide)
theorem hands_nice {z : Str} (h : z ∈ wHandsZ) : NB 5 (.str z) := by
  simp only [wHandsZ, List.mem_cons, List.not_mem_nil, or_false] at h
  rcases h with rfl | rfl | rfl | rfl <;> exact word_nice (by simp)
theorem titles_nice {z : Str} (h : z ∈ wTexts) : NB 5 (.str z) := by
  simp only [wTexts, List.mem_cons, List.not_mem_nil, or_false] at h
  rcases h with rfl | rfl <;> exact word_nice (by simp)
theorem Short.boxes {p : Prog} (ok : ProgOk p) (sh : Short p) {h : Hand} (hh : h ∈ p.2) : ∀ x ∈ p.1 ++ h.2.1, NB 5 (.str x.1) ∧ 1 ≤ x.2 ∧ x.2 ≤ 8 := fun x hx => by
  rcases List.mem_append.mp hx with z | z
  · obtain ⟨_, a1, a2, _⟩ := ok.box.nm x z
    refine ⟨?_, a1, by omega⟩
    rcases sh.box x z with e | e <;> rw [e] <;> exact word_nice (by simp)
  · obtain ⟨_, a1, a2, _⟩ := (ok.own h hh).nm x z
    refine ⟨?_, a1, a2⟩
    rcases sh.own h hh with e | e
    · rw [e] at z
      cases z
    · rw [e] at z
      rw [List.mem_singleton.mp z]
      exact word_nice (by simp)
theorem Short.row {p : Prog} (ok : ProgOk p) (sh : Short p) {h : Hand} (hh : h ∈ p.2) {t : PA.Text} (ht : t ∈ h.2.2) {r : PA.Row} (hr : r ∈ t.2) : NB 100 r.data :=
  row_nice ((ok.txt h hh).row t ht r hr) (by have := (sh.txt h hh t ht).2; omega) (fun x hx => ⟨(sh.boxes ok hh x hx).1, (sh.boxes ok hh x hx).2.2⟩) (fun x hx => by
    obtain ⟨g, hg, rfl⟩ := List.mem_map.mp hx
    exact titles_nice (sh.txt h hh g hg).1) fun x hx => by
    obtain ⟨g, hg, rfl⟩ := List.mem_map.mp (List.mem_filter.mp hx).1
    exact hands_nice (sh.nm g hg)
theorem boxes_nb {bs : List Box} {m : Nat} (h : ∀ x ∈ bs, NB 5 (.str x.1) ∧ 1 ≤ x.2 ∧ x.2 ≤ 8) (l : bs.length ≤ m) : NB (13 * m) (boxesD bs) := NB.tup (fun d hd => by
  obtain ⟨x, hx, rfl⟩ := List.mem_map.mp hd
  obtain ⟨a, b, c⟩ := h x hx
  exact (NB.tup (n := 2) (nb2 a (nb_int (by omega) (by omega))) (Nat.le_refl _)).up (by decide)) (by rw [List.length_map]; exact l)
theorem Short.nice {p : Prog} (ok : ProgOk p) (sh : Short p) : NB 1000000 (progD p) := by
  have hbx : NB 1000 (boxesD p.1) := by
    obtain ⟨h, hh⟩ : ∃ h, h ∈ p.2 := by
      have := ok.one
      exact ⟨p.2[0]'(by omega), List.getElem_mem _⟩
    exact (boxes_nb (m := 2) (fun x hx => sh.boxes ok hh x (List.mem_append_left _ hx)) sh.few).up (by decide)
  have hand : ∀ h ∈ p.2, NB 79000 (handD h) := fun h hh => by
    have h1 : NB 20 (boxesD h.2.1) := (boxes_nb (m := 1) (fun x hx => sh.boxes ok hh x (List.mem_append_right _ hx)) (by rcases sh.own h hh with e | e <;> rw [e] <;> decide)).up (by decide)
    have h2 : NB 26000 (.tuple (h.2.2.map textD)) := by
      refine (NB.tup (m := 810) (n := 32) (fun d hd => ?_) (by rw [List.length_map]; exact (ok.txt h hh).few)).up (by decide)
      obtain ⟨t, ht, rfl⟩ := List.mem_map.mp hd
      obtain ⟨w1, w2⟩ := sh.txt h hh t ht
      have rows : NB ((100 + 1) * 4) (rowsD t.2) := NB.tup (fun d hd => by
        obtain ⟨r, hr, rfl⟩ := List.mem_map.mp hd
        exact sh.row ok hh ht hr) (by rw [List.length_map]; exact w2)
      exact (NB.tup (n := 2) (nb2 ((titles_nice w1).up (by decide)) (rows.up (by decide : _ ≤ 404))) (Nat.le_refl _)).up (by decide)
    exact (NB.tup (n := 3) (nb3 ((hands_nice (sh.nm h hh)).up (by decide)) (h1.up (by decide)) h2) (Nat.le_refl _)).up (by decide)
  have hands : NB 240000 (.tuple (p.2.map handD)) := (NB.tup (fun d hd => by
    obtain ⟨h, hh, rfl⟩ := List.mem_map.mp hd
    exact hand h hh) (by rw [List.length_map]; exact sh.hands)).up (by decide)
  exact (NB.tup (n := 2) (nb2 (hbx.up (by decide)) hands) (Nat.le_refl _)).up (by decide)
end PP

set_option maxHeartbeats 4000000
/-! try: .. except A as n: .. except B as n: .. -/
namespace T2
open PySem PySem.Spec PyProof.Rows L2 E2 E3 E4 E5 E7 E8 E9 EB EC
/-- one of two handlers, both with the same name; nothing else is raised -/
def wTwo (K : PySem.W.Frag) (c1 c2 : Value) (i : Nat) (t1 t2 : Addr → Value → Option Addr → TS) (D : Ends) : WX := fun cls d σ H =>
  ∃ b, PySem.W.exmOne K cls c1 = some b ∧
    (b = true → ∀ a, H a = none → t1 a cls d { nx := fun σ' H' => D.nx (σ'.set i none) H', rt := D.rt, bk := fun _ _ => False, ct := fun _ _ => False } (σ.set i (some (.ref a))) H) ∧
    (b = false → PySem.W.exmOne K cls c2 = some true ∧ ∀ a, H a = none → t2 a cls d { nx := fun σ' H' => D.nx (σ'.set i none) H', rt := D.rt, bk := fun _ _ => False, ct := fun _ _ => False } (σ.set i (some (.ref a))) H)
section
variable {X : Cx} {x1 x2 n : Str} {c1 c2 : Value} {i : Nat} {body suite1 suite2 : List Stmt} {b1 b2 : Stmt} {np1 np2 pos pos1 pos2 : Pos} {tb : WX → TS} {t1 t2 : Addr → Value → Option Addr → TS}
theorem ps_try_two (hs : X.stack = X.env :: X.outer) (hf : X.env.frame = some X.env.locals) (hN : X.N.Nodup) (hi : X.N[i]? = some n) (hln : X.env.kindOf n = some .local) (hc1 : Names X x1 c1) (hc2 : Names X x2 c2) (hx : X.ex = [])
    (hb : ∀ (W : WX) (pn : List (Addr × Obj)) (xe : Value → Shared → Prop), Takes (X.tr pn xe) W → PassesOwn (model X.prog X.w) X.A X.env xe → PSs (X.tr pn xe) body (tb W))
    (hs1 : ∀ (a : Addr) (oe : Obj) (cls : Value) (d : Option Addr) (pn : List (Addr × Obj)), Zc cls d oe → (∃ vs, oe.data = .fields vs) → PSs (X.suite a ((a, oe) :: pn)) (b1 :: suite1) (t1 a cls d))
    (hs2 : ∀ (a : Addr) (oe : Obj) (cls : Value) (d : Option Addr) (pn : List (Addr × Obj)), Zc cls d oe → (∃ vs, oe.data = .fields vs) → PSs (X.suite a ((a, oe) :: pn)) (b2 :: suite2) (t2 a cls d)) :
    PS X (.Try body [.ExceptHandler (some (.Name x1 np1)) (some n) (b1 :: suite1) pos1, .ExceptHandler (some (.Name x2 np2)) (some n) (b2 :: suite2) pos2] [] [] pos) (fun D σ H => tb (wTwo X.K c1 c2 i t1 t2 D) D σ H) := by
  refine ⟨fun pins s σ H D I hyp => ?_⟩
  have ok := I.ok
  have frm : X.A.frames = some (X.env :: X.outer) := by rw [ok.frames, hs]
  refine wpAny_Try_except ?_
  have run := hb (wTwo X.K c1 c2 i t1 t2 D) (X.pn ++ pins) (fun e s1 => wpAny (model X.prog X.w) X.A (noteFrame e X.env) (fun _ s2 => wpAny (model X.prog X.w) X.A (setFlight e none)
    (fun _ s3 => wpAny (model X.prog X.w) X.A (handleBy e X.env [.ExceptHandler (some (.Name x1 np1)) (some n) (b1 :: suite1) pos1, .ExceptHandler (some (.Name x2 np2)) (some n) (b2 :: suite2) pos2]) (SP X pins D) X.xe s3) X.xe s2) X.xe s1)
  refine wpAny_mono ((run (fun u s' xx => ?_) PassesOwn.looking).run [] s σ H D (I.toTry _) hyp) (fun fl s1 sp => ?_) (fun e s1 he => he)
  · obtain ⟨a, B, sI, pins', σ', H', cls, d, rfl, J', nb, up, sky, na, os, ag, b, hb1, yes, no⟩ := xx
    have J : Inv X pins σ' H' sI := J'.ofTry ok
    have sky2 : Sky B (X.env :: X.outer) a (Zc cls d) X.env.locals s'.heap := by rw [← hs]; exact sky
    show wpAny (model X.prog X.w) X.A (noteFrame (.ref a) X.env) _ _ _
    refine Sky.land Zc.steady frm hf sky2 fun h3 fl3 up3 => ?_
    have J3 : Inv X pins σ' H' { s' with heap := h3 } := J.landed nb fl3.1 (up.trans up3) os ag
    obtain ⟨oe3, vs3, at3, z3, d3⟩ := fl3.there
    have nfr : a ∉ frs (X.env :: X.outer) := fun hm => by
      obtain ⟨_, o', e', nf⟩ := fl3.2.2.1.mem hm
      rw [at3] at e'
      cases e'
      exact nf _ d3
    have gone : sI.heap.get? a = none := by
      cases q : sI.heap.get? a with
      | none => rfl
      | some o =>
        have z := nb a o q (by rw [show (frs X.stack) = frs (X.env :: X.outer) by rw [hs]]; exact nfr)
        rw [fl3.2.1] at z
        cases z
    have Fr := fresh_of J gone hx
    have nF : a ∉ X.fs := fun hm => by
      obtain ⟨e, he, q⟩ := List.mem_filterMap.mp hm
      exact nfr (List.mem_filterMap.mpr ⟨e, List.mem_cons_of_mem _ he, q⟩)
    have S3 := J3.suite at3 d3 na (fun e => Fr.nL e.symm) nF
    refine wpAny_handleBy_cons (codeAny_handlers_test ?_) (by intro q; cases q)
    have LT : PySem.W.Looks (model X.prog X.w) h3 (typeOf (.ref a)) cls := fun A Q E s k q => wpAny_typeOf_ref (k _ _ at3) (by rw [z3.1]; exact q)
    have LM := PySem.W.exm_one (M := model X.prog X.w) (J3.kIn) LT hb1
    have test : ∀ {x : Str} {c : Value} {np : Pos}, Names X x c → ∀ {Q : Value → Shared → Prop} {E : Value → Shared → Prop}, Q c { s' with heap := h3 } → wpAny (model X.prog X.w) (X.A.mark (some (.ref a))) (eval (.Name x np) X.env) Q E { s' with heap := h3 } := by
      intro x c np hc Q E q
      obtain ⟨hg, hdbg, hm | ⟨hm, hv, hnn⟩⟩ := hc
      · exact ld_glob (X := X.suite a ((a, oe3) :: (X.pn ++ pins))) S3 hg hm q hdbg
      · exact ld_blt (X := X.suite a ((a, oe3) :: (X.pn ++ pins))) S3 hg hm hv q hnn hdbg
    refine test hc1 (LM.here ?_)
    cases b with
    | false =>
      obtain ⟨hb2, yes2⟩ := no rfl
      show wpAny (model X.prog X.w) X.A (handleBy (.ref a) X.env [.ExceptHandler (some (.Name x2 np2)) (some n) (b2 :: suite2) pos2]) (SP X pins D) X.xe _
      refine wpAny_handleBy_cons (codeAny_handlers_test ?_) (by intro q; cases q)
      have LM2 := PySem.W.exm_one (M := model X.prog X.w) (J3.kIn) LT hb2
      refine test hc2 (LM2.here ?_)
      refine codeAny_handlers_suite_as (HandSPX.lands_againZ fl3 fun h4 fl4 up4 => ?_)
      have J4 : Inv X pins σ' H' { s' with heap := h4 } := J.landed nb fl4.1 ((up.trans up3).trans up4) os ag
      obtain ⟨oe4, vs4, at4, z4, d4⟩ := fl4.there
      have S4 := J4.suite at4 d4 na (fun e => Fr.nL e.symm) nF
      refine store_ok (X := X.suite a ((a, oe4) :: (X.pn ++ pins))) (v := .ref a) S4 hN hi (.inl hln) rfl (fun s5 S5 => ?_) (.inr hln)
      refine wpAny_mono ((hs2 a oe4 cls d (X.pn ++ pins) z4 ⟨_, d4⟩).run [] s5 _ H' _ S5 (yes2 a na)) (fun fl s6 sp => ?_) (fun _ _ z => False.elim z)
      cases fl with
      | next =>
        obtain ⟨σ6, H6, S6, q6⟩ := sp
        exact gone_ok (S6.unsuite ok) hN hi hln fun s7 J7 => ⟨_, _, J7, q6⟩
      | brk =>
        obtain ⟨_, _, _, q⟩ := sp
        exact q.elim
      | cont =>
        obtain ⟨_, _, _, q⟩ := sp
        exact q.elim
      | ret u =>
        obtain ⟨v, σ6, H6, S6, r, q⟩ := sp
        exact gone_ok (S6.unsuite ok) hN hi hln fun s7 J7 => ⟨v, _, _, J7, r, q⟩
    | true =>
      refine codeAny_handlers_suite_as (HandSPX.lands_againZ fl3 fun h4 fl4 up4 => ?_)
      have J4 : Inv X pins σ' H' { s' with heap := h4 } := J.landed nb fl4.1 ((up.trans up3).trans up4) os ag
      obtain ⟨oe4, vs4, at4, z4, d4⟩ := fl4.there
      have S4 := J4.suite at4 d4 na (fun e => Fr.nL e.symm) nF
      refine store_ok (X := X.suite a ((a, oe4) :: (X.pn ++ pins))) (v := .ref a) S4 hN hi (.inl hln) rfl (fun s5 S5 => ?_) (.inr hln)
      refine wpAny_mono ((hs1 a oe4 cls d (X.pn ++ pins) z4 ⟨_, d4⟩).run [] s5 _ H' _ S5 (yes rfl a na)) (fun fl s6 sp => ?_) (fun _ _ z => False.elim z)
      cases fl with
      | next =>
        obtain ⟨σ6, H6, S6, q6⟩ := sp
        exact gone_ok (S6.unsuite ok) hN hi hln fun s7 J7 => ⟨_, _, J7, q6⟩
      | brk =>
        obtain ⟨_, _, _, q⟩ := sp
        exact q.elim
      | cont =>
        obtain ⟨_, _, _, q⟩ := sp
        exact q.elim
      | ret u =>
        obtain ⟨v, σ6, H6, S6, r, q⟩ := sp
        exact gone_ok (S6.unsuite ok) hN hi hln fun s7 J7 => ⟨v, _, _, J7, r, q⟩
  · cases fl with
    | next =>
      obtain ⟨σ', H', J', q⟩ := sp
      exact wpAny_execs_nil ⟨σ', H', J'.ofTry ok, q⟩
    | brk =>
      obtain ⟨σ', H', J', q⟩ := sp
      exact ⟨σ', H', J'.ofTry ok, q⟩
    | cont =>
      obtain ⟨σ', H', J', q⟩ := sp
      exact ⟨σ', H', J'.ofTry ok, q⟩
    | ret u =>
      obtain ⟨v, σ', H', J', r, q⟩ := sp
      exact ⟨v, σ', H', J'.ofTry ok, r, q⟩
end
end T2

set_option maxHeartbeats 4000000
namespace PP
open PySem PySem.Spec PyProof.Rows L2 G0 G3 G4 G5 M0 PA EE QA HX SA T2
/-! what row_at answers, told -/
def ShowOk (d : PyData) : Prop := d.showable = true ∧ d.depth ≤ 60 ∧ d.shown.length ≤ sizeLine
theorem nb_show {m : Nat} {d : PyData} (h : NB m d) (hm : m ≤ 2 ^ 20) (hd : d.depth ≤ 60) : ShowOk d := ⟨nice_show h.nc, hd, nice_fits h.nc (Nat.le_trans h.bk hm)⟩
/-- what may be put in -/
structure Asked (d : PyData) : Prop where
  fit : Fit d
  one : ShowOk d
  hand : ShowOk (.list [.str "hand", .str d.shown])
  point : ShowOk (.list [.str "point", .str d.shown])
def askedB (d : PyData) : Bool := d.canLay0 && (decide (d.depth ≤ 20) && (decide (d.bulk ≤ 1000) && (d.showable && (decide (d.shown.length ≤ 1000) && ((PyData.list [.str "hand", .str d.shown]).showable && (decide ((PyData.list [.str "hand", .str d.shown]).shown.length ≤ 1000) && ((PyData.list [.str "point", .str d.shown]).showable && decide ((PyData.list [.str "point", .str d.shown]).shown.length ≤ 1000))))))))
theorem asked_of {d : PyData} (h : askedB d = true) : Asked d := by
  unfold askedB at h
  simp only [Bool.and_eq_true, decide_eq_true_eq] at h
  obtain ⟨h1, h2, h3, h4, h5, h6, h7, h8, h9⟩ := h
  have sl : 1000 ≤ sizeLine := by decide
  have two : ∀ a b : Str, (PyData.list [.str a, .str b]).depth ≤ 60 := fun a b => by
    simp [PyData.depth, PyData.depthAll]
  exact ⟨⟨h1, h2, Nat.le_trans h3 (by decide)⟩, ⟨h4, Nat.le_trans h2 (by decide), Nat.le_trans h5 sl⟩, ⟨h6, two _ _, Nat.le_trans h7 sl⟩, ⟨h8, two _ _, Nat.le_trans h9 sl⟩⟩
def ansD (p : Prog) (d e : PyData) : PyData := match mHand p.2.length d with
  | false => .list [.str "hand", .str d.shown]
  | true => match d with
    | .int i => match p.2[i.toNat]? with
      | some h => match mPoint h.2.2 e with
        | false => .list [.str "point", .str e.shown]
        | true => match e with
          | .tuple [.int a, .int b] => .list [.str "told", (rowAt h.2.2 a b).data]
          | _ => .none
      | none => .none
    | _ => .none
theorem ans_hand {p : Prog} {d e : PyData} (h : mHand p.2.length d = false) : ansD p d e = .list [.str "hand", .str d.shown] := by
  unfold ansD
  rw [h]
theorem ans_point {p : Prog} {i : Int} {h : Hand} {e : PyData} (h1 : mHand p.2.length (.int i) = true) (h2 : p.2[i.toNat]? = some h) (h3 : mPoint h.2.2 e = false) : ansD p (.int i) e = .list [.str "point", .str e.shown] := by
  unfold ansD
  rw [h1]
  simp only [h2, h3]
theorem ans_told {p : Prog} {i a b : Int} {h : Hand} (h1 : mHand p.2.length (.int i) = true) (h2 : p.2[i.toNat]? = some h) (h3 : mPoint h.2.2 (.tuple [.int a, .int b]) = true) : ansD p (.int i) (.tuple [.int a, .int b]) = .list [.str "told", (rowAt h.2.2 a b).data] := by
  unfold ansD
  rw [h1]
  simp only [h2, h3]
theorem hand_yes {p : Prog} {i : Int} {h : Hand} (i0 : 0 ≤ i) (hi : p.2[i.toNat]? = some h) : mHand p.2.length (.int i) = true := by
  have := (List.getElem?_eq_some_iff.mp hi).1
  show (decide (0 ≤ i) && decide (i < (p.2.length : Int))) = true
  rw [decide_eq_true i0, decide_eq_true (by omega)]
  rfl
theorem point_yes {ts : List PA.Text} {a b : Int} {t : PA.Text} (a0 : 0 ≤ a) (ha : ts[a.toNat]? = some t) (b0 : 0 ≤ b) (hb : b ≤ t.2.length) : mPoint ts (.tuple [.int a, .int b]) = true := by
  have := (List.getElem?_eq_some_iff.mp ha).1
  have er : rowsIn ts (.int a) = t.2.length := by
    unfold rowsIn
    simp only [ha]
  show (mBetween 0 ((ts.length : Int) - 1) (.int a) && mBetween 0 (rowsIn ts (.int a)) (.int b)) = true
  rw [er]
  show ((decide (0 ≤ a) && decide (a ≤ (ts.length : Int) - 1)) && (decide (0 ≤ b) && decide (b ≤ (t.2.length : Int)))) = true
  rw [decide_eq_true a0, decide_eq_true b0, decide_eq_true hb, decide_eq_true (by omega)]
  rfl
abbrev nTold : List Str := ["_law_prog", "_law_who", "_law_spot", "e"]
theorem scTold : FnScope nTold ["_law_prog", "_law_who", "_law_spot"] (defScope s_law_told) := ⟨rfl, rfl, rfl, by decide +kernel, rfl, by decide +kernel, by decide +kernel⟩
section
variable {P : Program} {w : World} {K : PySem.W.Frag} {mg : Str → Option Value} {base : Heap}
def spAns (K : PySem.W.Frag) : Sp := fun vs H Q _ => ∃ (v x y : V) (p : Prog) (d e : PyData), vs = [v, x, y] ∧ Dp K H v (progD p) ∧ ProgOk p ∧ Dp K H x d ∧ Dp K H y e ∧ Asked d ∧ Asked e ∧
  ∀ (H' : Hp) (u : V), Same H H' → Dp K H' u (ansD p d e) → Q u H'
set_option maxHeartbeats 8000000 in
theorem ok_told {f : Addr} {fd : FuncData} (F : Fun K "_law_told" "_law_told" s_law_told f fd) (SH : Err P w K mg base "NoHand" ["hand"]) (SP : Err P w K mg base "NoPoint" ["point"]) {k : Nat} (R : Def P w K mg base (L2.CX P w) (k + 2) "row_at" ["program", "hand", "point"] (spRowAt K SH.C SP.C))
    (mr : mg "repr" = none) (e1 : PySem.W.exmOne K (.ref SH.C) (.ref SH.C) = some true) (e2 : PySem.W.exmOne K (.ref SP.C) (.ref SH.C) = some false) (e3 : PySem.W.exmOne K (.ref SP.C) (.ref SP.C) = some true) :
    FnG P w K mg base CX0 (k + 2 + 1) f fd ["_law_prog", "_law_who", "_law_spot"] (spAns K) := by
  refine body_of0 F scTold (fun vs H Q E h => ?_) (fun cdv A outer s H vs Q E gu hr h => ?_)
  · obtain ⟨v, x, y, p, d, e, rfl, _⟩ := h
    rfl
  obtain ⟨v, x, y, p, d, e, rfl, hv, ok, hd, he, ad, ae, q⟩ := h
  have nd := scTold.nd
  refine ⟨_, pss_one (ps_try_two (i := 3) (c1 := .ref SH.C) (c2 := .ref SP.C) (tb := fun W => tRet (tLst (tCons (tC (.str "told")) (tCons (tCallS (spRowAt K SH.C SP.C) (WE W) (tCons (tVar 0) (tCons (tVar 1) (tCons (tVar 2) tNil)))) tNil))))
      (t1 := fun a cls d => tRet (tLst (tCons (tC (.str "hand")) (tCons (tCB (rRepr K) (tCons (tByE SH.C a cls d "hand" (tVar 3)) tNil)) tNil))))
      (t2 := fun a cls d => tRet (tLst (tCons (tC (.str "point")) (tCons (tCB (rRepr K) (tCons (tByE SP.C a cls d "point" (tVar 3)) tNil)) tNil))))
      rfl rfl nd rfl rfl ⟨by rfl, by decide, .inl SH.g⟩ ⟨by rfl, by decide, .inl SP.g⟩ rfl
      (fun W pn xe tk po => pss_one (ps_ret (pe_lst (pa_cons pe_str (pa_cons (pe_callS R.ok hr (by rfl) R.g R.kp R.b (fun σ => passAt tk σ) (pa_cons (pv 0) (pa_cons (pv 1) (pa_cons (pv 2) pa_nil)))) pa_nil)))))
      (fun a oe cls d pn hz hf => pss_one (ps_ret (pe_lst (pa_cons pe_str (pa_cons (pe_callB (call_reprD gu hr.units) (by rfl) mr (by decide +kernel) (pa_cons (pe_byE SH.E (SH.fld "hand" (by simp)) hz hf (pv 3)) pa_nil)) pa_nil)))))
      (fun a oe cls d pn hz hf => pss_one (ps_ret (pe_lst (pa_cons pe_str (pa_cons (pe_callB (call_reprD gu hr.units) (by rfl) mr (by decide +kernel) (pa_cons (pe_byE SP.E (SP.fld "point" (by simp)) hz hf (pv 3)) pa_nil)) pa_nil)))))), ?_⟩
  refine ⟨_, rfl, _, rfl, _, rfl, v, x, y, p, d, e, rfl, hv, ok, hd, he, ae.fit, fun no dd H' nd1 s' h1 => ?_, fun i h edi i0 hi => ⟨fun no dd H' nd1 s' h1 => ?_, fun a b t ee a0 ha b0 hb H' u' s' hu => ?_⟩⟩
  · refine ⟨true, e1, fun _ a na => ?_, fun z => nomatch z⟩
    refine ⟨_, rfl, rfl, rfl, dd, _, x, rfl, h1, rfl, x, d, rfl, dp_same s' _ _ hd, ad.one.1, ad.one.2.1, ad.one.2.2, lz2, fun o no2 => ?_⟩
    refine q _ _ (s'.trans (same_new no2)) ?_
    rw [ans_hand no]
    exact .lst (SqL.of upd_same) (.cons (.str _) (.cons (.str _) .nil))
  · subst edi
    refine ⟨false, e2, fun z => (nomatch z), fun _ => ⟨e3, fun a na => ?_⟩⟩
    refine ⟨_, rfl, rfl, rfl, dd, _, y, rfl, h1, rfl, y, e, rfl, dp_same s' _ _ he, ae.one.1, ae.one.2.1, ae.one.2.2, lz2, fun o no2 => ?_⟩
    refine q _ _ (s'.trans (same_new no2)) ?_
    rw [ans_point (hand_yes i0 hi) hi no]
    exact .lst (SqL.of upd_same) (.cons (.str _) (.cons (.str _) .nil))
  · subst edi ee
    refine ⟨lz2, fun o no2 => ?_⟩
    have sn := same_new (o := .lst [.str "told", u']) no2
    refine q _ _ (s'.trans sn) ?_
    rw [ans_told (hand_yes i0 hi) hi (point_yes a0 ha b0 hb)]
    have er : rowAt h.2.2 a b = (t.2[b.toNat]?).getD .back := by
      unfold rowAt
      rw [ha]
    rw [er]
    exact .lst (SqL.of upd_same) (.cons (.str _) (.cons (dp_same sn _ _ hu) .nil))
end
end PP

set_option maxHeartbeats 4000000
/-! for x, y in zip(t, l): t a tuple, l a list -/
namespace ZM
open PySem PySem.Spec PyProof.Rows L2 G3 M0
def Itm (K : PySem.W.Frag) (a b : Addr) : It :=
  ⟨fun i H => ∃ (xs ys : List V) (x y : V), SqT K H a xs ∧ SqL K H b ys ∧ xs[i]? = some x ∧ ys[i]? = some y,
   fun i H v H' => ∃ T x y, v = .ref T ∧ H T = none ∧ H' = upd H T (.tup [x, y]) ∧ (∀ xs, SqT K H a xs → xs[i]? = some x) ∧ ∀ ys, SqL K H b ys → ys[i]? = some y,
   fun i H => ∃ xs ys : List V, SqT K H a xs ∧ SqL K H b ys ∧ i ≤ xs.length ∧ i ≤ ys.length ∧ (i = xs.length ∨ i = ys.length)⟩
theorem turn_zipM {P : Program} {w : World} {K : PySem.W.Frag} {elts : List Expr} {kk : Nat} {tpos : Pos} (a b z TI TO i1 i2 : Addr) (D : ZipSep2 z TI TO i1 i2 [i1, a] [i2, b]) (n1 : a ≠ i1) (n2 : b ≠ i2) :
    Turn P w K (.Tuple elts kk tpos) (Itm K a b) [z, TI, TO, i1, i2] z (fun i h => IsZip h z TI TO .none ∧ IsTupOf2 h TI (.ref i1) (.ref i2) ∧ (∃ x y, IsTupOf2 h TO x y) ∧ h.IsTupleIter i1 a i ∧ h.IsListIter i2 b i) where
  mem := by simp
  obj := fun i h st c hc => by
    obtain ⟨hz, hTI, ⟨x, y, hTO⟩, ⟨o1, g1, _, d1⟩, ⟨o2, g2, _, d2⟩⟩ := st
    simp only [List.mem_cons, List.not_mem_nil, or_false] at hc
    rcases hc with rfl | rfl | rfl | rfl | rfl
    · exact ⟨_, hz, fun v q => nomatch q⟩
    · exact ⟨_, hTI, fun v q => nomatch q⟩
    · exact ⟨_, hTO, fun v q => nomatch q⟩
    · exact ⟨o1, g1, fun v q => by rw [d1] at q; cases q⟩
    · exact ⟨o2, g2, fun v q => by rw [d2] at q; cases q⟩
  keep := fun i h h' st k => by
    obtain ⟨hz, hTI, ⟨x, y, hTO⟩, ⟨o1, g1, c1, d1⟩, ⟨o2, g2, c2, d2⟩⟩ := st
    exact ⟨k z (by simp) _ hz, k TI (by simp) _ hTI, ⟨x, y, k TO (by simp) _ hTO⟩, ⟨o1, k i1 (by simp) _ g1, c1, d1⟩, ⟨o2, k i2 (by simp) _ g2, c2, d2⟩⟩
  item := by
    intro X hP hw hK hc i pins s σ H E I hf st hg
    subst hP hw hK
    obtain ⟨hz, hTI, ⟨p, q, hTO⟩, h1, h2⟩ := st
    obtain ⟨xs, ys, x, y, hq1, hq2, hx, hy⟩ := hg
    obtain ⟨its, rv, p1, _⟩ := I.tuple hq1
    obtain ⟨its2, rv2, ⟨ol, nl, l1, l2, l3, l4⟩, _⟩ := I.list hq2
    obtain ⟨u, hu, ru⟩ := rv.get hx
    obtain ⟨u2, hu2, ru2⟩ := rv2.get hy
    have hd : X.A.in1.handled = none := by have z := I.ok.hd hc; simpa using z
    have lt1 : i < its.toArray.size := by
      have := (List.getElem?_eq_some_iff.mp hu).1
      simpa using this
    have lt2 : i < its2.toArray.size := by
      have := (List.getElem?_eq_some_iff.mp hu2).1
      simpa using this
    refine wpAny_pyNext_zipD2_item D (Draws.tuple (A := X.A.in1) hd i1 a n1 its.toArray) (Draws.list (A := X.A.in1) hd i2 b n2 its2.toArray) hz hTI hTO ⟨h1, p1⟩ ⟨h2, ⟨ol, l1, l2, nl, l4⟩⟩ lt1 lt2 fun v1 v2 h' tk e1 e2 hz' hTO' s1 s2 hT hsz hk => ?_
    have e1' : v1 = u := by
      have z : its[i]? = some v1 := by simpa using e1
      rw [hu] at z
      exact (Option.some.inj z).symm
    have e2' : v2 = u2 := by
      have z : its2[i]? = some v2 := by simpa using e2
      rw [hu2] at z
      exact (Option.some.inj z).symm
    subst e1' e2'
    have lz : z < s.heap.objs.size := Heap.lt_size hz
    refine ⟨_, rfl, wpAny_letOwnedTupleGo_zip (s := { s with heap := h', toks := tk }) hz' fun h'' hz'' sb => ?_⟩
    have hT2 : h''.get? s.heap.objs.size = some { cls := .type "tuple", data := .seq #[v1, v2] } := (sb.2 _ (Nat.ne_of_gt lz)).trans hT
    have new : ObjOk X.prog X.w (upd H s.heap.objs.size (.tup [x, y])) h'' s.heap.objs.size (.tup [x, y]) :=
      ⟨by show 2 ≤ sizeLine; decide, [v1, v2], .cons ru (.cons ru2 .nil), ⟨_, hT2, rfl, _, rfl⟩⟩
    have I1 : Inv X pins σ (upd H s.heap.objs.size (.tup [x, y])) { s with heap := h'', toks := tk } :=
      I.turnedNew (ch := [z, TO, i1, i2]) (fun c ob hb q => (sb.2 c (fun e => hb (by simp [e]))).trans (hk c ob (fun e => hb (by simp [e])) (fun e => hb (by simp [e])) (fun e => hb (by simp [e])) (fun e => hb (by simp [e])) q))
        (fun c hc2 => hf c (by
          simp only [List.mem_cons, List.not_mem_nil, or_false] at hc2 ⊢
          rcases hc2 with rfl | rfl | rfl | rfl <;> simp)) (Nat.le_refl _) new
    have up : ∀ c o, c ≠ z → h'.get? c = some o → h''.get? c = some o := fun c o ne q => (sb.2 c ne).trans q
    have dz1 : i1 ≠ z := fun e => D.zf1 (by simp [e])
    have dz2 : i2 ≠ z := fun e => D.zf2 (by simp [e])
    obtain ⟨⟨o1, g1, c1, d1⟩, _⟩ := s1
    obtain ⟨⟨o2, g2, c2, d2⟩, _⟩ := s2
    have hTI' : IsTupOf2 h' TI (.ref i1) (.ref i2) := hk TI _ D.TIz D.TITO D.TIi1 D.TIi2 hTI
    refine ⟨.ref s.heap.objs.size, _, I1, rfl, ⟨_, x, y, rfl, I.hok.fresh (Nat.le_refl _), rfl, fun zs hy2 => by rw [I.tuple_inj hy2 hq1]; exact hx, fun zs hy2 => by rw [I.list_inj hy2 hq2]; exact hy⟩,
      ⟨hz'', up _ _ D.TIz hTI', ⟨_, _, up _ _ D.TOz hTO'⟩, ⟨o1, up _ _ dz1 g1, c1, d1⟩, ⟨o2, up _ _ dz2 g2, c2, d2⟩⟩, fun c hc2 => ?_⟩
    have hb' : c < s.heap.objs.size := by
      simp only [List.mem_cons, List.not_mem_nil, or_false] at hc2
      rcases hc2 with rfl | rfl | rfl | rfl | rfl
      · exact lz
      · exact Heap.lt_size hTI
      · exact Heap.lt_size hTO
      · obtain ⟨_, q, _⟩ := h1
        exact Heap.lt_size q
      · obtain ⟨_, q, _⟩ := h2
        exact Heap.lt_size q
    rw [upd_ne (Nat.ne_of_lt hb')]
    exact (hf c hc2).1
  done := by
    intro X hP hw hK hc i pins s σ H E I hf st hg
    subst hP hw hK
    obtain ⟨hz, hTI, ⟨p, q, hTO⟩, h1, h2⟩ := st
    obtain ⟨xs, ys, hq1, hq2, l1, l2, l3⟩ := hg
    obtain ⟨its, rv, p1, _⟩ := I.tuple hq1
    obtain ⟨its2, rv2, ⟨ol, nl, g1, g2, g3, g4⟩, _⟩ := I.list hq2
    have hd : X.A.in1.handled = none := by have z := I.ok.hd hc; simpa using z
    have e1 : its.toArray.size = xs.length := by rw [List.size_toArray]; exact rv.length.symm
    have e2 : its2.toArray.size = ys.length := by rw [List.size_toArray]; exact rv2.length.symm
    refine wpAny_pyNext_zipD2_end D (Draws.tuple (A := X.A.in1) hd i1 a n1 its.toArray) (Draws.list (A := X.A.in1) hd i2 b n2 its2.toArray) hz hTI hTO ⟨h1, p1⟩ ⟨h2, ⟨ol, g1, g2, nl, g4⟩⟩ (by rw [e1]; exact l1) (by rw [e2]; exact l2) (by rw [e1, e2]; exact l3) fun h' tk hk => ⟨rfl, ?_⟩
    exact I.turnedL (ch := [z, TO, i1, i2]) (fun c ob hb q => hk c ob (fun e => hb (by simp [e])) (fun e => hb (by simp [e])) (fun e => hb (by simp [e])) (fun e => hb (by simp [e])) q)
        (fun c hc2 => hf c (by
          simp only [List.mem_cons, List.not_mem_nil, or_false] at hc2 ⊢
          rcases hc2 with rfl | rfl | rfl | rfl <;> simp))
  self := fun A i s Q E st h => wpAny_pyIter_zip st.1 h
theorem nn {x y : Addr} (h : Nat.lt x y ∨ Nat.lt y x) : x ≠ y := fun e => by
  subst e
  rcases h with h | h <;> exact absurd h (Nat.lt_irrefl _)
theorem nin2 {x a b : Addr} (h1 : x ≠ a) (h2 : x ≠ b) : ¬ x ∈ [a, b] := fun m => by
  rcases List.mem_cons.mp m with e | m
  · exact h1 e
  · exact h2 (List.mem_singleton.mp m)
theorem sep_of (N a b : Nat) (la : a < N) (lb : b < N) : ZipSep2 (N + 4) (N + 2) (N + 3) N (N + 1) [N, a] [N + 1, b] := by
  have l : ∀ {x y : Nat}, x < y → @Ne Addr x y := fun h => nn (.inl h)
  have g : ∀ {x y : Nat}, y < x → @Ne Addr x y := fun h => nn (.inr h)
  exact ⟨l (by omega), l (by omega), l (by omega), g (by omega), List.mem_cons_self, nin2 (g (by omega)) (g (by omega)), nin2 (g (by omega)) (g (by omega)), g (by omega), List.mem_cons_self, nin2 (g (by omega)) (g (by omega)), nin2 (g (by omega)) (g (by omega)), nin2 (l (by omega)) (g (by omega)), nin2 (g (by omega)) (g (by omega))⟩
def iZipM (K : PySem.W.Frag) (ta : TA) : TI := fun σ H R => ta σ H fun vs H1 => ∃ a b xs ys, vs = [.ref a, .ref b] ∧ SqT K H1 a xs ∧ SqL K H1 b ys ∧ R (Itm K a b) H1
theorem pi_zipM {X : Cx} {e e2 : Expr} {ta : TA} {p pos tpos : Pos} {elts : List Expr} {kk : Nat} (hg : Gl X "zip") (hm : X.mg "zip" = none) (ha : PA X [e, e2] ta) (hs : starEach (e :: [e2]) X.env = (false, eval e X.env) :: starEach [e2] X.env := by rfl) (hpl : (backTo pos (starEach [e2] X.env)).any (·.1) = false := by rfl) :
    PI X (.Tuple elts kk tpos) (.Call (.Name "zip" p) [e, e2] [] pos) (iZipM X.K ta) := by
  refine ⟨fun pins s σ H R I h => ?_⟩
  refine Call_ (ld_blt I hg hm PyProof.Rows.boot_zip (PyProof.Rows.callWith_type1 (thn (ha.run pos pins s σ H _ I h) fun us s1 ⟨vs, H1, I1, r1, q1⟩ => ?_) hs hpl))
  obtain ⟨a, b, xs, ys, ex, hq1, hq2, q⟩ := q1
  subst ex
  cases r1 with
  | cons r rr =>
    cases rr with
    | cons r2 rr2 =>
      cases rr2
      cases r
      cases r2
      obtain ⟨its, rv, p1, _⟩ := I1.tuple hq1
      obtain ⟨its2, rv2, ⟨ol, nl, l1, l2, l3, l4⟩, _⟩ := I1.list hq2
      have p2 : s1.heap.IsList b its2.toArray := ⟨ol, l1, l2, nl, l4⟩
      have la : a < s1.heap.objs.size := by
        obtain ⟨_, q, _⟩ := p1
        exact Heap.lt_size q
      have lb : b < s1.heap.objs.size := Heap.lt_size l1
      refine zip_begins2 (begins_tuple a its.toArray) (begins_list b its2.toArray) p1 p2 fun h' hz hTI hTO hi1 hi2 hsz hk => wpAny_pyIter_zip hz ?_
      have I2 : Inv X pins σ H1 { s1 with heap := h' } := I1.kept (t' := s1.toks) hk
      refine ⟨s1.heap.objs.size + 4, [s1.heap.objs.size + 4, s1.heap.objs.size + 2, s1.heap.objs.size + 3, s1.heap.objs.size, s1.heap.objs.size + 1], _, _, H1, rfl, I2,
        turn_zipM a b (s1.heap.objs.size + 4) (s1.heap.objs.size + 2) (s1.heap.objs.size + 3) s1.heap.objs.size (s1.heap.objs.size + 1) (sep_of s1.heap.objs.size a b la lb) (nn (.inl la)) (nn (.inl (Nat.lt_succ_of_lt lb))), ⟨hz, hTI, ⟨_, _, hTO⟩, ⟨_, hi1, rfl, rfl⟩, ⟨_, hi2, rfl, rfl⟩⟩, fun c hc => ?_, q⟩
      have hle : s1.heap.objs.size ≤ c := by
        simp only [List.mem_cons, List.not_mem_nil, or_false] at hc
        rcases hc with rfl | rfl | rfl | rfl | rfl
        · exact Nat.le_add_right _ _
        · exact Nat.le_add_right _ _
        · exact Nat.le_add_right _ _
        · exact Nat.le_refl _
        · exact Nat.le_add_right _ _
      exact I1.fpOk hle (I1.hok.fresh hle)
theorem for_zipM {K : PySem.W.Frag} {a b : Addr} {xs ys : List V} {g : TG} {tb : TS} {D : Ends} {σ : L2.St} {H : Hp} (hl0 : xs.length = ys.length) (Pv : Nat → L2.St → Hp → Prop) (h0 : Pv 0 σ H) (hl : ∀ i σ H, Pv i σ H → SqT K H a xs ∧ SqL K H b ys)
    (hs : ∀ (i : Nat) (x y : V) (T : Addr) (σ : L2.St) (H : Hp), xs[i]? = some x → ys[i]? = some y → Pv i σ H → H T = none → g (.ref T) σ (upd H T (.tup [x, y])) fun σ2 H2 => tb { D with nx := Pv (i + 1), ct := Pv (i + 1), bk := D.nx } σ2 H2) (hd : ∀ σ H, Pv xs.length σ H → D.nx σ H) :
    ∃ W : Nat → Nat → L2.St → Hp → Prop, (∃ m, W 0 m σ H) ∧ ∀ i m σ H, W i m σ H →
      ((Itm K a b).stop i H ∧ D.nx σ H) ∨ ((Itm K a b).go i H ∧ ∃ N : L2.St → Hp → Prop, (∀ σ' H', N σ' H' → ∃ m', m' < m ∧ W (i + 1) m' σ' H') ∧ ∀ x H', (Itm K a b).yld i H x H' → g x σ H' fun σ2 H2 => tb { D with nx := N, ct := N, bk := D.nx } σ2 H2) := by
  refine ⟨fun i m σ H => m = xs.length - i ∧ i ≤ xs.length ∧ Pv i σ H, ⟨xs.length, rfl, Nat.zero_le _, h0⟩, ?_⟩
  rintro i m σ H ⟨rfl, hi, p⟩
  obtain ⟨q1, q2⟩ := hl i σ H p
  by_cases hlt : i < xs.length
  · have hlt2 : i < ys.length := by omega
    refine .inr ⟨⟨xs, ys, xs[i], ys[i], q1, q2, List.getElem?_eq_getElem hlt, List.getElem?_eq_getElem hlt2⟩, Pv (i + 1), fun σ' H' p' => ⟨xs.length - (i + 1), by omega, rfl, hlt, p'⟩, fun v H' y => ?_⟩
    obtain ⟨T, x, y, rfl, hT, rfl, y1, y2⟩ := y
    exact hs i x y T σ H (y1 xs q1) (y2 ys q2) p hT
  · have e : i = xs.length := by omega
    subst e
    exact .inl ⟨⟨xs, ys, q1, q2, Nat.le_refl _, by omega, .inl rfl⟩, hd σ H p⟩
end ZM

set_option maxHeartbeats 4000000
namespace PP
open PySem PySem.Spec PyProof.Rows L2 G0 G3 G4 G5 M0 PA EE QA HX SA T2
/-! what row_at should answer, told -/
theorem rows_le {ts : List PA.Text} (four : ∀ t ∈ ts, t.2.length ≤ 4) (d : PyData) : rowsIn ts d ≤ 4 := by
  cases d with
  | int i =>
    unfold rowsIn
    simp only
    cases e : ts[i.toNat]? with
    | none => decide
    | some t =>
      have := four t (List.mem_of_getElem? e)
      show (t.2.length : Int) ≤ 4
      omega
  | _ => exact (by decide : (0 : Int) ≤ 4)
theorem between_int {m : Int} {d : PyData} (h : mBetween 0 m d = true) : ∃ i, d = .int i ∧ 0 ≤ i ∧ i ≤ m := by
  cases d with
  | int i =>
    have z : (decide (0 ≤ i) && decide (i ≤ m)) = true := h
    rw [Bool.and_eq_true, decide_eq_true_eq, decide_eq_true_eq] at z
    exact ⟨i, rfl, z.1, z.2⟩
  | _ => exact Bool.noConfusion (show false = true from h)
theorem between_mk {m i : Int} (h0 : 0 ≤ i) (h1 : i ≤ m) : mBetween 0 m (.int i) = true := by
  show (decide (0 ≤ i) && decide (i ≤ m)) = true
  rw [decide_eq_true h0, decide_eq_true h1]
  rfl
theorem bad_point {ts : List PA.Text} (four : ∀ t ∈ ts, t.2.length ≤ 4) {d1 d3 dz : PyData} {n : Nat} (h : [d1, d3][n]? = some dz) (hb : mBetween 0 (if n = 0 then (ts.length : Int) - 1 else 9) dz = false) : mPoint ts (.tuple [d1, d3]) = false := by
  show (mBetween 0 ((ts.length : Int) - 1) d1 && mBetween 0 (rowsIn ts d1) d3) = false
  match n, h with
  | 0, h =>
    cases h
    have z : mBetween 0 ((ts.length : Int) - 1) d1 = false := hb
    rw [z]
    rfl
  | 1, h =>
    cases h
    have z : mBetween 0 9 d3 = false := hb
    cases e : mBetween 0 (rowsIn ts d1) d3 with
    | false => exact Bool.and_false _
    | true =>
      obtain ⟨i, rfl, i0, i1⟩ := between_int e
      have := rows_le four d1
      rw [between_mk i0 (by omega)] at z
      cases z
abbrev nDue : List Str := ["_law_prog", "_law_who", "_law_spot", "_law_texts_here", "_law_number", "_law_many", "_law_rows"]
theorem scDue : FnScope nDue ["_law_prog", "_law_who", "_law_spot"] (defScope s_law_due) := ⟨rfl, rfl, rfl, by decide +kernel, rfl, by decide +kernel, by decide +kernel⟩
section
variable {P : Program} {w : World} {K : PySem.W.Frag} {mg : Str → Option Value} {base : Heap}
def spAnsS (K : PySem.W.Frag) : Sp := fun vs H Q _ => ∃ (v x y : V) (p : Prog) (d e : PyData), vs = [v, x, y] ∧ Dp K H v (progD p) ∧ ProgOk p ∧ Short p ∧ Dp K H x d ∧ Dp K H y e ∧ Asked d ∧ Asked e ∧
  ∀ (H' : Hp) (u : V), Same H H' → Dp K H' u (ansD p d e) → Q u H'
set_option maxHeartbeats 8000000 in
theorem ok_due {f : Addr} {fd : FuncData} {k : Nat} (F : Fun K "_law_due" "_law_due" s_law_due f fd) (mr : mg "repr" = none) (mi : mg "isinstance" = none) (mn : mg "int" = none) (mb : mg "bool" = none) (mt : mg "tuple" = none) (ml : mg "len" = none) (mz : mg "zip" = none) :
    FnG P w K mg base CX0 (k + 1) f fd ["_law_prog", "_law_who", "_law_spot"] (spAnsS K) := by
  refine body_of0 F scDue (fun vs H Q E h => ?_) (fun cdv A outer s H vs Q E gu hr h => ?_)
  · obtain ⟨v, x, y, p, d, e, rfl, _⟩ := h
    rfl
  obtain ⟨v, x, y, p, d, e, rfl, hv, ok, sh, hd, he, ad, ae, q⟩ := h
  have nd := scDue.nd
  refine ⟨_, pss_cons (ps_if (PW.pt (pw_or (pt_not (pt_val (pe_callB call_isi (by rfl) mi PyProof.Rows.boot_isinstance (pa_cons (pv 1) (pa_cons (pe_bltn (by rfl) mn (u := .type "int") (by decide +kernel) (show RelV (.ty "int") (.type "int") from rfl)) pa_nil)))))
      (pw_or (pt_val (pe_callB call_isi (by rfl) mi PyProof.Rows.boot_isinstance (pa_cons (pv 1) (pa_cons (pe_bltn (by rfl) mb (u := .type "bool") (by decide +kernel) (show RelV (.ty "bool") (.type "bool") from rfl)) pa_nil))))
      (pw_or1 (pt_not (pt_chain op_le op_lt pe_int (pv 1) (pe_callB call_len_seq (by rfl) ml PySem.boot_len (pa_cons (pe_ix ix_tup (pv 0) pe_int (fun _ _ => rfl)) pa_nil))))))))
      (pss_one (ps_ret (pe_lst (pa_cons pe_str (pa_cons (pe_callB (call_reprD gu hr.units) (by rfl) mr (by decide +kernel) (pa_cons (pv 1) pa_nil)) pa_nil))))) pss_nil)
    (pss_cons (ps_set (i := 3) nd rfl (.inl rfl) (pe_ix ix_tup (pe_ix ix_tup (pe_ix ix_tup (pv 0) pe_int (fun _ _ => rfl)) (pv 1) (fun _ _ => rfl)) pe_int (fun _ _ => rfl)))
    (pss_cons (ps_if (PW.pt (pw_or (pt_not (pt_val (pe_callB call_isi (by rfl) mi PyProof.Rows.boot_isinstance (pa_cons (pv 2) (pa_cons (pe_bltn (by rfl) mt (u := .type "tuple") (by decide +kernel) (show RelV (.ty "tuple") (.type "tuple") from rfl)) pa_nil)))))
      (pw_or1 (pt_cmpR op_ne (pe_callB call_len_seq (by rfl) ml PySem.boot_len (pa_cons (pv 2) pa_nil)) pe_int (nomark _)))))
      (pss_one (ps_ret (pe_lst (pa_cons pe_str (pa_cons (pe_callB (call_reprD gu hr.units) (by rfl) mr (by decide +kernel) (pa_cons (pv 2) pa_nil)) pa_nil))))) pss_nil)
    (pss_cons (ps_for PassesOwn.never rfl (ZM.pi_zipM (by rfl) mz (pa_cons (pv 2) (pa_cons (pe_lst (pa_cons (pe_op op_sub (pe_callB call_len_seq (by rfl) ml PySem.boot_len (pa_cons (pv 3) pa_nil)) pe_int) (pa_cons pe_int pa_nil))) pa_nil))) (pg_tup rfl (pgs_cons (pg_name (i := 4) nd rfl (.inl rfl)) (pgs_cons (pg_name (i := 5) nd rfl (.inl rfl)) pgs_nil)))
      (pss_one (ps_if (PW.pt (pw_or (pt_not (pt_val (pe_callB call_isi (by rfl) mi PyProof.Rows.boot_isinstance (pa_cons (pv 4) (pa_cons (pe_bltn (by rfl) mn (u := .type "int") (by decide +kernel) (show RelV (.ty "int") (.type "int") from rfl)) pa_nil)))))
        (pw_or (pt_val (pe_callB call_isi (by rfl) mi PyProof.Rows.boot_isinstance (pa_cons (pv 4) (pa_cons (pe_bltn (by rfl) mb (u := .type "bool") (by decide +kernel) (show RelV (.ty "bool") (.type "bool") from rfl)) pa_nil))))
        (pw_or1 (pt_not (pt_chain op_le op_le pe_int (pv 4) (pv 5)))))))
        (pss_one (ps_ret (pe_lst (pa_cons pe_str (pa_cons (pe_callB (call_reprD gu hr.units) (by rfl) mr (by decide +kernel) (pa_cons (pv 2) pa_nil)) pa_nil))))) pss_nil)))
    (pss_cons (ps_set (i := 6) nd rfl (.inl rfl) (pe_ix ix_tup (pe_ix ix_tup (pv 3) (pe_ix ix_tup (pv 2) pe_int (fun _ _ => rfl)) (fun _ _ => rfl)) pe_int (fun _ _ => rfl)))
    (pss_cons (ps_if (pt_cmpR op_gt (pe_ix ix_tup (pv 2) pe_int (fun _ _ => rfl)) (pe_callB call_len_seq (by rfl) ml PySem.boot_len (pa_cons (pv 6) pa_nil)) (nomark _))
      (pss_one (ps_ret (pe_lst (pa_cons pe_str (pa_cons (pe_callB (call_reprD gu hr.units) (by rfl) mr (by decide +kernel) (pa_cons (pv 2) pa_nil)) pa_nil))))) pss_nil)
    (pss_one (ps_ret (pe_lst (pa_cons pe_str (pa_cons (pe_ifExp (pt_cmpR op_lt (pe_ix ix_tup (pv 2) pe_int (fun _ _ => rfl)) (pe_callB call_len_seq (by rfl) ml PySem.boot_len (pa_cons (pv 6) pa_nil)) (nomark _)) (pe_ix ix_tup (pv 6) (pe_ix ix_tup (pv 2) pe_int (fun _ _ => rfl)) (fun _ _ => rfl)) (pe_tup (pa_cons pe_str pa_nil))) pa_nil)))))))))), ?_⟩
  have say : ∀ {w : Str} {i : Nat} {z : V} {dd : PyData} {D : Ends} {σ : L2.St} {G : Hp}, D.rt = Q → σ[i]? = some (some z) → Same H G → Dp K H z dd → ShowOk dd → ansD p d e = .list [.str w, .str dd.shown] → tRet (tLst (tCons (tC (.str w)) (tCons (tCB (rRepr K) (tCons (tVar i) tNil)) tNil))) D σ G := by
    intro w i z dd D σ G hD hs sg hz so ea
    refine ⟨z, hs, z, dd, rfl, dp_same sg _ _ hz, so.1, so.2.1, so.2.2, lz2, fun o no => ?_⟩
    rw [hD]
    refine q _ _ (sg.trans (same_new no)) ?_
    rw [ea]
    exact .lst (SqL.of upd_same) (.cons (.str _) (.cons (.str _) .nil))
  obtain ⟨va, x1, x2, rfl, hva, _, d2⟩ := dp2 hv
  obtain ⟨xa, xs, rfl, hxa, hxs⟩ := dp_tup d2
  have hxl : xs.length = p.2.length := by rw [dpAll_len hxs, List.length_map]
  have hd' := hd
  have s0 : Same H H := Same.refl H
  refine ⟨_, rfl, _, _, _, _, _, rfl, .ty "int", dp_ty hd, kit_int K hd, _, rfl, ?_⟩
  cases hd with
  | int i =>
    refine iteF ⟨_, rfl, _, _, _, _, _, rfl, .ty "bool", dp_ty hd', kit_bool K hd', _, rfl, iteF ⟨_, rfl, _, _, rfl, rfl, _, rfl, ?_⟩⟩
    cases e0 : decide (0 ≤ i) with
    | false =>
      exact iteF ⟨_, rfl, iteT (say rfl rfl s0 hd' ad.one (ans_hand (by show (decide (0 ≤ i) && _) = false; rw [e0]; rfl)))⟩
    | true =>
      refine iteT ⟨_, rfl, va, _, 1, _, rfl, rfl, hva, atI_nat (j := 1) rfl, xa, _, rfl, .inr hxa, _, _, rfl, rfl, _, rfl, ?_⟩
      cases e1 : decide (i < (xs.length : Int)) with
      | false =>
        exact iteT (say rfl rfl s0 hd' ad.one (ans_hand (by show (decide (0 ≤ i) && decide (i < (p.2.length : Int))) = false; rw [← hxl, e1, Bool.and_false])))
      | true =>
        have i0 := of_decide_eq_true e0
        have i1 := of_decide_eq_true e1
        have hi : i.toNat < p.2.length := by omega
        have hi' := List.getElem?_eq_getElem hi
        have hm : p.2[i.toNat] ∈ p.2 := List.getElem_mem hi
        have yes := hand_yes i0 hi'
        obtain ⟨z, hz, hzd⟩ := dpAll_getD hxs (i := i.toNat) (d := handD (p.2[i.toNat])) (by rw [List.getElem?_map, hi']; rfl)
        have hat : atI xs i = some z := by
          have z2 := atI_nat (xs := xs) hz
          rwa [Int.toNat_of_nonneg i0] at z2
        generalize p.2[i.toNat] = h at hi' hm hzd
        obtain ⟨ha, h0, h1, h2, rfl, hha, _, _, hts⟩ := dp3 hzd
        obtain ⟨ta, ts, rfl, hta, htl⟩ := dp_tup hts
        have tl : ts.length = h.2.2.length := by rw [dpAll_len htl, List.length_map]
        refine iteF ⟨_, rfl, va, _, 1, _, rfl, rfl, hva, atI_nat (j := 1) rfl, _, rfl, xa, _, i, _, rfl, rfl, hxa, hat, ha, _, 2, _, rfl, rfl, hha, atI_nat (j := 2) rfl, ?_⟩
        refine ⟨_, rfl, _, _, _, _, _, rfl, .ty "tuple", dp_ty he, kit_tup K he, _, rfl, ?_⟩
        have sayp : ∀ {D : Ends} {σ : L2.St} {G : Hp}, D.rt = Q → σ[2]? = some (some y) → Same H G → mPoint h.2.2 e = false → tRet (tLst (tCons (tC (.str "point")) (tCons (tCB (rRepr K) (tCons (tVar 2) tNil)) tNil))) D σ G := fun hD hs sg hm => say hD hs sg he ae.one (ans_point yes hi' hm)
        have he' := he
        cases he with
        | @tup sa ys es hsa hes =>
          have yl := dpAll_len hes
          refine iteF ⟨_, rfl, sa, ys, rfl, .inr hsa, rfl, _, rfl, ?_⟩
          by_cases l2 : ys.length = 2
          · have en : (!decide (V.int (ys.length : Int) = V.int 2)) = false := by rw [l2]; rfl
            rw [en]
            have el2 : es.length = 2 := by omega
            obtain ⟨d1, d3, rfl⟩ := pair_of el2
            refine iteF ⟨_, rfl, _, rfl, ta, ts, rfl, .inr hta, _, _, rfl, rfl, lz2, fun L nL => ⟨sa, L, ys, _, rfl, same_tup (same_new nL) hsa, SqL.of upd_same, ?_⟩⟩
            have sL := same_new (o := .lst [.int ((ts.length : Int) - 1), .int 9]) nL
            refine ZM.for_zipM (xs := ys) (ys := [.int ((ts.length : Int) - 1), .int 9]) l2 (fun n σ G => ∃ y4 y5, σ = [some (.ref va), some (.int i), some (.ref sa), some (.ref ta), y4, y5, none] ∧ Same H G ∧ G L = some (.lst [.int ((ts.length : Int) - 1), .int 9]) ∧ ∀ j < n, ∀ dz, [d1, d3][j]? = some dz → mBetween 0 (if j = 0 then (h.2.2.length : Int) - 1 else 9) dz = true)
              ⟨none, none, rfl, sL, upd_same, fun j hj => absurd hj (Nat.not_lt_zero j)⟩ (fun n σ G hP => ?_) (fun n z1 z2 T σ G hx hy hP nT => ?_) (fun σ G hP => ?_)
            · obtain ⟨_, _, _, sg, hL, _⟩ := hP
              exact ⟨same_tup sg hsa, SqL.of hL⟩
            · obtain ⟨y4, y5, rfl, sg, hL, hN⟩ := hP
              have sT := same_new (o := .tup [z1, z2]) nT
              have sgT := sg.trans sT
              have hLT := sT _ _ hL
              refine ⟨T, _, rfl, SqT.of upd_same, rfl, _, _, rfl, _, _, rfl, rfl, ?_⟩
              generalize upd G T (.tup [z1, z2]) = G1 at sgT hLT ⊢
              obtain ⟨dz, hdz1, hdz2⟩ := dpAll_get hes hx
              have ez : z2 = .int (if n = 0 then (h.2.2.length : Int) - 1 else 9) := by
                match n, hy with
                | 0, hy =>
                  cases hy
                  rw [tl]
                  rfl
                | 1, hy =>
                  cases hy
                  rfl
              have step : mBetween 0 (if n = 0 then (h.2.2.length : Int) - 1 else 9) dz = true → ∀ j < n + 1, ∀ dz, [d1, d3][j]? = some dz → mBetween 0 (if j = 0 then (h.2.2.length : Int) - 1 else 9) dz = true := fun hb j hj dz2 h2 => by
                rcases Nat.lt_succ_iff_lt_or_eq.mp hj with z | rfl
                · exact hN j z dz2 h2
                · rw [hdz1] at h2
                  cases h2
                  exact hb
              have bad : mBetween 0 (if n = 0 then (h.2.2.length : Int) - 1 else 9) dz = false → mPoint h.2.2 (.tuple [d1, d3]) = false := fun hb => bad_point (fun t ht => (sh.txt h hm t ht).2) hdz1 hb
              subst ez
              generalize (if n = 0 then (h.2.2.length : Int) - 1 else 9) = top at step bad ⊢
              have hz' := dp_same sgT _ _ hdz2
              refine ⟨_, rfl, _, _, _, _, _, rfl, .ty "int", dp_ty hz', kit_int K hz', _, rfl, ?_⟩
              cases hdz2 with
              | int j =>
                refine iteF ⟨_, rfl, _, _, _, _, _, rfl, .ty "bool", dp_ty hz', kit_bool K hz', _, rfl, iteF ⟨_, rfl, _, _, rfl, rfl, _, rfl, ?_⟩⟩
                cases e2 : decide (0 ≤ j) with
                | false => exact iteF ⟨_, rfl, iteT (sayp rfl rfl sgT (bad (by show (decide (0 ≤ j) && _) = false; rw [e2]; rfl)))⟩
                | true =>
                  refine iteT ⟨_, rfl, _, _, rfl, rfl, _, rfl, ?_⟩
                  cases e3 : decide (j ≤ top) with
                  | false => exact iteT (sayp rfl rfl sgT (bad (by show (decide (0 ≤ j) && decide (j ≤ top)) = false; rw [e3, Bool.and_false])))
                  | true => exact iteF ⟨_, _, rfl, sgT, hLT, step (by show (decide (0 ≤ j) && decide (j ≤ top)) = true; rw [e2, e3]; rfl)⟩
              | bl b => exact iteF ⟨_, rfl, _, _, _, _, _, rfl, .ty "bool", dp_ty hz', kit_bool K hz', _, rfl, iteT (iteT (sayp rfl rfl sgT (bad rfl)))⟩
              | _ => exact iteT (iteT (sayp rfl rfl sgT (bad rfl)))
            · obtain ⟨y4, y5, rfl, sg, hL, hN⟩ := hP
              obtain ⟨a, rfl, a0, a1⟩ := between_int (hN 0 (by omega) d1 rfl)
              obtain ⟨b, rfl, b0, b1⟩ := between_int (hN 1 (by omega) d3 rfl)
              have b9 : b ≤ 9 := b1
              have a9 : a ≤ (h.2.2.length : Int) - 1 := a1
              obtain ⟨sa', u1, u2, esa, hsa', g1, g2⟩ := dp2 he'
              cases esa
              cases dp_int g1
              cases dp_int g2
              have ai : a.toNat < h.2.2.length := by omega
              have hat3 := List.getElem?_eq_getElem ai
              have htm : h.2.2[a.toNat] ∈ h.2.2 := List.getElem_mem ai
              obtain ⟨tz, htz, htzd⟩ := dpAll_getD htl (i := a.toNat) (d := textD (h.2.2[a.toNat])) (by rw [List.getElem?_map, hat3]; rfl)
              have hata : atI ts a = some tz := by
                have z2 := atI_nat (xs := ts) htz
                rwa [Int.toNat_of_nonneg a0] at z2
              generalize h.2.2[a.toNat] = t at hat3 htm htzd
              obtain ⟨tb, t0, t1, rfl, htb, _, hrs⟩ := dp2 htzd
              obtain ⟨ra, rs, rfl, hra, hrl⟩ := dp_tup hrs
              have rl : rs.length = t.2.length := by rw [dpAll_len hrl, List.length_map]
              refine ⟨_, rfl, _, rfl, sa, _, 0, _, rfl, rfl, same_tup sg hsa', atI_nat (j := 0) rfl, ta, _, a, _, rfl, rfl, same_tup sg hta, hata, tb, _, 1, _, rfl, rfl, same_tup sg htb, atI_nat (j := 1) rfl, ?_⟩
              refine ⟨_, rfl, sa, _, 1, _, rfl, rfl, same_tup sg hsa', atI_nat (j := 1) rfl, _, rfl, ra, rs, rfl, .inr (same_tup sg hra), _, _, rfl, rfl, _, rfl, ite2 (fun e2 => ?_) (fun e2 => ?_)⟩
              · have e3 : b > (rs.length : Int) := of_decide_eq_true e2
                refine sayp rfl rfl sg ?_
                have er : rowsIn h.2.2 (.int a) = t.2.length := by
                  unfold rowsIn
                  simp only [hat3]
                show (mBetween 0 ((h.2.2.length : Int) - 1) (.int a) && mBetween 0 (rowsIn h.2.2 (.int a)) (.int b)) = false
                rw [er]
                show (_ && (decide (0 ≤ b) && decide (b ≤ (t.2.length : Int)))) = false
                rw [decide_eq_false (p := b ≤ (t.2.length : Int)) (by omega), Bool.and_false, Bool.and_false]
              · have e3 : ¬ b > (rs.length : Int) := fun z => e2 (decide_eq_true z)
                have bt : b ≤ t.2.length := by omega
                have ea := ans_told yes hi' (point_yes a0 hat3 b0 bt)
                have er : rowAt h.2.2 a b = (t.2[b.toNat]?).getD .back := by
                  unfold rowAt
                  rw [hat3]
                rw [er] at ea
                refine ⟨_, rfl, sa, _, 1, _, rfl, rfl, same_tup sg hsa', atI_nat (j := 1) rfl, _, rfl, ra, rs, rfl, .inr (same_tup sg hra), _, _, rfl, rfl, _, rfl, ite2 (fun e4 => ?_) (fun e4 => ?_)⟩
                · have b3 : b < (rs.length : Int) := of_decide_eq_true e4
                  have bi : b.toNat < t.2.length := by omega
                  obtain ⟨rz, hrz, hrzd⟩ := dpAll_getD hrl (i := b.toNat) (d := (t.2[b.toNat]).data) (by rw [List.getElem?_map, List.getElem?_eq_getElem bi]; rfl)
                  have hatb : atI rs b = some rz := by
                    have z2 := atI_nat (xs := rs) hrz
                    rwa [Int.toNat_of_nonneg b0] at z2
                  refine ⟨_, rfl, _, rfl, sa, _, 1, _, rfl, rfl, same_tup sg hsa', atI_nat (j := 1) rfl, ra, _, b, _, rfl, rfl, same_tup sg hra, hatb, lz2, fun o no => ?_⟩
                  refine q _ _ (sg.trans (same_new no)) ?_
                  rw [ea, List.getElem?_eq_getElem bi]
                  exact .lst (SqL.of upd_same) (.cons (.str _) (.cons (dp_same (sg.trans (same_new no)) _ _ hrzd) .nil))
                · have b3 : ¬ b < (rs.length : Int) := fun z => e4 (decide_eq_true z)
                  refine ⟨lz1, fun bt no1 => ⟨lz2, fun o no => ?_⟩⟩
                  have s1 := same_new (o := .tup [.str "back"]) no1
                  have s2 := same_new (o := .lst [.str "told", .ref bt]) no
                  refine q _ _ (sg.trans (s1.trans s2)) ?_
                  rw [ea, List.getElem?_eq_none (by omega)]
                  exact .lst (SqL.of upd_same) (.cons (.str _) (.cons (.tup (same_tup s2 (SqT.of upd_same)) (.cons (.str _) .nil)) .nil))
          · have en : (!decide (V.int (ys.length : Int) = V.int 2)) = true := by
              rw [decide_eq_false (fun z => l2 (by have := V.int.inj z; omega))]
              rfl
            rw [en]
            exact iteT (sayp rfl rfl s0 (point_not (by show decide (es.length = 2) = false; exact decide_eq_false (by omega))))
        | _ => exact iteT (iteT (sayp rfl rfl s0 (point_not rfl)))
  | bl b => exact iteF ⟨_, rfl, _, _, _, _, _, rfl, .ty "bool", dp_ty hd', kit_bool K hd', _, rfl, iteT (iteT (say rfl rfl s0 hd' ad.one (ans_hand rfl)))⟩
  | _ => exact iteT (iteT (say rfl rfl s0 hd' ad.one (ans_hand rfl)))
end
end PP

set_option maxHeartbeats 4000000
namespace PP
open PySem PySem.Spec PyProof.Rows L2 G0 G3 G4 G5 M0 PA EE QA HX SA T2
/-! names, firsts and lots: told twice, and new each time -/
theorem eqv_self {d : PyData} (h : noB d = true) : PyData.eqv d d = true := (eqv_iff d d h h).mpr rfl
def lotD (l : List Nat) : PyData := .list (l.map fun n : Nat => .int n)
theorem LotsAt.dp {K : PySem.W.Frag} {H0 H : Hp} {L : Addr} : ∀ {as : List Addr} {ls : List (List Nat)}, LotsAt H0 H L as ls → DpAll K H (as.map V.ref) (ls.map lotD)
  | _, _, .nil => .nil
  | _, _, .cons (l := l) _ _ h3 h => .cons (.lst (SqL.of h3) (dp_nats l)) h.dp
where dp_nats {K : PySem.W.Frag} {H : Hp} : ∀ l : List Nat, DpAll K H (natV l) (l.map fun n : Nat => PyData.int n)
  | [] => .nil
  | n :: l => .cons (.int _) (dp_nats l)
theorem lay_lot (l : List Nat) : LayD 1 (lotD l) := LayD.lst fun d hd => by
  obtain ⟨n, _, rfl⟩ := List.mem_map.mp hd
  exact lay_int _
theorem noB_lot (l : List Nat) : noB (lotD l) = true := by
  simp only [lotD, noB]
  exact noB_map fun _ _ => by simp only [noB]
/-- all that is said -/
def saidD (hs : List Hand) : PyData := .list [.list ((hs.map (·.1)).map PyData.str), lotD (firstsOf hs), .list ((lotsOf hs).map lotD)]
theorem said_lay {p : Prog} (ok : ProgOk p) : LayD 3 (saidD p.2) := LayD.lst fun d hd => by
  rcases List.mem_cons.mp hd with rfl | hd
  · exact (lay_strs fun z hz => by
      obtain ⟨h, hh, rfl⟩ := List.mem_map.mp hz
      exact name_ok (ok.nm h hh)).up (by decide)
  rcases List.mem_cons.mp hd with rfl | hd
  · exact (lay_lot _).up (by decide)
  · rw [List.mem_singleton.mp hd]
    exact LayD.lst fun d hd => by
      obtain ⟨l, _, rfl⟩ := List.mem_map.mp hd
      exact lay_lot l
theorem said_noB (hs : List Hand) : noB (saidD hs) = true := by
  simp only [saidD, noB, noBs, Bool.and_true, Bool.and_eq_true]
  exact ⟨noB_map fun _ _ => by simp only [noB], noB_lot _, noB_map fun l _ => noB_lot l⟩
theorem lots_one {p : Prog} (ok : ProgOk p) : ∃ l ls, lotsOf p.2 = l :: ls ∧ l.length ≤ 5 := by
  have one := ok.one
  have few := ok.few
  have s0 : startsLot p.2 0 = true := (starts_iff (show 0 < p.2.length by omega)).mpr (.inr fun o ho => absurd ho (Nat.not_lt_zero o))
  have m : (0 : Nat) ∈ (List.range p.2.length).filter (startsLot p.2) := List.mem_filter.mpr ⟨List.mem_range.mpr (by omega), s0⟩
  unfold lotsOf
  cases e : (List.range p.2.length).filter (startsLot p.2) with
  | nil => rw [e] at m; cases m
  | cons a r =>
    refine ⟨_, _, rfl, ?_⟩
    have := lot_len (hs := p.2) a
    omega
abbrev nLists : List Str := ["_law_prog", "_law_names", "_law_who", "_law_firsts", "_law_number", "_law_name", "_law_turn", "_law_said"]
theorem scLists : FnScope nLists ["_law_prog"] (defScope s_law_lists_right) := ⟨rfl, rfl, rfl, by decide +kernel, rfl, by decide +kernel, by decide +kernel⟩
section
variable {P : Program} {w : World} {K : PySem.W.Frag} {mg : Str → Option Value} {base : Heap}
def spLists (K : PySem.W.Frag) : Sp := fun vs H Q _ => ∃ (v : V) (p : Prog), vs = [v] ∧ Dp K H v (progD p) ∧ ProgOk p ∧ ∀ H', Same H H' → Q (.bl true) H'
set_option maxHeartbeats 8000000 in
theorem ok_lists {f : Addr} {fd : FuncData} {k : Nat} (F : Fun K "_law_lists_right" "_law_lists_right" s_law_lists_right f fd) (N : Def P w K mg base CX0 (k + 1) "_law_named" ["_law_hands"] (spNamed K)) (LT : Def P w K mg base CX0 (k + 1) "_law_lots" ["_law_prog"] (spLike K))
    (HD1 : Def P w K mg base CX0 (k + 1) "hands_of" ["program"] (spHandsOf K)) (FH : Def P w K mg base CX0 (k + 1) "first_hands" ["program"] (spFirstH K)) (LK : Def P w K mg base CX0 (k + 1) "like_hands" ["program"] (spLike K)) (me : mg "enumerate" = none) (mra : mg "range" = none) :
    FnOk P w K mg base CX0 (k + 1 + 1) f fd ["_law_prog"] (spLists K) := by
  refine F.ok scLists (fun vs H Q E h => ?_) (fun cdv A outer s H vs Q E hr h => ?_)
  · obtain ⟨v, p, rfl, _⟩ := h
    rfl
  obtain ⟨v, p, rfl, hv, ok, q⟩ := h
  have nd := scLists.nd
  refine ⟨_, pss_cons (ps_setLc (i := 1) (own := [("_law_who", 2)]) (g := gName 2) (tt := tYes) (by rfl) nd rfl rfl (sw_true rfl rfl rfl (by decide +kernel)) (pi_tup (pe_ix ix_tup (pv 0) pe_int (fun _ _ => rfl)))
        (blkOk_by (N := nLists) (sc := defScope s_law_lists_right) (by decide +kernel)) (fun _ _ _ _ _ => pg_name (i := 2) nd rfl (.inl rfl)) (fun _ _ _ _ _ => pts_nil) (fun _ _ _ _ _ => pe_ix (r := rIxT K) ix_tup (pv 2) pe_int (fun _ _ => rfl)))
    (pss_cons (ps_setLc (i := 3) (own := [("_law_number", 4), ("_law_name", 5)]) (g := gTup K 2 (gCons (gName 4) (gCons (gName 5) gNil))) (by rfl) nd rfl rfl (sw_true rfl rfl rfl (by decide +kernel)) (pi_enum (by rfl) me (pa_cons (pv 1) pa_nil))
        (blkOk_by (N := nLists) (sc := defScope s_law_lists_right) (by decide +kernel)) (fun _ _ _ _ _ => pg_tup rfl (pgs_cons (pg_name (i := 4) nd rfl (.inl rfl)) (pgs_cons (pg_name (i := 5) nd rfl (.inl rfl)) pgs_nil)))
        (fun _ _ _ _ _ => pts_one (t := tTest (tOp (rIn K true) (tVar 5) (tCall (spNamed K) [] E0 (tCons (tOp (rIxT K) (tVar 0) (tC (.int 1))) tNil)))) (pt_cmpR (r := rIn K true) op_notIn_seq (pv 5) (pe_call N.ok hr (by rfl) N.g N.kp N.b .nil pass0 (pa_cons (pe_ix (r := rIxT K) ix_tup (pv 0) pe_int (fun _ _ => rfl)) pa_nil)) (by rfl)))
        (fun _ _ _ _ _ => pv 4))
    (pss_cons (ps_for PassesOwn.never rfl (pi_range1 (by rfl) mra (pa_cons pe_int pa_nil)) (pg_name (i := 6) nd rfl (.inl rfl))
      (pss_cons (ps_set (i := 7) nd rfl (.inl rfl) (pe_lst (pa_cons (pe_call HD1.ok hr (by rfl) HD1.g HD1.kp HD1.b .nil pass0 (pa_cons (pv 0) pa_nil)) (pa_cons (pe_call FH.ok hr (by rfl) FH.g FH.kp FH.b .nil pass0 (pa_cons (pv 0) pa_nil)) (pa_cons (pe_call LK.ok hr (by rfl) LK.g LK.kp LK.b .nil pass0 (pa_cons (pv 0) pa_nil)) pa_nil)))))
      (pss_cons (ps_if (pt_cmpR (op_neD hr.units) (pv 7) (pe_lst (pa_cons (pv 1) (pa_cons (pv 3) (pa_cons (pe_call LT.ok hr (by rfl) LT.g LT.kp LT.b .nil pass0 (pa_cons (pv 0) pa_nil)) pa_nil)))) (nomark _)) (pss_one (ps_ret pe_bl)) pss_nil)
      (pss_cons (ps_expr (pe_bm PySem.F.plainAttrs_list PySem.F.slot_list_append PySem.F.type_list_append mt_append (pe_ix ix_list (pv 7) pe_int (fun _ _ => rfl)) (pa_cons pe_non pa_nil)))
      (pss_cons (ps_expr (pe_bm PySem.F.plainAttrs_list PySem.F.slot_list_append PySem.F.type_list_append mt_append (pe_ix ix_list (pv 7) pe_int (fun _ _ => rfl)) (pa_cons pe_non pa_nil)))
      (pss_cons (ps_expr (pe_bm PySem.F.plainAttrs_list PySem.F.slot_list_append PySem.F.type_list_append mt_append (pe_ix ix_list (pv 7) pe_int (fun _ _ => rfl)) (pa_cons pe_non pa_nil)))
      (pss_one (ps_expr (pe_bm PySem.F.plainAttrs_list PySem.F.slot_list_append PySem.F.type_list_append mt_append (pe_ix ix_list (pe_ix ix_list (pv 7) pe_int (fun _ _ => rfl)) pe_int (fun _ _ => rfl)) (pa_cons pe_non pa_nil))))))))))
    (pss_one (ps_ret pe_bl)))), ?_⟩
  obtain ⟨va, x1, x2, rfl, hva, _, d2⟩ := dp2 hv
  obtain ⟨xa, xs, rfl, hxs, hall⟩ := dp_tup d2
  have hxl : xs.length = p.2.length := by rw [dpAll_len hall, List.length_map]
  have l4 := ok.few
  have bl := begun_le ok p.2 (fun _ h => h) l4
  refine ⟨_, rfl, va, _, 1, _, rfl, rfl, hva, atI_nat (j := 1) rfl, xa, rfl, ⟨_, hxs⟩, fun D nD => ?_⟩
  refine lc_it (walk_tup (a := xa) (xs := xs) (K := K)) (fun i G => Same H G ∧ G D = some (.lst (((p.2.take i).map (·.1)).map V.str))) ⟨same_new nD, upd_same⟩ (fun i G _ h => same_tup h.1 hxs) (fun i x G G' hi h y => ?_) (fun H1 h => ?_)
  · obtain ⟨sG, hD⟩ := h
    obtain ⟨rfl, ex⟩ := y
    obtain ⟨d, hd, hx⟩ := dpAll_get hall ex
    rw [List.getElem?_map] at hd
    obtain ⟨hnd, hh, rfl⟩ := Option.map_eq_some_iff.mp hd
    obtain ⟨ha, h0, h1, h2, rfl, hha, g0, _, _⟩ := dp3 hx
    cases dp_str g0
    refine ⟨rfl, ?_⟩
    dsimp only [tYes]
    rw [if_pos rfl]
    refine ⟨_, rfl, ha, _, 0, _, rfl, rfl, same_tup sG hha, atI_nat (j := 0) rfl, _, hD, ?_, same_put sG nD, ?_⟩
    · rw [List.length_map, List.length_map, List.length_take]
      exact LC.small_line (by omega)
    · rw [upd_same, take_next hh, List.map_append, List.map_append]
      rfl
  obtain ⟨s1, hD⟩ := h
  rw [List.take_of_length_le (by omega)] at hD
  refine ⟨_, rfl, D, _, rfl, SqL.of hD, fun F nF => ?_⟩
  refine lc_it (walk_enum (a := D) (xs := (p.2.map (·.1)).map V.str) (K := K)) (fun i G => Same H1 G ∧ G F = some (.lst (natV ((List.range i).filter (isFirst p.2))))) ⟨same_new nF, upd_same⟩ (fun i G _ h => SqL.of (h.1 _ _ hD)) (fun i x G G' hi h y => ?_) (fun Hb h => ?_)
  · obtain ⟨sG, hF⟩ := h
    obtain ⟨T, k1, k2, rfl, nT, rfl, hk1, hk2⟩ := y
    cases hk1
    dsimp only at hk2
    rw [List.getElem?_map, List.getElem?_map] at hk2
    obtain ⟨nm, hnm, rfl⟩ := Option.map_eq_some_iff.mp hk2
    obtain ⟨hnd, hh, rfl⟩ := Option.map_eq_some_iff.mp hnm
    have sT : Same G (upd G T (.tup [.int (i : Nat), .str hnd.1])) := same_new nT
    have s3 := s1.trans (sG.trans sT)
    refine ⟨T, _, rfl, .inl (.inl upd_same), rfl, _, _, rfl, _, _, rfl, rfl, rfl, ?_⟩
    refine ⟨_, rfl, _, rfl, va, _, 1, _, rfl, rfl, same_tup s3 hva, atI_nat (j := 1) rfl, xa, xs, p.2, rfl, .inr (same_tup s3 hxs), dpAll_same s3 _ _ hall, bl, fun G2 o s4 no ho => ?_⟩
    refine ⟨o, _, rfl, .inl (SqL.of ho), rfl, flat_strs _, _, rfl, ?_⟩
    have e1 : isFirst p.2 i = !decide (hnd.1 ∈ begunOf p.2) := by
      unfold isFirst
      rw [hh]
    have hr1 : (List.range (i + 1)).filter (isFirst p.2) = (List.range i).filter (isFirst p.2) ++ (if isFirst p.2 i then [i] else []) := by
      rw [List.range_succ, List.filter_append]
      congr 1
      cases z : isFirst p.2 i <;> simp [z]
    rw [if_pos rfl, in_strs, ← e1]
    have sG2 := sG.trans (sT.trans s4)
    have hF2 := s4 _ _ (sT _ _ hF)
    cases z : isFirst p.2 i with
    | true =>
      rw [z, if_pos rfl] at hr1
      refine iteT ⟨_, rfl, _, hF2, ?_, same_put sG2 nF, ?_⟩
      · rw [List.length_map]
        have := List.length_filter_le (isFirst p.2) (List.range i)
        rw [List.length_range] at this
        rw [List.length_map, List.length_map] at hi
        exact LC.small_line (by omega)
      · rw [upd_same, hr1, natV_snoc]
    | false =>
      rw [z, if_neg Bool.false_ne_true, List.append_nil] at hr1
      refine iteF ⟨sG2, ?_⟩
      rw [hr1]
      exact hF2
  obtain ⟨s2, hF⟩ := h
  have sHb := s1.trans s2
  have hDb := s2 _ _ hD
  rw [List.length_map, List.length_map] at hF
  have hF' : Hb F = some (.lst (natV (firstsOf p.2))) := hF
  have hvb := dp_same sHb _ _ hv
  clear hF hD nD nF s1 s2
  refine ⟨2, rfl, by decide, by decide, for_range (n := 2) (fun _ σ G => ∃ y6 y7, σ = [some (.ref va), some (.ref D), none, some (.ref F), none, none, y6, y7] ∧ Same Hb G) ⟨none, none, rfl, Same.refl Hb⟩ (fun i σ G hi hP => ?_) (fun σ G hP => ?_)⟩
  · obtain ⟨y6, y7, rfl, sg⟩ := hP
    obtain ⟨l, ls, el, ll⟩ := lots_one ok
    refine ⟨_, rfl, .ref va, p, rfl, dp_same sg _ _ hvb, ok, fun G1 o1 t1 n1 h1 => ⟨_, rfl, .ref va, p, rfl, dp_same (sg.trans t1) _ _ hvb, ok, fun G2 o2 t2 n2 h2 => ⟨_, rfl, .ref va, p, rfl, dp_same (sg.trans (t1.trans t2)) _ _ hvb, ok, fun G3 L as t3 n3 h3 hA => ⟨lz3, fun S nS => ?_⟩⟩⟩⟩
    have tS := same_new (o := .lst [.ref o1, .ref o2, .ref L]) nS
    have sgS := sg.trans (t1.trans (t2.trans (t3.trans tS)))
    have hS : upd G3 S (.lst [.ref o1, .ref o2, .ref L]) S = some (.lst [.ref o1, .ref o2, .ref L]) := upd_same
    have a1 := (t2.trans (t3.trans tS)) _ _ h1
    have a2 := (t3.trans tS) _ _ h2
    have a3 := tS _ _ h3
    have aA := hA.keep (H' := upd G3 S (.lst [.ref o1, .ref o2, .ref L])) fun a l _ e => tS _ _ e
    have d12 := ne_of_none h1 n2
    have d1L := ne_of_none (t2 _ _ h1) n3
    have d2L := ne_of_none h2 n3
    have d1S := ne_of_none ((t2.trans t3) _ _ h1) nS
    have d2S := ne_of_none (t3 _ _ h2) nS
    have dLS := ne_of_none h3 nS
    have b1 := same_none sg n1
    have b2 := same_none (sg.trans t1) n2
    have b3 := same_none (sg.trans (t1.trans t2)) n3
    generalize upd G3 S (.lst [.ref o1, .ref o2, .ref L]) = G4 at sgS hS a1 a2 a3 aA ⊢
    refine ⟨_, rfl, _, rfl, _, rfl, _, rfl, .ref va, p, rfl, dp_same sgS _ _ hvb, ok, fun G5 L2 as2 t5 n5 h5 hA2 => ⟨lz3, fun S2 nS2 => ?_⟩⟩
    have tS2 := same_new (o := .lst [.ref D, .ref F, .ref L2]) nS2
    have hS2 : upd G5 S2 (.lst [.ref D, .ref F, .ref L2]) S2 = some (.lst [.ref D, .ref F, .ref L2]) := upd_same
    have t46 := t5.trans tS2
    have sg6 := sgS.trans t46
    have h5' := tS2 _ _ h5
    have hA2' := hA2.keep (H' := upd G5 S2 (.lst [.ref D, .ref F, .ref L2])) fun a l _ e => tS2 _ _ e
    generalize upd G5 S2 (.lst [.ref D, .ref F, .ref L2]) = G6 at hS2 t46 sg6 h5' hA2' ⊢
    have c1 := t46 _ _ a1
    have c2 := t46 _ _ a2
    have c3 := t46 _ _ a3
    have cA := aA.keep (H' := G6) fun a l _ e => t46 _ _ e
    have cS := t46 _ _ hS
    have dq1 : Dp K G6 (.ref S) (saidD p.2) := .lst (SqL.of cS) (.cons (.lst (SqL.of c1) (dp_strs _)) (.cons (.lst (SqL.of c2) (LotsAt.dp.dp_nats _)) (.cons (.lst (SqL.of c3) cA.dp) .nil)))
    have dq2 : Dp K G6 (.ref S2) (saidD p.2) := .lst (SqL.of hS2) (.cons (.lst (SqL.of (sg6 _ _ hDb)) (dp_strs _)) (.cons (.lst (SqL.of (sg6 _ _ hF')) (LotsAt.dp.dp_nats _)) (.cons (.lst (SqL.of h5') hA2'.dp) .nil)))
    refine ⟨_, _, dq1, dq2, (said_lay ok).shaped (by decide), (said_lay ok).shaped (by decide), _, rfl, ?_⟩
    rw [eqv_self (said_noB _)]
    refine iteF ?_
    rw [el] at cA
    cases cA with
    | @cons a0 as' _ _ q1 q2 q3 q4 =>
      have d1a : o1 ≠ a0 := ne_of_none (t2 _ _ h1) q1
      have d2a : o2 ≠ a0 := ne_of_none h2 q1
      have dSa : S ≠ a0 := fun e => by
        rw [← e, cS] at q3
        cases l with
        | nil => cases q3
        | cons x l' => cases q3
      have b0 : Hb a0 = none := same_none (sg.trans (t1.trans t2)) q1
      have la : as'.length ≤ 1000 := by
        have := q4.len
        have z : (lotsOf p.2).length = ls.length + 1 := by rw [el]; rfl
        have z2 : (lotsOf p.2).length ≤ p.2.length := by
          unfold lotsOf
          rw [List.length_map]
          have := List.length_filter_le (startsLot p.2) (List.range p.2.length)
          rw [List.length_range] at this
          exact this
        omega
      have lf : (firstsOf p.2).length ≤ 1000 := by
        have := List.length_filter_le (isFirst p.2) (List.range p.2.length)
        rw [List.length_range] at this
        show ((List.range p.2.length).filter (isFirst p.2)).length ≤ 1000
        omega
      refine ⟨_, rfl, S, _, 0, .ref o1, rfl, rfl, SqL.of cS, atI_nat (j := 0) rfl, .inl ⟨rfl, _, SqL.of c1⟩, o1, _, _, rfl, rfl, c1, by rw [List.length_map, List.length_map]; exact LC.small_line (by omega), ?_⟩
      refine ⟨_, rfl, S, [.ref o1, .ref o2, .ref L], 1, .ref o2, rfl, rfl, SqL.of (by rw [upd_ne d1S.symm]; exact cS), atI_nat (j := 1) rfl, .inl ⟨rfl, _, SqL.of (by rw [upd_ne d12.symm]; exact c2)⟩, o2, _, _, rfl, rfl, by rw [upd_ne d12.symm]; exact c2, by rw [List.length_map]; exact LC.small_line (by omega), ?_⟩
      refine ⟨_, rfl, S, [.ref o1, .ref o2, .ref L], 2, .ref L, rfl, rfl, SqL.of (by rw [upd_ne d2S.symm, upd_ne d1S.symm]; exact cS), atI_nat (j := 2) rfl, .inl ⟨rfl, _, SqL.of (by rw [upd_ne d2L.symm, upd_ne d1L.symm]; exact c3)⟩, L, _, _, rfl, rfl, by rw [upd_ne d2L.symm, upd_ne d1L.symm]; exact c3, by rw [List.length_map]; exact LC.small_line (by show as'.length + 1 ≤ _; omega), ?_⟩
      have k3 : ∀ {b : Addr} {o : HO}, b ≠ o1 → b ≠ o2 → b ≠ L → G6 b = some o → upd (upd (upd G6 o1 (.lst ((((p.2.map (·.1)).map V.str)) ++ [.non]))) o2 (.lst (natV (firstsOf p.2) ++ [.non]))) L (.lst ((a0 :: as').map V.ref ++ [.non])) b = some o := fun x1 x2 x3 e => by
        rw [upd_ne x3, upd_ne x2, upd_ne x1]
        exact e
      refine ⟨_, rfl, S, [.ref o1, .ref o2, .ref L], 2, .ref L, rfl, rfl, SqL.of (k3 d1S.symm d2S.symm dLS.symm cS), atI_nat (j := 2) rfl, L, _, 0, .ref a0, rfl, rfl, SqL.of upd_same, atI_nat (j := 0) rfl, .inl ⟨rfl, _, SqL.of (k3 d1a.symm d2a.symm q2 q3)⟩, a0, _, _, rfl, rfl, k3 d1a.symm d2a.symm q2 q3, by rw [List.length_map]; exact LC.small_line (by omega), ?_⟩
      exact ⟨_, _, rfl, same_put (same_put (same_put (same_put sg6 b1) b2) b3) b0⟩
  · obtain ⟨_, _, rfl, sg⟩ := hP
    exact q G (sHb.trans sg)
end
end PP

set_option maxHeartbeats 4000000
namespace PP
open PySem PySem.Spec PyProof.Rows L2 G0 G3 G4 G5 M0 PA EE QA HX SA T2
/-! known lots -/
def twoP (b1 b2 : List Box) (t1 t2 : Str) : Prog := ([], [("a", b1, [(t1, [.back])]), ("b", b2, [(t2, [.back])])])
def boxB (b : Box) : Bool := nameB b.1 && (decide (1 ≤ b.2) && decide (b.2 ≤ 8))
theorem own_ok {bs : List Box} (h : (decide (bs.length ≤ 24) && (bs.all boxB && decide (bs.map (·.1)).Nodup)) = true) : BoxesOk bs 24 8 [] := by
  simp only [Bool.and_eq_true, decide_eq_true_eq, List.all_eq_true, boxB] at h
  obtain ⟨h1, h2, h3⟩ := h
  exact ⟨h1, fun b hb => ⟨(h2 b hb).1, (h2 b hb).2.1, (h2 b hb).2.2, fun z => nomatch z⟩, h3⟩
theorem two_ok {b1 b2 : List Box} {t1 t2 : Str} (o1 : BoxesOk b1 24 8 []) (o2 : BoxesOk b2 24 8 []) (n1 : nameB t1 = true) (n2 : nameB t2 = true) : ProgOk (twoP b1 b2 t1 t2) := by
  have tx : ∀ {bs : List Box} {os : List Str} {t : Str}, nameB t = true → TextsOk bs os [(t, [.back])] := fun {bs os t} n => by
    refine ⟨by show 1 ≤ 1; decide, by show 1 ≤ 32; decide, fun x hx => ?_, by show ([t] : List Str).Nodup; simp, fun x hx r hr => ?_⟩
    · rw [List.mem_singleton.mp hx]
      exact ⟨n, by show 1 ≤ 1; decide, by show 1 ≤ 2000; decide⟩
    · rw [List.mem_singleton.mp hx] at hr
      rw [List.mem_singleton.mp hr]
      trivial
  have two : ∀ {q : Hand → Prop}, q ("a", b1, [(t1, [.back])]) → q ("b", b2, [(t2, [.back])]) → ∀ h ∈ (twoP b1 b2 t1 t2).2, q h := fun q1 q2 h hh => by
    rcases List.mem_cons.mp hh with rfl | hh
    · exact q1
    · rw [List.mem_singleton.mp hh]
      exact q2
  refine ⟨⟨by show 0 ≤ 8; decide, fun b hb => (nomatch hb), List.nodup_nil⟩, by show 1 ≤ 2; decide, by show 2 ≤ 4; decide, two (by show nameB "a" = true; decide +kernel) (by show nameB "b" = true; decide +kernel), by show ([("a" : Str), "b"] : List Str).Nodup; decide +kernel, two o1 o2, two (tx n1) (tx n2)⟩
abbrev nLikes : List Str := ["_law_rows", "_law_first", "_law_other", "_law_boxed", "_law_own"]
theorem scLikes : FnScope nLikes [] (defScope s_law_likes_right) := ⟨rfl, rfl, rfl, by decide +kernel, rfl, by decide +kernel, by decide +kernel⟩
theorem l1 : lotsOf (twoP [] [] "m" "n").2 = [[0], [1]] := by decide +kernel
theorem l2 : lotsOf (twoP [] [("x", 2)] "m" "m").2 = [[0], [1]] := by decide +kernel
theorem l3 : lotsOf (twoP [("x", 2)] [("y", 2)] "m" "m").2 = [[0], [1]] := by decide +kernel
theorem l4 : lotsOf (twoP [("x", 2)] [("x", 3)] "m" "m").2 = [[0], [1]] := by decide +kernel
theorem l5 : lotsOf (twoP [("x", 2)] [("x", 2), ("y", 2)] "m" "m").2 = [[0], [1]] := by decide +kernel
theorem l6 : lotsOf (twoP [("x", 2)] [("x", 2)] "m" "m").2 = [[0, 1]] := by decide +kernel
/-- a new tuple among data -/
theorem dT {K : PySem.W.Frag} {G : Hp} {t : Addr} {vs : List V} {ds : List PyData} (n : G t = none) (h : DpAll K G vs ds) : ∃ G', upd G t (.tup vs) = G' ∧ Same G G' ∧ Dp K G' (.ref t) (.tuple ds) :=
  ⟨_, rfl, same_new n, .tup (SqT.of upd_same) (dpAll_same (same_new n) _ _ h)⟩
theorem dL {K : PySem.W.Frag} {G : Hp} {t : Addr} {vs : List V} {ds : List PyData} (n : G t = none) (h : DpAll K G vs ds) : ∃ G', upd G t (.lst vs) = G' ∧ Same G G' ∧ Dp K G' (.ref t) (.list ds) ∧ SqL K G' t vs :=
  ⟨_, rfl, same_new n, .lst (SqL.of upd_same) (dpAll_same (same_new n) _ _ h), SqL.of upd_same⟩
abbrev hd2 (z : Str) (b : List Box) (t : Str) : Hand := (z, b, [(t, [.back])])
theorem lots_lay (ls : List (List Nat)) : LayD 2 (.list (ls.map lotD)) := LayD.lst fun d hd => by
  obtain ⟨l, _, rfl⟩ := List.mem_map.mp hd
  exact lay_lot l
theorem lots_noB (ls : List (List Nat)) : noB (.list (ls.map lotD)) = true := by
  simp only [noB]
  exact noB_map fun l _ => noB_lot l
section
variable {P : Program} {w : World} {K : PySem.W.Frag} {mg : Str → Option Value} {base : Heap}
def spTrue : Sp := fun vs H Q _ => vs = [] ∧ ∀ H', Same H H' → Q (.bl true) H'
set_option maxHeartbeats 8000000 in
theorem ok_likes {f : Addr} {fd : FuncData} {k : Nat} (F : Fun K "_law_likes_right" "_law_likes_right" s_law_likes_right f fd) (LK : Def P w K mg base CX0 (k + 1) "like_hands" ["program"] (spLike K)) :
    FnOk P w K mg base CX0 (k + 1 + 1) f fd [] spTrue := by
  refine F.ok scLikes (fun vs H Q E h => ?_) (fun cdv A outer s H vs Q E hr h => ?_)
  · obtain ⟨rfl, _⟩ := h
    rfl
  obtain ⟨rfl, q⟩ := h
  have nd := scLikes.nd
  refine ⟨_, pss_cons (ps_set (i := 0) nd rfl (.inl rfl) (pe_tup (pa_cons (pe_tup (pa_cons pe_str pa_nil)) pa_nil)))
    (pss_cons (ps_set (i := 1) nd rfl (.inl rfl) (pe_tup (pa_cons pe_str (pa_cons (pe_tup pa_nil) (pa_cons (pe_tup (pa_cons (pe_tup (pa_cons pe_str (pa_cons (pv 0) pa_nil))) pa_nil)) pa_nil)))))
    (pss_cons (ps_for PassesOwn.never rfl (pi_list (pe_lst (pa_cons (pe_tup (pa_cons pe_str (pa_cons (pe_tup pa_nil) (pa_cons (pe_tup (pa_cons (pe_tup (pa_cons pe_str (pa_cons (pv 0) pa_nil))) pa_nil)) pa_nil))))
        (pa_cons (pe_tup (pa_cons pe_str (pa_cons (pe_tup (pa_cons (pe_tup (pa_cons pe_str (pa_cons pe_int pa_nil))) pa_nil)) (pa_cons (pe_tup (pa_cons (pe_tup (pa_cons pe_str (pa_cons (pv 0) pa_nil))) pa_nil)) pa_nil)))) pa_nil)))) (pg_name (i := 2) nd rfl (.inl rfl))
      (pss_one (ps_if (pt_cmpR (op_neD hr.units) (pe_call LK.ok hr (by rfl) LK.g LK.kp LK.b .nil pass0 (pa_cons (pe_tup (pa_cons (pe_tup pa_nil) (pa_cons (pe_tup (pa_cons (pv 1) (pa_cons (pv 2) pa_nil))) pa_nil))) pa_nil))
        (pe_lst (pa_cons (pe_lst (pa_cons pe_int pa_nil)) (pa_cons (pe_lst (pa_cons pe_int pa_nil)) pa_nil))) (nomark _)) (pss_one (ps_ret pe_bl)) pss_nil)))
    (pss_cons (ps_set (i := 3) nd rfl (.inl rfl) (pe_tup (pa_cons pe_str (pa_cons (pe_tup (pa_cons (pe_tup (pa_cons pe_str (pa_cons pe_int pa_nil))) pa_nil)) (pa_cons (pe_tup (pa_cons (pe_tup (pa_cons pe_str (pa_cons (pv 0) pa_nil))) pa_nil)) pa_nil)))))
    (pss_cons (ps_for PassesOwn.never rfl (pi_list (pe_lst (pa_cons (pe_tup (pa_cons (pe_tup (pa_cons pe_str (pa_cons pe_int pa_nil))) pa_nil)) (pa_cons (pe_tup (pa_cons (pe_tup (pa_cons pe_str (pa_cons pe_int pa_nil))) pa_nil))
        (pa_cons (pe_tup (pa_cons (pe_tup (pa_cons pe_str (pa_cons pe_int pa_nil))) (pa_cons (pe_tup (pa_cons pe_str (pa_cons pe_int pa_nil))) pa_nil))) pa_nil))))) (pg_name (i := 4) nd rfl (.inl rfl))
      (pss_one (ps_if (pt_cmpR (op_neD hr.units) (pe_call LK.ok hr (by rfl) LK.g LK.kp LK.b .nil pass0 (pa_cons (pe_tup (pa_cons (pe_tup pa_nil) (pa_cons (pe_tup (pa_cons (pv 3) (pa_cons (pe_tup (pa_cons pe_str (pa_cons (pv 4) (pa_cons (pe_tup (pa_cons (pe_tup (pa_cons pe_str (pa_cons (pv 0) pa_nil))) pa_nil)) pa_nil)))) pa_nil))) pa_nil))) pa_nil))
        (pe_lst (pa_cons (pe_lst (pa_cons pe_int pa_nil)) (pa_cons (pe_lst (pa_cons pe_int pa_nil)) pa_nil))) (nomark _)) (pss_one (ps_ret pe_bl)) pss_nil)))
    (pss_one (ps_ret (pe_cmpR (op_eqD hr.units) (pe_call LK.ok hr (by rfl) LK.g LK.kp LK.b .nil pass0 (pa_cons (pe_tup (pa_cons (pe_tup pa_nil) (pa_cons (pe_tup (pa_cons (pv 3) (pa_cons (pe_op op_catA (pe_tup (pa_cons pe_str pa_nil)) (pe_slice (r := rSlA K) sl_tupA (pv 3) (po_some pe_int) po_none)) pa_nil))) pa_nil))) pa_nil))
      (pe_lst (pa_cons (pe_lst (pa_cons pe_int (pa_cons pe_int pa_nil))) pa_nil)) (nomark _)))))))), ?_⟩
  -- rows
  refine ⟨lz1, fun a1 n1 => ?_⟩
  obtain ⟨G1, e1, s1, r1⟩ := dT (K := K) (vs := [.str "back"]) (ds := [.str "back"]) n1 (.cons (.str _) .nil)
  rw [e1]
  refine ⟨lz1, fun a2 n2 => ?_⟩
  obtain ⟨G2, e2, s2, r2⟩ := dT (K := K) (vs := [.ref a1]) n2 (.cons r1 .nil)
  rw [e2]
  have rows : Dp K G2 (.ref a2) (rowsD [.back]) := r2
  clear e1 e2 r1 r2
  -- a text of those rows
  have text : ∀ {G : Hp} {z : Str} {t u : Addr}, Same G2 G → (n : G t = none) → upd G t (.tup [.str z, .ref a2]) u = none → ∃ G', upd (upd G t (.tup [.str z, .ref a2])) u (.tup [.ref t]) = G' ∧ Same G G' ∧ Dp K G' (.ref u) (.tuple ([(z, [PA.Row.back])].map textD)) := fun {G z t u} sg n n2 => by
    obtain ⟨H1, e1, s1, r1⟩ := dT (K := K) (vs := [.str z, .ref a2]) (ds := [.str z, rowsD [.back]]) n (.cons (.str _) (.cons (dp_same sg _ _ rows) .nil))
    rw [e1] at n2 ⊢
    obtain ⟨H2, e2, s2, r2⟩ := dT (K := K) (vs := [.ref t]) n2 (.cons r1 .nil)
    exact ⟨H2, e2, s1.trans s2, r2⟩
  -- first
  refine ⟨Nat.zero_le _, fun a3 n3 => ⟨_, rfl, lz2, fun a4 n4 => ⟨lz1, fun a5 n5 => ?_⟩⟩⟩
  obtain ⟨G3, e3, s3, r3⟩ := dT (K := K) (vs := []) (ds := []) n3 .nil
  rw [e3] at n4 n5 ⊢
  obtain ⟨G5, e5, s5, r5⟩ := text (z := "m") s3 n4 n5
  rw [e5]
  refine ⟨lz3, fun a6 n6 => ?_⟩
  obtain ⟨G6, e6, s6, r6⟩ := dT (K := K) n6 (.cons (.str "a") (.cons (dp_same s5 _ _ r3) (.cons r5 .nil)))
  rw [e6]
  have first : Dp K G6 (.ref a6) (handD (hd2 "a" [] "m")) := r6
  have s26 := s3.trans (s5.trans s6)
  clear e3 e5 e6 n3 n4 n5 n6 r3 r5 r6 s3 s5 s6
  -- the others
  refine ⟨Nat.zero_le _, fun b1 n1 => ⟨_, rfl, lz2, fun b2 n2 => ⟨lz1, fun b3 n3 => ?_⟩⟩⟩
  obtain ⟨K1, e1, t1, r1⟩ := dT (K := K) (vs := []) (ds := []) n1 .nil
  rw [e1] at n2 n3 ⊢
  obtain ⟨K3, e3, t3, r3⟩ := text (z := "n") (s26.trans t1) n2 n3
  rw [e3]
  refine ⟨lz3, fun b4 n4 => ?_⟩
  obtain ⟨K4, e4, t4, r4⟩ := dT (K := K) n4 (.cons (.str "b") (.cons (dp_same t3 _ _ r1) (.cons r3 .nil)))
  rw [e4]
  have oth1 : Dp K K4 (.ref b4) (handD (hd2 "b" [] "n")) := r4
  have u4 := t1.trans (t3.trans t4)
  clear e1 e3 e4 n1 n2 n3 n4 r1 r3 r4 t1 t3 t4
  -- one own box
  have box : ∀ {G : Hp} {z : Str} {i : Int} {t u : Addr}, (n : G t = none) → upd G t (.tup [.str z, .int i]) u = none → ∃ G', upd (upd G t (.tup [.str z, .int i])) u (.tup [.ref t]) = G' ∧ Same G G' ∧ Dp K G' (.ref u) (boxesD [(z, i)]) := fun {G z i t u} n n2 => by
    obtain ⟨H1, e1, s1, r1⟩ := dT (K := K) (vs := [.str z, .int i]) (ds := [.str z, .int i]) n (.cons (.str _) (.cons (.int _) .nil))
    rw [e1] at n2 ⊢
    obtain ⟨H2, e2, s2, r2⟩ := dT (K := K) (vs := [.ref t]) n2 (.cons r1 .nil)
    exact ⟨H2, e2, s1.trans s2, r2⟩
  refine ⟨lz2, fun b1 n1 => ⟨lz1, fun b2 n2 => ?_⟩⟩
  obtain ⟨K5, e5, t5, r5⟩ := box n1 n2
  rw [e5]
  refine ⟨_, rfl, lz2, fun b3 n3 => ⟨lz1, fun b5 n5 => ?_⟩⟩
  obtain ⟨K6, e6, t6, r6⟩ := text (z := "m") (s26.trans (u4.trans t5)) n3 n5
  rw [e6]
  refine ⟨lz3, fun b6 n6 => ?_⟩
  obtain ⟨K7, e7, t7, r7⟩ := dT (K := K) n6 (.cons (.str "b") (.cons (dp_same t6 _ _ r5) (.cons r6 .nil)))
  rw [e7]
  have oth2 : Dp K K7 (.ref b6) (handD (hd2 "b" [("x", 2)] "m")) := r7
  have u7 := t5.trans (t6.trans t7)
  have oth1' := dp_same u7 _ _ oth1
  clear e5 e6 e7 n1 n2 n3 n5 n6 r5 r6 r7 t5 t6 t7
  refine ⟨lz2, fun Lb nL => ?_⟩
  obtain ⟨K8, e8, t8, _, hLb⟩ := dL (K := K) nL (.cons oth1' (.cons oth2 .nil))
  rw [e8]
  have u8 := s26.trans (u4.trans (u7.trans t8))
  have rows8 := dp_same u8 _ _ rows
  have first8 := dp_same (u4.trans (u7.trans t8)) _ _ first
  have oa := dp_same t8 _ _ oth1'
  have ob := dp_same t8 _ _ oth2
  have sH8 := s1.trans (s2.trans u8)
  clear e8 oth1 oth1' oth2 u4 u7 t8 nL rows first
  have cmp : ∀ {G : Hp} {L q1 q2 q3 : Addr} {as : List Addr} {G0 : Hp} {ls : List (List Nat)}, G L = some (.lst (as.map V.ref)) → LotsAt G0 G L as ls → ls = [[0], [1]] → (n1 : G q1 = none) → upd G q1 (.lst [.int 0]) q2 = none → upd (upd G q1 (.lst [.int 0])) q2 (.lst [.int 1]) q3 = none →
      ∀ {T : VK}, (∀ G', Same G G' → T (.bl false) G') → rNeD K (.ref L) (.ref q3) (upd (upd (upd G q1 (.lst [.int 0])) q2 (.lst [.int 1])) q3 (.lst [.ref q1, .ref q2])) T := fun {G L q1 q2 q3 as G0 ls} hL hA el n1 n2 n3 T fin => by
    subst el
    obtain ⟨G1, e1, s1, r1, _⟩ := dL (K := K) (vs := [.int 0]) (ds := [.int 0]) n1 (.cons (.int _) .nil)
    rw [e1] at n2 n3 ⊢
    obtain ⟨G2, e2, s2, r2, _⟩ := dL (K := K) (vs := [.int 1]) (ds := [.int 1]) n2 (.cons (.int _) .nil)
    rw [e2] at n3 ⊢
    obtain ⟨G3, e3, s3, r3, _⟩ := dL (K := K) n3 (.cons (dp_same s2 _ _ r1) (.cons r2 .nil))
    rw [e3]
    have s13 := s1.trans (s2.trans s3)
    refine ⟨.list ([[0], [1]].map lotD), .list ([[0], [1]].map lotD), .lst (SqL.of (s13 _ _ hL)) (hA.keep (H' := G3) fun a l _ e => s13 _ _ e).dp, r3, (lots_lay _).shaped (by decide), (lots_lay _).shaped (by decide), ?_⟩
    rw [eqv_self (lots_noB _)]
    exact fin G3 s13
  refine ⟨Lb, rfl, ⟨_, hLb⟩, for_it (walk_list (a := Lb) (xs := [.ref b4, .ref b6]) (K := K)) (fun i σ G => ∃ y2, σ = [some (.ref a2), some (.ref a6), y2, none, none] ∧ Same K8 G) ⟨none, rfl, Same.refl _⟩ (fun i σ G _ h => h.elim fun _ z => z.2.seq hLb) (fun i x σ G G' hi h y => ?_) (fun σ G h => ?_)⟩
  · obtain ⟨y2, rfl, sg⟩ := h
    obtain ⟨rfl, ex⟩ := y
    obtain ⟨bb, tt, hx, ob2, nt, lo⟩ : ∃ (bb : List Box) (tt : Str), Dp K K8 x (handD (hd2 "b" bb tt)) ∧ BoxesOk bb 24 8 [] ∧ nameB tt = true ∧ lotsOf (twoP [] bb "m" tt).2 = [[0], [1]] := by
      match i, ex with
      | 0, ex =>
        cases ex
        exact ⟨[], "n", oa, own_ok (by decide +kernel), by decide +kernel, l1⟩
      | 1, ex =>
        cases ex
        exact ⟨[("x", 2)], "m", ob, own_ok (by decide +kernel), by decide +kernel, l2⟩
    refine ⟨Nat.zero_le _, fun c1 m1 => ?_⟩
    obtain ⟨H1, e1, v1, r1⟩ := dT (K := K) (vs := []) (ds := []) m1 .nil
    rw [e1]
    refine ⟨_, rfl, _, rfl, lz2, fun c2 m2 => ?_⟩
    obtain ⟨H2, e2, v2, r2⟩ := dT (K := K) m2 (.cons (dp_same (sg.trans v1) _ _ first8) (.cons (dp_same (sg.trans v1) _ _ hx) .nil))
    rw [e2]
    refine ⟨lz2, fun c3 m3 => ?_⟩
    obtain ⟨H3, e3, v3, r3⟩ := dT (K := K) m3 (.cons (dp_same v2 _ _ r1) (.cons r2 .nil))
    rw [e3]
    refine ⟨_, twoP [] bb "m" tt, rfl, r3, two_ok (own_ok (by decide +kernel)) ob2 (by decide +kernel) nt, fun H4 L as v4 nL hL hA => ?_⟩
    refine ⟨lz1, fun q1 w1 => ⟨lz1, fun q2 w2 => ⟨lz2, fun q3 w3 => ?_⟩⟩⟩
    refine cmp hL hA lo w1 w2 w3 fun H5 v5 => ⟨_, rfl, iteF ?_⟩
    exact ⟨_, rfl, sg.trans (v1.trans (v2.trans (v3.trans (v4.trans v5))))⟩
  obtain ⟨y2, rfl, sg⟩ := h
  have w0 := u8.trans sg
  -- boxed
  refine ⟨lz2, fun c1 n1 => ⟨lz1, fun c2 n2 => ?_⟩⟩
  obtain ⟨M1, e1, t1, r1⟩ := box (z := "x") (i := 2) n1 n2
  rw [e1]
  refine ⟨_, rfl, lz2, fun c3 n3 => ⟨lz1, fun c4 n4 => ?_⟩⟩
  obtain ⟨M2, e2, t2, r2⟩ := text (z := "m") (w0.trans t1) n3 n4
  rw [e2]
  refine ⟨lz3, fun c5 n5 => ?_⟩
  obtain ⟨M3, e3, t3, r3⟩ := dT (K := K) n5 (.cons (.str "a") (.cons (dp_same t2 _ _ r1) (.cons r2 .nil)))
  rw [e3]
  have boxed : Dp K M3 (.ref c5) (handD (hd2 "a" [("x", 2)] "m")) := r3
  have w3 := w0.trans (t1.trans (t2.trans t3))
  have sH3 := sH8.trans (sg.trans (t1.trans (t2.trans t3)))
  clear e1 e2 e3 n1 n2 n3 n4 n5 r1 r2 r3 t1 t2 t3 sg
  -- own boxes
  refine ⟨lz2, fun d1 n1 => ⟨lz1, fun d2 n2 => ?_⟩⟩
  obtain ⟨M4, e4, t4, r4⟩ := box (z := "y") (i := 2) n1 n2
  rw [e4]
  refine ⟨lz2, fun d3 n3 => ⟨lz1, fun d4 n4 => ?_⟩⟩
  obtain ⟨M5, e5, t5, r5⟩ := box (z := "x") (i := 3) n3 n4
  rw [e5]
  refine ⟨lz2, fun d5 n5 => ?_⟩
  obtain ⟨M6, e6, t6, r6⟩ := dT (K := K) (vs := [.str "x", .int 2]) (ds := [.str "x", .int 2]) n5 (.cons (.str _) (.cons (.int _) .nil))
  rw [e6]
  refine ⟨lz2, fun d6 n6 => ?_⟩
  obtain ⟨M7, e7, t7, r7⟩ := dT (K := K) (vs := [.str "y", .int 2]) (ds := [.str "y", .int 2]) n6 (.cons (.str _) (.cons (.int _) .nil))
  rw [e7]
  refine ⟨lz2, fun d7 n7 => ?_⟩
  obtain ⟨M8, e8, t8, r8⟩ := dT (K := K) n7 (.cons (dp_same t7 _ _ r6) (.cons r7 .nil))
  rw [e8]
  have t68 := t6.trans (t7.trans t8)
  refine ⟨lz3, fun Lc nc => ?_⟩
  have p1 := dp_same (t5.trans t68) _ _ r4
  have p2 := dp_same t68 _ _ r5
  obtain ⟨M9, e9, t9, _, hLc⟩ := dL (K := K) nc (.cons p1 (.cons p2 (.cons r8 .nil)))
  rw [e9]
  have q1 := dp_same t9 _ _ p1
  have q2 := dp_same t9 _ _ p2
  have q3 : Dp K M9 (.ref d7) (boxesD [("x", 2), ("y", 2)]) := dp_same t9 _ _ r8
  have tt := t4.trans (t5.trans (t68.trans t9))
  have w9 := w3.trans tt
  have boxed9 := dp_same tt _ _ boxed
  have sH9 := sH3.trans tt
  clear e4 e5 e6 e7 e8 e9 n1 n2 n3 n4 n5 n6 n7 nc r4 r5 r6 r7 r8 t4 t5 t6 t7 t8 t9 t68 p1 p2 tt boxed w3 sH3
  refine ⟨Lc, rfl, ⟨_, hLc⟩, for_it (walk_list (a := Lc) (xs := [.ref d2, .ref d4, .ref d7]) (K := K)) (fun i σ G => ∃ y4, σ = [some (.ref a2), some (.ref a6), y2, some (.ref c5), y4] ∧ Same M9 G) ⟨none, rfl, Same.refl _⟩ (fun i σ G _ h => h.elim fun _ z => z.2.seq hLc) (fun i x σ G G' hi h y => ?_) (fun σ G h => ?_)⟩
  · obtain ⟨y4, rfl, sg⟩ := h
    obtain ⟨rfl, ex⟩ := y
    obtain ⟨bb, hx, ob2, lo⟩ : ∃ (bb : List Box), Dp K M9 x (boxesD bb) ∧ BoxesOk bb 24 8 [] ∧ lotsOf (twoP [("x", 2)] bb "m" "m").2 = [[0], [1]] := by
      match i, ex with
      | 0, ex =>
        cases ex
        exact ⟨[("y", 2)], q1, own_ok (by decide +kernel), l3⟩
      | 1, ex =>
        cases ex
        exact ⟨[("x", 3)], q2, own_ok (by decide +kernel), l4⟩
      | 2, ex =>
        cases ex
        exact ⟨[("x", 2), ("y", 2)], q3, own_ok (by decide +kernel), l5⟩
    refine ⟨Nat.zero_le _, fun c1 m1 => ?_⟩
    obtain ⟨H1, e1, v1, r1⟩ := dT (K := K) (vs := []) (ds := []) m1 .nil
    rw [e1]
    refine ⟨_, rfl, _, rfl, _, rfl, lz2, fun f1 n1 => ⟨lz1, fun f2 n2 => ?_⟩⟩
    obtain ⟨H2, e2, v2, r2⟩ := text (z := "m") (w9.trans (sg.trans v1)) n1 n2
    rw [e2]
    have sv2 := sg.trans (v1.trans v2)
    refine ⟨lz3, fun f3 n3 => ?_⟩
    obtain ⟨H3, e3, v3, r3⟩ := dT (K := K) n3 (.cons (.str "b") (.cons (dp_same sv2 _ _ hx) (.cons r2 .nil)))
    rw [e3]
    have sv3 := sv2.trans v3
    refine ⟨lz2, fun f4 n4 => ?_⟩
    obtain ⟨H4, e4, v4, r4⟩ := dT (K := K) n4 (.cons (dp_same sv3 _ _ boxed9) (.cons r3 .nil))
    rw [e4]
    refine ⟨lz2, fun f5 n5 => ?_⟩
    obtain ⟨H5, e5, v5, r5⟩ := dT (K := K) n5 (.cons (dp_same (v2.trans (v3.trans v4)) _ _ r1) (.cons r4 .nil))
    rw [e5]
    refine ⟨_, twoP [("x", 2)] bb "m" "m", rfl, r5, two_ok (own_ok (by decide +kernel)) ob2 (by decide +kernel) (by decide +kernel), fun H6 L as v6 nL hL hA => ?_⟩
    refine ⟨lz1, fun q1 w1 => ⟨lz1, fun q2 w2 => ⟨lz2, fun q3 w3 => ?_⟩⟩⟩
    refine cmp hL hA lo w1 w2 w3 fun H7 v7 => ⟨_, rfl, iteF ?_⟩
    exact ⟨_, rfl, sv3.trans (v4.trans (v5.trans (v6.trans v7)))⟩
  obtain ⟨y4, rfl, sg⟩ := h
  -- a hand twice
  refine ⟨Nat.zero_le _, fun c1 m1 => ?_⟩
  obtain ⟨H1, e1, v1, r1⟩ := dT (K := K) (vs := []) (ds := []) m1 .nil
  rw [e1]
  refine ⟨_, rfl, lz1, fun f1 n1 => ?_⟩
  have v2 := same_new (o := .tup [.str "b"]) n1
  have hf1 : SqT K (upd H1 f1 (.tup [.str "b"])) f1 [.str "b"] := SqT.of upd_same
  generalize upd H1 f1 (.tup [.str "b"]) = H2 at v2 hf1 ⊢
  have sv2 := sg.trans (v1.trans v2)
  have bx := dp_same sv2 _ _ boxed9
  obtain ⟨hc, k0, k1, k2, ec, hhc, _, g1, g2⟩ := dp3 bx
  cases ec
  refine ⟨_, rfl, 1, rfl, ?_⟩
  unfold tNoPart
  refine sl_any hhc fun s1 H3 hs1 v3 => ?_
  refine cat_two (same_tup v3 hf1) hs1 (by show 3 ≤ 1000; decide) fun s2 H4 hs2 v4 => ⟨lz2, fun f4 n4 => ?_⟩
  have v24 := v3.trans v4
  have r3 : Dp K H4 (.ref s2) (handD (hd2 "b" [("x", 2)] "m")) := .tup hs2 (.cons (.str _) (.cons (dp_same v24 _ _ g1) (.cons (dp_same v24 _ _ g2) .nil)))
  obtain ⟨H5, e5, v5, r5⟩ := dT (K := K) n4 (.cons (dp_same v24 _ _ bx) (.cons r3 .nil))
  rw [e5]
  refine ⟨lz2, fun f5 n5 => ?_⟩
  obtain ⟨H6, e6, v6, r6⟩ := dT (K := K) n5 (.cons (dp_same (v2.trans (v24.trans v5)) _ _ r1) (.cons r5 .nil))
  rw [e6]
  refine ⟨_, twoP [("x", 2)] [("x", 2)] "m" "m", rfl, r6, two_ok (own_ok (by decide +kernel)) (own_ok (by decide +kernel)) (by decide +kernel) (by decide +kernel), fun H7 L as v7 nL hL hA => ?_⟩
  refine ⟨lz2, fun q1 w1 => ⟨lz1, fun q3 w3 => ?_⟩⟩
  rw [l6] at hA
  obtain ⟨H8, e8, v8, r8, _⟩ := dL (K := K) (vs := [.int 0, .int 1]) (ds := [.int 0, .int 1]) w1 (.cons (.int _) (.cons (.int _) .nil))
  rw [e8] at w3 ⊢
  obtain ⟨H9, e9, v9, r9, _⟩ := dL (K := K) w3 (.cons r8 .nil)
  rw [e9]
  have v79 := v8.trans v9
  refine ⟨.list ([[0, 1]].map lotD), .list ([[0, 1]].map lotD), .lst (SqL.of (v79 _ _ hL)) (hA.keep (H' := H9) fun a l _ e => v79 _ _ e).dp, r9, (lots_lay _).shaped (by decide), (lots_lay _).shaped (by decide), ?_⟩
  rw [eqv_self (lots_noB _)]
  exact q H9 (sH9.trans (sv2.trans (v24.trans (v5.trans (v6.trans (v7.trans v79))))))
end
end PP

set_option maxHeartbeats 8000000
namespace PP
open PySem PySem.Spec PyProof.Rows L2 G0 G1 G3 G4 G5 M0 PA EE QA HX SA T2
theorem row_layP {p : Prog} (ok : ProgOk p) {h : Hand} (hh : h ∈ p.2) {t : PA.Text} (ht : t ∈ h.2.2) {r : PA.Row} (hr : r ∈ t.2) : LayD 2 r.data := by
  have ob := boxes_str (ok.own h hh)
  exact row_lay ((ok.txt h hh).row t ht r hr) (fun x hx => by
    rcases List.mem_append.mp hx with z | z
    · exact boxes_str ok.box x z
    · exact ob x z) (fun x hx => by
    obtain ⟨g, hg, rfl⟩ := List.mem_map.mp hx
    exact name_ok ((ok.txt h hh).nm g hg).1) fun x hx => by
    obtain ⟨g, hg, rfl⟩ := List.mem_map.mp (List.mem_filter.mp hx).1
    exact name_ok (ok.nm g hg)
theorem told_show {m : Nat} {d : PyData} (h : NB m d) (hm : m ≤ 1000) (hd : d.depth ≤ 2) : ShowOk (.list [.str "told", d]) :=
  nb_show (m := (1000 + 1) * 2) (NB.lst (nb2 ((word_nice (by simp)).up (by decide)) (h.up hm)) (Nat.le_refl _)) (by decide) (Nat.le_trans (depth_list (k := 2) fun x hx => by
    rcases List.mem_cons.mp hx with rfl | hx
    · simp only [PyData.depth]
      exact Nat.zero_le _
    · rw [List.mem_singleton.mp hx]
      exact hd) (by decide))
theorem row_at_ok {p : Prog} (ok : ProgOk p) (sh : Short p) {h : Hand} (hh : h ∈ p.2) (a b : Int) : NB 100 (rowAt h.2.2 a b).data ∧ (rowAt h.2.2 a b).data.depth ≤ 2 := by
  have bk : NB 100 (PA.Row.back).data ∧ (PA.Row.back).data.depth ≤ 2 := ⟨(NB.tup (n := 1) (nb1 (word_nice (by simp))) (Nat.le_refl _)).up (by decide), by decide⟩
  unfold rowAt
  cases e : h.2.2[a.toNat]? with
  | none => exact bk
  | some t =>
    have ht := List.mem_of_getElem? e
    cases e2 : t.2[b.toNat]? with
    | none =>
      simp only [e2, Option.getD_none]
      exact bk
    | some r =>
      have hr := List.mem_of_getElem? e2
      simp only [e2, Option.getD_some]
      exact ⟨sh.row ok hh ht hr, (row_layP ok hh ht hr).2⟩
theorem ans_show {p : Prog} (ok : ProgOk p) (sh : Short p) {d e : PyData} (ad : Asked d) (ae : Asked e) : ShowOk (ansD p d e) := by
  have nn : ShowOk .none := ⟨by decide +kernel, by decide +kernel, by decide +kernel⟩
  cases em : mHand p.2.length d with
  | false =>
    rw [ans_hand em]
    exact ad.hand
  | true =>
    obtain ⟨i, rfl⟩ : ∃ i, d = .int i := by
      cases d with
      | int i => exact ⟨i, rfl⟩
      | _ => exact Bool.noConfusion (show false = true from em)
    cases eh : p.2[i.toNat]? with
    | none =>
      unfold ansD
      rw [em]
      simp only [eh]
      exact nn
    | some h =>
      cases ep : mPoint h.2.2 e with
      | false =>
        rw [ans_point em eh ep]
        exact ae.point
      | true =>
        obtain ⟨a, b, t, rfl, _⟩ := point_parts ep
        rw [ans_told em eh ep]
        obtain ⟨q1, q2⟩ := row_at_ok ok sh (List.mem_of_getElem? eh) a b
        exact told_show q1 (by decide) q2
def odds : List PyData := [.none, .bool true, .int (-1), .str "0", .tuple [.int 0, .int 0], .int 3, .list [], .tuple [.int 0], .tuple [.int 0, .int 0, .int 0], .list [.int 0, .int 0], .tuple [.int 0, .bool true], .tuple [.int 0, .int (-1)], .tuple [.int 1, .int 9], .tuple [.none, .int 0], .int (10 ^ 20)]
theorem odds_asked : ∀ d ∈ odds, Asked d := fun d hd => asked_of (List.all_eq_true.mp (show odds.all askedB = true by decide +kernel) d hd)
theorem who_asked {i : Int} (h0 : 0 ≤ i) (h1 : i < 3) : Asked (.int i) := by
  have : i = 0 ∨ i = 1 ∨ i = 2 := by omega
  rcases this with rfl | rfl | rfl <;> exact asked_of (by decide +kernel)
theorem spots_all : ((List.range 3).all fun a => (List.range 6).all fun b => askedB (.tuple [.int (a : Nat), .int (b : Nat)])) = true := by decide +kernel
theorem spot_asked {a b : Int} (a0 : 0 ≤ a) (a1 : a < 3) (b0 : 0 ≤ b) (b1 : b < 6) : Asked (.tuple [.int a, .int b]) := by
  have z := List.all_eq_true.mp (List.all_eq_true.mp spots_all a.toNat (List.mem_range.mpr (by omega))) b.toNat (List.mem_range.mpr (by omega))
  rw [Int.toNat_of_nonneg a0, Int.toNat_of_nonneg b0] at z
  exact asked_of z
/-- a def's promise where no repr is under way -/
structure DefG (P : Program) (w : World) (K : PySem.W.Frag) (mg : Str → Option Value) (base : Heap) (CX : CXT) (k : Nat) (x : Str) (ps : List Str) (sp : Sp) where
  f : Addr
  d : FuncData
  ok : FnG P w K mg base CX k f d ps sp
  g : mg x = some (.ref f)
  kp : PySem.W.keepIn K (.ref f) = true
  b : Binds K d ps []
structure Facts (P : Program) (w : World) (K : PySem.W.Frag) (mg : Str → Option Value) (base : Heap) where
  SH : Err P w K mg base "NoHand" ["hand"]
  SP : Err P w K mg base "NoPoint" ["point"]
  dL : Def P w K mg base CX0 7 "_law_likes_right" [] spTrue
  dO : Def P w K mg base CX0 1 "_law_pool" ["_law_script", "_law_k"] (spPool K)
  dP : Def P w K mg base CX0 5 "_law_program" ["_law_pool_here", "_law_most", "_law_deep"] (spProg K)
  dW : Def P w K mg base CX0 2 "_law_twice" ["_law_pool_here", "_law_prog"] (spTwice K)
  dI : Def P w K mg base CX0 7 "_law_lists_right" ["_law_prog"] (spLists K)
  dT : Def P w K mg base CX0 1 "_law_take" ["_law_pool_here", "_law_many"] spTake
  dA : DefG P w K mg base CX0 7 "_law_told" ["_law_prog", "_law_who", "_law_spot"] (spAns K)
  dD : DefG P w K mg base CX0 1 "_law_due" ["_law_prog", "_law_who", "_law_spot"] (spAnsS K)
  dR : Def P w K mg base (L2.CX P w) 6 "row_at" ["program", "hand", "point"] (spRowAt K SH.C SP.C)
  kR : KBinds K dR.d ["program", "hand", "point"] ["point", "hand", "program"] gR3 gR3
  mlen : mg "len" = none
  mmax : mg "max" = none
  mmin : mg "min" = none
  mran : mg "range" = none
  mrep : mg "repr" = none
abbrev nLaw : List Str := ["_law_script", "_law_k", "_law_pool_here", "_law_prog", "_law_kept", "_law_odd", "_law_turn", "_law_who", "_law_spot", "_law_bad", "_law_worse", "_law_own"]
theorem scLaw : FnScope nLaw ["_law_script"] (defScope s_law) := ⟨rfl, rfl, rfl, by decide +kernel, rfl, by decide +kernel, by decide +kernel⟩
theorem dTp {K : PySem.W.Frag} {G : Hp} {p t : Addr} {vs : List V} {ds : List PyData} (pl : Pool G p) (n : G t = none) (h : DpAll K (off p G) vs ds) : ∃ G', upd G t (.tup vs) = G' ∧ Same G G' ∧ Pool G' p ∧ Same (off p G) (off p G') ∧ Dp K (off p G') (.ref t) (.tuple ds) ∧ SqT K (off p G') t vs := by
  obtain ⟨a, b, c⟩ := new_tup (H := G) pl n (Same.refl _) h
  exact ⟨_, rfl, same_new n, a, b, c, SqT.of (by rw [off_ne (pool_ne pl n)]; exact upd_same)⟩
theorem dLp {K : PySem.W.Frag} {G : Hp} {p t : Addr} {vs : List V} {ds : List PyData} (pl : Pool G p) (n : G t = none) (h : DpAll K (off p G) vs ds) : ∃ G', upd G t (.lst vs) = G' ∧ Same G G' ∧ Pool G' p ∧ Same (off p G) (off p G') ∧ Dp K (off p G') (.ref t) (.list ds) ∧ (off p G') t = some (.lst vs) := by
  have ne := pool_ne pl n
  have s2 : Same (off p G) (off p (upd G t (.lst vs))) := off_mono (same_new n)
  have e : (off p (upd G t (.lst vs))) t = some (.lst vs) := by
    rw [off_ne ne]
    exact upd_same
  exact ⟨_, rfl, same_new n, pool_put pl ne, s2, .lst (SqL.of e) (dpAll_same s2 _ _ h), e⟩
section
variable {P : Program} {w : World} {K : PySem.W.Frag} {mg : Str → Option Value} {base : Heap}
theorem law_body (X : Facts P w K mg base) {fa : Addr} {cdv : Value} {s : Shared} {H : Hp} {a : Addr} {ns : List Int} (hS : SqL K H a (ns.map V.int)) (hl : ns.length ≤ 63)
    (hr : Room 7 (callerA.deeper (envOfC "law" (defScope s_law) s.heap.objs.size fa cdv))) :
    ∃ t, PSs (cxOf CX0 P w K mg base nLaw "law" (defScope s_law) fa cdv callerA [] s H (fun _ _ _ => False)).nox (defBody s_law) t ∧ t { nx := fun _ _ => False, rt := fun v _ => v = .bl true } (start nLaw [.ref a]) H := by
  have nd := scLaw.nd
  have hr1 := hr.mono (show 1 ≤ 7 by decide)
  have hr2 := hr.mono (show 2 ≤ 7 by decide)
  have hr5 := hr.mono (show 5 ≤ 7 by decide)
  have hr6 := hr.mono (show 6 ≤ 7 by decide)
  refine ⟨_, pss_cons (ps_if (pt_not (pt_val (pe_call0 X.dL.ok hr (by rfl) X.dL.g X.dL.kp X.dL.b .nil pass0))) (pss_one (ps_ret pe_bl)) pss_nil)
    (pss_cons (ps_for PassesOwn.never rfl (pi_range1 (by rfl) X.mran (pa_cons (pe_callB (call_max2 rfl) (by rfl) X.mmax (by decide +kernel) (pa_cons pe_int (pa_cons (pe_callB (call_min2 rfl) (by rfl) X.mmin (by decide +kernel) (pa_cons (pe_callB call_len_seq (by rfl) X.mlen PySem.boot_len (pa_cons (pv 0) pa_nil)) (pa_cons pe_int pa_nil))) pa_nil))) pa_nil)) (pg_name (i := 1) nd rfl (.inl rfl))
      (pss_cons (ps_set (i := 2) nd rfl (.inl rfl) (pe_call X.dO.ok hr1 (by rfl) X.dO.g X.dO.kp X.dO.b .nil pass0 (pa_cons (pv 0) (pa_cons (pv 1) pa_nil))))
      (pss_cons (ps_set (i := 3) nd rfl (.inl rfl) (pe_call X.dW.ok hr2 (by rfl) X.dW.g X.dW.kp X.dW.b .nil pass0 (pa_cons (pv 2) (pa_cons (pe_call X.dP.ok hr5 (by rfl) X.dP.g X.dP.kp X.dP.b .nil pass0 (pa_cons (pv 2) (pa_cons pe_int (pa_cons pe_bl pa_nil)))) pa_nil))))
      (pss_cons (ps_set (i := 4) nd rfl (.inl rfl) (pe_callB (call_reprD rfl hr.units) (by rfl) X.mrep (by decide +kernel) (pa_cons (pv 3) pa_nil)))
      (pss_cons (ps_if (pt_not (pt_val (pe_call X.dI.ok hr (by rfl) X.dI.g X.dI.kp X.dI.b .nil pass0 (pa_cons (pv 3) pa_nil)))) (pss_one (ps_ret pe_bl)) pss_nil)
      (pss_cons (ps_set (i := 5) nd rfl (.inl rfl) (pe_lst (pa_cons pe_non (pa_cons pe_bl (pa_cons (pe_un un_neg pe_int) (pa_cons pe_str (pa_cons (pe_tup (pa_cons pe_int (pa_cons pe_int pa_nil))) (pa_cons pe_int (pa_cons (pe_lst pa_nil) (pa_cons (pe_tup (pa_cons pe_int pa_nil)) (pa_cons (pe_tup (pa_cons pe_int (pa_cons pe_int (pa_cons pe_int pa_nil))))
        (pa_cons (pe_lst (pa_cons pe_int (pa_cons pe_int pa_nil))) (pa_cons (pe_tup (pa_cons pe_int (pa_cons pe_bl pa_nil))) (pa_cons (pe_tup (pa_cons pe_int (pa_cons (pe_un un_neg pe_int) pa_nil))) (pa_cons (pe_tup (pa_cons pe_int (pa_cons pe_int pa_nil))) pa_nil)))))))))))))))
      (pss_cons (ps_set (i := 5) nd rfl (.inl rfl) (pe_op op_cat (pv 5) (pe_lst (pa_cons (pe_tup (pa_cons pe_non (pa_cons pe_int pa_nil))) (pa_cons (pe_op op_pow pe_int pe_int) pa_nil)))))
      (pss_cons (ps_for PassesOwn.never rfl (pi_range1 (by rfl) X.mran (pa_cons pe_int pa_nil)) (pg_name (i := 6) nd rfl (.inl rfl))
        (pss_cons (ps_set (i := 7) nd rfl (.inl rfl) (pe_call X.dT.ok hr1 (by rfl) X.dT.g X.dT.kp X.dT.b .nil pass0 (pa_cons (pv 2) (pa_cons (pe_callB call_len_seq (by rfl) X.mlen PySem.boot_len (pa_cons (pe_ix ix_tup (pv 3) pe_int (fun _ _ => rfl)) pa_nil)) pa_nil))))
        (pss_cons (ps_set (i := 8) nd rfl (.inl rfl) (pe_tup (pa_cons (pe_call X.dT.ok hr1 (by rfl) X.dT.g X.dT.kp X.dT.b .nil pass0 (pa_cons (pv 2) (pa_cons pe_int pa_nil))) (pa_cons (pe_call X.dT.ok hr1 (by rfl) X.dT.g X.dT.kp X.dT.b .nil pass0 (pa_cons (pv 2) (pa_cons pe_int pa_nil))) pa_nil))))
        (pss_cons (ps_par (i := 9) (j := 10) (by rfl) nd rfl rfl (by decide) rfl rfl (pa_cons (pe_ix ix_list (pv 5) (pe_call X.dT.ok hr1 (by rfl) X.dT.g X.dT.kp X.dT.b .nil pass0 (pa_cons (pv 2) (pa_cons pe_int pa_nil))) (fun _ _ => rfl)) (pa_cons (pe_ix ix_list (pv 5) (pe_call X.dT.ok hr1 (by rfl) X.dT.g X.dT.kp X.dT.b .nil pass0 (pa_cons (pv 2) (pa_cons pe_int pa_nil))) (fun _ _ => rfl)) pa_nil)) (by rfl))
        (pss_cons (ps_for PassesOwn.never rfl (pi_list (pe_lst (pa_cons (pe_tup (pa_cons (pv 7) (pa_cons (pv 8) pa_nil))) (pa_cons (pe_tup (pa_cons (pv 9) (pa_cons (pv 8) pa_nil))) (pa_cons (pe_tup (pa_cons (pv 7) (pa_cons (pv 9) pa_nil))) (pa_cons (pe_tup (pa_cons (pv 9) (pa_cons (pv 10) pa_nil))) pa_nil)))))) (pg_tup rfl (pgs_cons (pg_name (i := 11) nd rfl (.inl rfl)) (pgs_cons (pg_name (i := 8) nd rfl (.inl rfl)) pgs_nil)))
          (pss_one (ps_if (pt_cmpR op_ne (pe_callB (call_reprD rfl hr.units) (by rfl) X.mrep (by decide +kernel) (pa_cons (pe_callG X.dA.ok rfl hr (by rfl) X.dA.g X.dA.kp X.dA.b pass0 (pa_cons (pv 3) (pa_cons (pv 11) (pa_cons (pv 8) pa_nil)))) pa_nil))
            (pe_callB (call_reprD rfl hr.units) (by rfl) X.mrep (by decide +kernel) (pa_cons (pe_callG X.dD.ok rfl hr1 (by rfl) X.dD.g X.dD.kp X.dD.b pass0 (pa_cons (pv 3) (pa_cons (pv 11) (pa_cons (pv 8) pa_nil)))) pa_nil)) (nomark _)) (pss_one (ps_ret pe_bl)) pss_nil)))
        (pss_one (ps_if (pt_cmpR (op_neD hr.units) (pe_named X.dR.ok hr6 (by rfl) X.dR.g X.dR.kp X.kR passL (pk_cons (pe_tup (pa_cons pe_int (pa_cons pe_int pa_nil))) (pk_cons (pv 7) (pk_cons (pv 3) pk_nil))))
          (pe_ix ix_tup (pe_ix ix_tup (pe_ix ix_tup (pe_ix ix_tup (pe_ix ix_tup (pe_ix ix_tup (pv 3) pe_int (fun _ _ => rfl)) (pv 7) (fun _ _ => rfl)) pe_int (fun _ _ => rfl)) pe_int (fun _ _ => rfl)) pe_int (fun _ _ => rfl)) pe_int (fun _ _ => rfl)) (nomark _)) (pss_one (ps_ret pe_bl)) pss_nil)))))))
      (pss_one (ps_if (pt_cmpR op_ne (pe_callB (call_reprD rfl hr.units) (by rfl) X.mrep (by decide +kernel) (pa_cons (pv 3) pa_nil)) (pv 4) (nomark _)) (pss_one (ps_ret pe_bl)) pss_nil))))))))))
    (pss_one (ps_ret pe_bl))), ?_⟩
  refine ⟨rfl, fun Hq sq => ⟨_, rfl, iteF ?_⟩⟩
  have hSq := sq.seq hS
  refine ⟨_, rfl, a, _, rfl, .inl hSq, _, _, rfl, _, _, rfl, ?_⟩
  obtain ⟨n, en, hn⟩ : ∃ n : Nat, (if (if (16 : Int) < ((ns.map V.int).length : Int) then (16 : Int) else ((ns.map V.int).length : Int)) > 1 then (if (16 : Int) < ((ns.map V.int).length : Int) then (16 : Int) else ((ns.map V.int).length : Int)) else 1) = (n : Int) ∧ n ≤ 16 := by
    refine ⟨(if (if (16 : Int) < ((ns.map V.int).length : Int) then (16 : Int) else ((ns.map V.int).length : Int)) > 1 then (if (16 : Int) < ((ns.map V.int).length : Int) then (16 : Int) else ((ns.map V.int).length : Int)) else 1).toNat, ?_, ?_⟩ <;> (split <;> split <;> omega)
  refine ⟨(n : Int), congrArg (fun z => [V.int z]) en, by omega, by omega, ?_⟩
  rw [show ((n : Int)).toNat = n from Int.toNat_natCast n]
  refine for_range (n := n) (fun i σ H3 => ∃ y1 y2 y3 y4 y5 y6 y7 y8 y9 y10 y11, σ = [some (.ref a), y1, y2, y3, y4, y5, y6, y7, y8, y9, y10, y11] ∧ SqL K H3 a (ns.map V.int))
    ⟨none, none, none, none, none, none, none, none, none, none, none, rfl, hSq⟩ (fun i σ H1 hi hP => ?_) (fun σ H3 hP => ?_)
  · obtain ⟨y1, y2, y3, y4, y5, y6, y7, y8, y9, y10, y11, rfl, hS1⟩ := hP
    refine ⟨_, rfl, _, rfl, a, ns, i, congrArg (fun z : Int => [V.ref a, V.int z]) (Int.zero_add (i : Int)), hS1, by omega, fun p x0 y0 np hx0 hy0 hy20 => ?_⟩
    have pl : Pool (upd H1 p (.lst [.int x0, .int y0])) p := ⟨x0, y0, upd_same, hx0, hy0, hy20⟩
    have sO : Same H1 (M0.off p (upd H1 p (.lst [.int x0, .int y0]))) := off_new np
    generalize upd H1 p (.lst [.int x0, .int y0]) = H2 at pl sO ⊢
    refine ⟨_, rfl, _, rfl, p, 3, rfl, pl, by decide, by decide, fun H3 u0 pr0 pl3 s3 hu0 ok0 few kn => ?_⟩
    refine ⟨p, u0, pr0, rfl, pl3, hu0, ok0, kn, by omega, fun H4 u pr pl4 s4 hu ok sh => ?_⟩
    have sP := sO.trans (s3.trans s4)
    have hS4 : SqL K (M0.off p H4) a (ns.map V.int) := sP.seq hS1
    have prs : ShowOk (progD pr) := nb_show (sh.nice ok) (by decide) (Nat.le_trans (prog_lay ok).2 (by decide))
    refine ⟨_, rfl, _, progD pr, rfl, dp_same off_sub _ _ hu, prs.1, prs.2.1, prs.2.2, ?_⟩
    refine ⟨_, rfl, _, pr, rfl, dp_same off_sub _ _ hu, ok, fun H5 s5 => ⟨_, rfl, iteF ?_⟩⟩
    have pl5 := pool_same pl4 s5
    have z5 : Same (M0.off p H4) (M0.off p H5) := off_mono s5
    -- odd things
    refine ⟨_, rfl, lz2, fun t1 n1 => ?_⟩
    obtain ⟨G1, e1, _, pl6, s6, d5, _⟩ := dTp (K := K) (vs := [.int 0, .int 0]) (ds := [.int 0, .int 0]) pl5 n1 (.cons (.int _) (.cons (.int _) .nil))
    rw [e1]
    refine ⟨Nat.zero_le _, fun t2 n2 => ?_⟩
    obtain ⟨G2, e2, _, pl7, s7, d7, _⟩ := dLp (K := K) (vs := []) (ds := []) pl6 n2 .nil
    rw [e2]
    refine ⟨lz1, fun t3 n3 => ?_⟩
    obtain ⟨G3, e3, _, pl8, s8, d8, _⟩ := dTp (K := K) (vs := [.int 0]) (ds := [.int 0]) pl7 n3 (.cons (.int _) .nil)
    rw [e3]
    refine ⟨lz3, fun t4 n4 => ?_⟩
    obtain ⟨G4, e4, _, pl9, s9, d9, _⟩ := dTp (K := K) (vs := [.int 0, .int 0, .int 0]) (ds := [.int 0, .int 0, .int 0]) pl8 n4 (.cons (.int _) (.cons (.int _) (.cons (.int _) .nil)))
    rw [e4]
    refine ⟨lz2, fun t5 n5 => ?_⟩
    obtain ⟨G5, e5, _, pl10, s10, d10, _⟩ := dLp (K := K) (vs := [.int 0, .int 0]) (ds := [.int 0, .int 0]) pl9 n5 (.cons (.int _) (.cons (.int _) .nil))
    rw [e5]
    refine ⟨lz2, fun t6 n6 => ?_⟩
    obtain ⟨G6, e6, _, pl11, s11, d11, _⟩ := dTp (K := K) (vs := [.int 0, .bl true]) (ds := [.int 0, .bool true]) pl10 n6 (.cons (.int _) (.cons (.bl _) .nil))
    rw [e6]
    refine ⟨_, rfl, lz2, fun t7 n7 => ?_⟩
    obtain ⟨G7, e7, _, pl12, s12, d12, _⟩ := dTp (K := K) (vs := [.int 0, .int (-1)]) (ds := [.int 0, .int (-1)]) pl11 n7 (.cons (.int _) (.cons (.int _) .nil))
    rw [e7]
    refine ⟨lz2, fun t8 n8 => ?_⟩
    obtain ⟨G8, e8, _, pl13, s13, d13, _⟩ := dTp (K := K) (vs := [.int 1, .int 9]) (ds := [.int 1, .int 9]) pl12 n8 (.cons (.int _) (.cons (.int _) .nil))
    rw [e8]
    have m12 := dp_same s13 _ _ d12
    have m11 := dp_same (s12.trans s13) _ _ d11
    have m10 := dp_same (s11.trans (s12.trans s13)) _ _ d10
    have m9 := dp_same (s10.trans (s11.trans (s12.trans s13))) _ _ d9
    have m8 := dp_same (s9.trans (s10.trans (s11.trans (s12.trans s13)))) _ _ d8
    have m7 := dp_same (s8.trans (s9.trans (s10.trans (s11.trans (s12.trans s13))))) _ _ d7
    have m5 := dp_same (s7.trans (s8.trans (s9.trans (s10.trans (s11.trans (s12.trans s13)))))) _ _ d5
    have z8 := z5.trans (s6.trans (s7.trans (s8.trans (s9.trans (s10.trans (s11.trans (s12.trans s13)))))))
    clear e1 e2 e3 e4 e5 e6 e7 e8 n1 n2 n3 n4 n5 n6 n7 n8 s6 s7 s8 s9 s10 s11 s12 s13 d5 d7 d8 d9 d10 d11 d12 pl6 pl7 pl8 pl9 pl10 pl11 pl12 z5 s5 pl5
    refine ⟨by show 13 ≤ sizeLine; decide, fun o1 m1 => ?_⟩
    have dA : DpAll K (M0.off p G8) [.non, .bl true, .int (-1), .str "0", .ref t1, .int 3, .ref t2, .ref t3, .ref t4, .ref t5, .ref t6, .ref t7, .ref t8] (odds.take 13) :=
      .cons .non (.cons (.bl _) (.cons (.int _) (.cons (.str _) (.cons m5 (.cons (.int _) (.cons m7 (.cons m8 (.cons m9 (.cons m10 (.cons m11 (.cons m12 (.cons d13 .nil))))))))))))
    obtain ⟨G9, e9, _, pl14, s14, _, h14⟩ := dLp (K := K) pl13 m1 dA
    rw [e9]
    have h14' := (off_at h14).1
    refine ⟨_, rfl, lz2, fun t9 n9 => ?_⟩
    obtain ⟨G10, e10, r10, pl15, s15, d15, _⟩ := dTp (K := K) (vs := [.non, .int 0]) (ds := [.none, .int 0]) pl14 n9 (.cons .non (.cons (.int _) .nil))
    rw [e10]
    have h15 := r10 _ _ h14'
    refine ⟨_, _, rfl, rfl, ⟨by decide, by decide, by decide⟩, lz2, fun o2 m2 => ?_⟩
    have s16 := off_mono (p := p) (same_new (o := .lst [.ref t9, .int (10 ^ 20)]) m2)
    have h16 := same_new (o := .lst [.ref t9, .int (10 ^ 20)]) m2 _ _ h15
    have pl16 := pool_same pl15 (same_new (o := .lst [.ref t9, .int (10 ^ 20)]) m2)
    have g16 : upd G10 o2 (.lst [.ref t9, .int (10 ^ 20)]) o2 = some (.lst [.ref t9, .int (10 ^ 20)]) := upd_same
    refine (show rCat (.ref o1) (.ref o2) (upd G10 o2 (.lst [.ref t9, .int (10 ^ 20)])) _ from ?_)
    refine ⟨o1, o2, _, _, rfl, rfl, h16, g16, by show 15 ≤ sizeLine; decide, fun o m => ?_⟩
    generalize upd G10 o2 (.lst [.ref t9, .int (10 ^ 20)]) = G11 at s16 h16 pl16 g16 m ⊢
    have dB : DpAll K (M0.off p G11) ([.non, .bl true, .int (-1), .str "0", .ref t1, .int 3, .ref t2, .ref t3, .ref t4, .ref t5, .ref t6, .ref t7, .ref t8] ++ [.ref t9, .int (10 ^ 20)]) odds :=
      dpAll_app (dpAll_same (s14.trans (s15.trans s16)) _ _ dA) (.cons (dp_same s16 _ _ d15) (.cons (.int _) .nil))
    obtain ⟨Go, eo, _, plo, so, _, ho⟩ := dLp (K := K) pl16 m dB
    rw [eo]
    have dO := dpAll_same so _ _ dB
    have zo := z8.trans (s14.trans (s15.trans (s16.trans so)))
    have hu1 := dp_same zo _ _ hu
    have hSo := zo.seq hS4
    generalize ([.non, .bl true, .int (-1), .str "0", .ref t1, .int 3, .ref t2, .ref t3, .ref t4, .ref t5, .ref t6, .ref t7, .ref t8] ++ [.ref t9, .int (10 ^ 20)] : List V) = vo at ho dO
    clear e9 e10 eo r10 h14 h14' h15 h16 g16 s14 s15 s16 so dA dB z8 m5 m7 m8 m9 m10 m11 m12 d13 d15 m1 m2 m n9 pl13 pl14 pl15 pl16 zo
    refine ⟨8, rfl, by decide, by decide, for_range (n := 8) (fun _ σ G => ∃ w6 w7 w8 w9 w10 w11, σ = [some (.ref a), some (.int (0 + (i : Int))), some (.ref p), some u, some (.str (progD pr).shown), some (.ref o), w6, w7, w8, w9, w10, w11] ∧ Pool G p ∧ Same (M0.off p Go) (M0.off p G))
      ⟨_, _, _, _, _, _, rfl, plo, Same.refl _⟩ (fun i' σ H6 hi' hP => ?_) (fun σ H6 hP => ?_)⟩
    · obtain ⟨w6, w7, w8, w9, w10, w11, rfl, pl6, sm⟩ := hP
      have item : ∀ r : Int, 0 ≤ r → r < 15 → ∃ v d, atI vo r = some v ∧ Dp K (M0.off p Go) v d ∧ Asked d := fun r r0 r1 => by
        have hi : r.toNat < odds.length := by
          show r.toNat < 15
          omega
        obtain ⟨v, hv, hd⟩ := dpAll_getD dO (List.getElem?_eq_getElem hi)
        have z := atI_nat (xs := vo) hv
        rw [Int.toNat_of_nonneg r0] at z
        exact ⟨v, _, z, hd, odds_asked _ (List.getElem_mem hi)⟩
      have l3 := sh.hands
      have one := ok.one
      obtain ⟨va, x1, x2, rfl, hva, _, d2⟩ := dp2 hu1
      obtain ⟨xa, xs, rfl, hxs, hall⟩ := dp_tup d2
      have hxl : xs.length = pr.2.length := by rw [dpAll_len hall, List.length_map]
      have up : ∀ {G : Hp} {b : Addr} {ys : List V}, Same (M0.off p Go) (M0.off p G) → SqT K (M0.off p Go) b ys → SqT K G b ys := fun z h => same_tup (z.trans off_sub) h
      refine ⟨_, rfl, _, rfl, va, _, 1, _, rfl, rfl, up sm hva, atI_nat (j := 1) rfl, xa, xs, rfl, .inr (up sm hxs), p, _, rfl, pl6, by omega, by omega, fun H7 r pl7 o7 r0 r1 => ?_⟩
      rw [hxl] at r1
      refine ⟨_, rfl, p, 3, rfl, pl7, by decide, by decide, fun H8 b0 pl8 o8 b00 b01 => ⟨_, rfl, p, 6, rfl, pl8, by decide, by decide, fun H9 b1 pl9 o9 b10 b11 => ⟨lz2, fun ts nts => ?_⟩⟩⟩
      have sm9 : Same (M0.off p Go) (M0.off p H9) := by
        rw [o9, o8, o7]
        exact sm
      obtain ⟨H10, e10, _, pl10, s10, dspot, _⟩ := dTp (K := K) (vs := [.int b0, .int b1]) (ds := [.int b0, .int b1]) pl9 nts (.cons (.int _) (.cons (.int _) .nil))
      rw [e10]
      have sm10 := sm9.trans s10
      refine ⟨_, rfl, _, rfl, p, 15, rfl, pl10, by decide, by decide, fun H11 q1 pl11 o11 q10 q11 => ?_⟩
      have sm11 : Same (M0.off p Go) (M0.off p H11) := by
        rw [o11]
        exact sm10
      obtain ⟨bad, dbad, hbat, hbd, hba⟩ := item q1 q10 q11
      refine ⟨o, vo, q1, bad, rfl, rfl, SqL.of (off_sub _ _ (sm11 _ _ ho)), hbat, ?_⟩
      refine ⟨_, rfl, _, rfl, p, 15, rfl, pl11, by decide, by decide, fun H12 q2 pl12 o12 q20 q21 => ?_⟩
      have sm12 : Same (M0.off p Go) (M0.off p H12) := by
        rw [o12]
        exact sm11
      obtain ⟨worse, dworse, hwat, hwd, hwa⟩ := item q2 q20 q21
      refine ⟨o, vo, q2, worse, rfl, rfl, SqL.of (off_sub _ _ (sm12 _ _ ho)), hwat, ⟨_, _, rfl, ?_⟩⟩
      have spot12 : Dp K (M0.off p H12) (.ref ts) (.tuple [.int b0, .int b1]) := by
        rw [o12, o11]
        exact dspot
      have aw := who_asked (i := r) r0 (by omega)
      have asp := spot_asked b00 b01 b10 b11
      clear e10 nts dspot s10 sm9 sm10 sm11 pl7 pl8 pl9 pl10 pl11 o7 o8 o9 o11 o12 pl6 sm
      -- four pairs
      refine ⟨_, rfl, _, rfl, lz2, fun c1 m1 => ?_⟩
      obtain ⟨J1, e1, _, k1, s1, _, g1⟩ := dTp (K := K) pl12 m1 (.cons (.int r) (.cons spot12 .nil))
      rw [e1]
      refine ⟨_, rfl, _, rfl, lz2, fun c2 m2 => ?_⟩
      obtain ⟨J2, e2, _, k2, s2, _, g2⟩ := dTp (K := K) k1 m2 (.cons (dp_same (sm12.trans s1) _ _ hbd) (.cons (dp_same s1 _ _ spot12) .nil))
      rw [e2]
      refine ⟨_, rfl, _, rfl, lz2, fun c3 m3 => ?_⟩
      obtain ⟨J3, e3, _, k3, s3', _, g3⟩ := dTp (K := K) k2 m3 (.cons (.int r) (.cons (dp_same (sm12.trans (s1.trans s2)) _ _ hbd) .nil))
      rw [e3]
      refine ⟨_, rfl, _, rfl, lz2, fun c4 m4 => ?_⟩
      have s13 := s1.trans (s2.trans s3')
      obtain ⟨J4, e4, _, k4, s4', _, g4⟩ := dTp (K := K) k3 m4 (.cons (dp_same (sm12.trans s13) _ _ hbd) (.cons (dp_same (sm12.trans s13) _ _ hwd) .nil))
      rw [e4]
      refine ⟨by show 4 ≤ sizeLine; decide, fun Lp mL => ?_⟩
      have sL := same_new (o := .lst [.ref c1, .ref c2, .ref c3, .ref c4]) mL
      have kL := pool_same k4 sL
      have hL : upd J4 Lp (.lst [.ref c1, .ref c2, .ref c3, .ref c4]) Lp = some (.lst [.ref c1, .ref c2, .ref c3, .ref c4]) := upd_same
      generalize upd J4 Lp (.lst [.ref c1, .ref c2, .ref c3, .ref c4]) = G at sL kL hL ⊢
      have sLo := off_mono (p := p) sL
      have z4 := s4'.trans sLo
      have z3 := s3'.trans z4
      have z2 := s2.trans z3
      have z12 := s1.trans z2
      have zG := sm12.trans z12
      have f4 := same_tup sLo g4
      have f3 := same_tup z4 g3
      have f2 := same_tup z3 g2
      have f1 := same_tup z2 g1
      have spotG := dp_same z12 _ _ spot12
      have badG := dp_same zG _ _ hbd
      have worseG := dp_same zG _ _ hwd
      clear e1 e2 e3 e4 m1 m2 m3 m4 mL g1 g2 g3 g4 s1 s2 s3' s4' s13 sL sLo z4 z3 z2 k1 k2 k3 k4
      have prG := dp_same zG _ _ hu1
      refine ⟨Lp, rfl, ⟨_, SqL.of hL⟩, for_it (walk_list (a := Lp) (xs := [.ref c1, .ref c2, .ref c3, .ref c4]) (K := K)) (fun _ σ G' => ∃ y6 y8 y11, σ = [some (.ref a), some (.int (0 + (i : Int))), some (.ref p), some (.ref va), some (.str (progD pr).shown), some (.ref o), y6, some (.int r), y8, some bad, some worse, y11] ∧ Same G G')
        ⟨_, _, _, rfl, Same.refl _⟩ (fun i2 σ G' _ h => SqL.of (h.elim fun _ h => h.elim fun _ h => h.elim fun _ h => h.2 _ _ hL)) (fun i2 x σ G' G2 hi2 h y => ?_) (fun σ G' h => ?_)⟩
      · obtain ⟨y6, y8, y11, rfl, sg⟩ := h
        obtain ⟨rfl, ex⟩ := y
        obtain ⟨t, u1, u2, da, db, rfl, ht, hda, hdb, ada, adb⟩ : ∃ (t : Addr) (u1 u2 : V) (da db : PyData), x = .ref t ∧ SqT K (M0.off p G) t [u1, u2] ∧ Dp K (M0.off p G) u1 da ∧ Dp K (M0.off p G) u2 db ∧ Asked da ∧ Asked db := by
          match i2, ex with
          | 0, ex =>
            cases ex
            exact ⟨c1, _, _, _, _, rfl, f1, .int r, spotG, aw, asp⟩
          | 1, ex =>
            cases ex
            exact ⟨c2, _, _, _, _, rfl, f2, badG, spotG, hba, asp⟩
          | 2, ex =>
            cases ex
            exact ⟨c3, _, _, _, _, rfl, f3, .int r, badG, aw, hba⟩
          | 3, ex =>
            cases ex
            exact ⟨c4, _, _, _, _, rfl, f4, badG, worseG, hba, hwa⟩
        have sgo := (off_sub (p := p) (H := G)).trans sg
        have aS := ans_show ok sh ada adb
        refine ⟨t, _, rfl, same_tup sgo ht, rfl, _, _, rfl, _, _, rfl, rfl, ?_⟩
        refine ⟨_, rfl, _, rfl, _, rfl, .ref va, u1, u2, pr, da, db, rfl, dp_same sgo _ _ prG, ok, dp_same sgo _ _ hda, dp_same sgo _ _ hdb, ada, adb, fun K1 v1 t1 hv1 => ⟨v1, _, rfl, hv1, aS.1, aS.2.1, aS.2.2, ?_⟩⟩
        have sg1 := sgo.trans t1
        refine ⟨_, rfl, _, rfl, _, rfl, .ref va, u1, u2, pr, da, db, rfl, dp_same sg1 _ _ prG, ok, sh, dp_same sg1 _ _ hda, dp_same sg1 _ _ hdb, ada, adb, fun K2 v2 t2 hv2 => ⟨v2, _, rfl, hv2, aS.1, aS.2.1, aS.2.2, ?_⟩⟩
        refine ⟨rfl, _, rfl, iteNS rfl ?_⟩
        exact ⟨_, _, _, rfl, sg.trans (t1.trans t2)⟩
      · obtain ⟨y6, y8, y11, rfl, sg⟩ := h
        have hri : r.toNat < pr.2.length := by omega
        have hri' := List.getElem?_eq_getElem hri
        have hm : pr.2[r.toNat] ∈ pr.2 := List.getElem_mem hri
        have yes := hand_yes r0 hri'
        obtain ⟨z, hz, hzd⟩ := dpAll_getD hall (i := r.toNat) (d := handD (pr.2[r.toNat])) (by rw [List.getElem?_map, hri']; rfl)
        have hat : atI xs r = some z := by
          have z2 := atI_nat (xs := xs) hz
          rwa [Int.toNat_of_nonneg r0] at z2
        generalize pr.2[r.toNat] = h at hri' hm hzd
        obtain ⟨ha, h0, h1, h2, rfl, hha, _, _, hts⟩ := dp3 hzd
        obtain ⟨ta, tts, rfl, hta, htl⟩ := dp_tup hts
        have to := (ok.txt h hm).one
        have t0' := List.getElem?_eq_getElem (l := h.2.2) (i := 0) to
        have htm : h.2.2[0] ∈ h.2.2 := List.getElem_mem to
        obtain ⟨z3, hz3, hzd3⟩ := dpAll_getD htl (i := 0) (d := textD (h.2.2[0])) (by rw [List.getElem?_map, t0']; rfl)
        generalize h.2.2[0] = tx at t0' htm hzd3
        obtain ⟨tb, k0, k1, rfl, htb, _, hrs⟩ := dp2 hzd3
        obtain ⟨ra, rs, rfl, hra, hrl⟩ := dp_tup hrs
        have ro := ((ok.txt h hm).nm tx htm).2.1
        have r0' := List.getElem?_eq_getElem (l := tx.2) (i := 0) ro
        have hrm : tx.2[0] ∈ tx.2 := List.getElem_mem ro
        obtain ⟨rz, hrz, hrzd⟩ := dpAll_getD hrl (i := 0) (d := (tx.2[0]).data) (by rw [List.getElem?_map, r0']; rfl)
        generalize tx.2[0] = row at r0' hrm hrzd
        have lay := (row_layP ok hm htm hrm).shaped (by decide)
        have nob := noB_row row
        have sgo := zG.trans ((off_sub (p := p) (H := G)).trans sg)
        refine ⟨lz2, fun t00 m00 => ?_⟩
        obtain ⟨L1, e1, v1, d00⟩ := dT (K := K) (vs := [.int 0, .int 0]) (ds := [.int 0, .int 0]) m00 (.cons (.int _) (.cons (.int _) .nil))
        rw [e1]
        have sL1 := sgo.trans v1
        have fitz : Asked (.tuple [.int 0, .int 0]) := odds_asked _ (by simp [odds])
        have py : mPoint h.2.2 (.tuple [.int 0, .int 0]) = true := point_yes (by omega) (t := tx) t0' (by omega) (by omega)
        refine ⟨_, rfl, _, rfl, .ref va, .int r, .ref t00, pr, .int r, .tuple [.int 0, .int 0], rfl, dp_same sL1 _ _ hu1, ok, .int r, d00, fitz.fit, fun no => (by rw [yes] at no; cases no), fun i3 h3 e3 i30 hi3 => ⟨fun no => ?_, fun a3 b3 t3 e4 a30 ha3 b30 hb3 L2 u3 s3 hu3 => ?_⟩⟩
        · cases e3
          rw [hri'] at hi3
          cases hi3
          rw [py] at no
          cases no
        · cases e3
          cases e4
          rw [hri'] at hi3
          cases hi3
          rw [show ((0 : Int).toNat) = 0 from rfl, t0'] at ha3
          cases ha3
          rw [show ((0 : Int).toNat) = 0 from rfl, r0'] at hu3
          have sL2 := sL1.trans s3
          have f := fun {b : Addr} {ys : List V} (q : SqT K (M0.off p Go) b ys) => same_tup sL2 q
          refine ⟨_, rfl, va, _, 1, _, rfl, rfl, f hva, atI_nat (j := 1) rfl, _, rfl, xa, _, r, _, rfl, rfl, f hxs, hat, ha, _, 2, _, rfl, rfl, f hha, atI_nat (j := 2) rfl, ta, _, 0, _, rfl, rfl, f hta, atI_nat (j := 0) hz3, tb, _, 1, _, rfl, rfl, f htb, atI_nat (j := 1) rfl, ra, _, 0, _, rfl, rfl, f hra, atI_nat (j := 0) hrz, ?_⟩
          refine ⟨_, _, hu3, dp_same sL2 _ _ hrzd, lay, lay, _, rfl, ?_⟩
          rw [show PyData.eqv ((some row).getD PA.Row.back).data row.data = true from eqv_self nob]
          refine iteF ?_
          exact ⟨_, _, _, _, _, _, rfl, pool_same kL (sg.trans (v1.trans s3)), zG.trans (off_mono (sg.trans (v1.trans s3)))⟩
    · obtain ⟨w6, w7, w8, w9, w10, w11, rfl, pl6, sm⟩ := hP
      refine ⟨_, rfl, _, progD pr, rfl, dp_same (sm.trans off_sub) _ _ hu1, prs.1, prs.2.1, prs.2.2, _, rfl, rfl, _, rfl, iteNS rfl ?_⟩
      exact ⟨_, _, _, _, _, _, _, _, _, _, _, rfl, off_sub.seq (sm.seq hSo)⟩
  · exact rfl
end
end PP

set_option maxHeartbeats 8000000
namespace PP
open PySem PySem.Spec PyProof.Rows L2 G0 G1 G3 G4 G5 M0 PA EE QA E2 E3 E4 E5 E7 E8 E9 EB EC HX SA T2
section
variable {P : Program} {w : World} {K : PySem.W.Frag} {mg : Str → Option Value} {base h : Heap} {C fI : Addr} {fd : FuncData}
theorem scNoHand : InitScope ["self", "hand"] ["self", "hand"] (defScope s_NoHand) := ⟨rfl, rfl, rfl, by decide +kernel, rfl, by decide +kernel, by decide +kernel, by decide +kernel, rfl, rfl⟩
theorem mkNoHand (X : K.In h) (G : h.Ns mainGlobals mg) (ms : PySem.W.nsIn K mainGlobals "super" = some none) (a : PySem.W.nsIn K mainGlobals "NoHand" = some (some (.ref C))) (l : lookC K C fI "IndexError" "IndexError.__new__" "IndexError.__init__" [.type "IndexError", .type "LookupError", .type "Exception", .type "BaseException", .type "object"] ["hand"] = true)
    (F : InitFn P K C fI "NoHand.__init__" (defArgs s_NoHand) (defBody s_NoHand) (defScope s_NoHand) fd) : Nonempty (Err P w K mg base "NoHand" ["hand"]) := by
  obtain ⟨T, E, fl⟩ := looked uIndex l
  have F0 := F
  obtain ⟨oc, kV, doc, pm, cdv, ct, od, an, osl, cl, cc, ocl, occ, fv, file, tf, efd, _⟩ := F.ex
  subst efd
  have s0 := PySem.W.mg_none_of X G ms
  refine ⟨Err.mk C fI (fnCl "__init__" "NoHand.__init__" (defArgs s_NoHand) (defBody s_NoHand) (defScope s_NoHand) kV doc pm an cdv ct cl) _ _ _ _ _ (PySem.W.mg_of X G a) T E ?_ (fun f hf => (fl f hf).2) ?_ ?_⟩
  · exact ok1 T F0 scNoHand rfl rfl s0 ⟨fun L => ⟨_, rfl⟩, fun L => rfl, fun L => rfl⟩ (nmOk (by decide)) (fl "hand" (by simp)).1
  · exact ⟨fun s us ws _ hl => match us, hl with | [a, b], _ => .of_eq rfl, fun r _ => r⟩
  · exact ⟨fun s us ws _ hl => match us, ws, hl with | [a], [b], _ => .of_eq rfl | [a], b :: c :: r, _ => .of_eq rfl | [a], [], h => by simp [kwG] at h | [], _, h => by simp [kwG] at h | _ :: _ :: _, _, h => by simp [kwG] at h, kw_rel⟩
theorem scNoPoint : InitScope ["self", "point"] ["self", "point"] (defScope s_NoPoint) := ⟨rfl, rfl, rfl, by decide +kernel, rfl, by decide +kernel, by decide +kernel, by decide +kernel, rfl, rfl⟩
theorem mkNoPoint (X : K.In h) (G : h.Ns mainGlobals mg) (ms : PySem.W.nsIn K mainGlobals "super" = some none) (a : PySem.W.nsIn K mainGlobals "NoPoint" = some (some (.ref C))) (l : lookC K C fI "IndexError" "IndexError.__new__" "IndexError.__init__" [.type "IndexError", .type "LookupError", .type "Exception", .type "BaseException", .type "object"] ["point"] = true)
    (F : InitFn P K C fI "NoPoint.__init__" (defArgs s_NoPoint) (defBody s_NoPoint) (defScope s_NoPoint) fd) : Nonempty (Err P w K mg base "NoPoint" ["point"]) := by
  obtain ⟨T, E, fl⟩ := looked uIndex l
  have F0 := F
  obtain ⟨oc, kV, doc, pm, cdv, ct, od, an, osl, cl, cc, ocl, occ, fv, file, tf, efd, _⟩ := F.ex
  subst efd
  have s0 := PySem.W.mg_none_of X G ms
  refine ⟨Err.mk C fI (fnCl "__init__" "NoPoint.__init__" (defArgs s_NoPoint) (defBody s_NoPoint) (defScope s_NoPoint) kV doc pm an cdv ct cl) _ _ _ _ _ (PySem.W.mg_of X G a) T E ?_ (fun f hf => (fl f hf).2) ?_ ?_⟩
  · exact ok1 T F0 scNoPoint rfl rfl s0 ⟨fun L => ⟨_, rfl⟩, fun L => rfl, fun L => rfl⟩ (nmOk (by decide)) (fl "point" (by simp)).1
  · exact ⟨fun s us ws _ hl => match us, hl with | [a, b], _ => .of_eq rfl, fun r _ => r⟩
  · exact ⟨fun s us ws _ hl => match us, ws, hl with | [a], [b], _ => .of_eq rfl | [a], b :: c :: r, _ => .of_eq rfl | [a], [], h => by simp [kwG] at h | [], _, h => by simp [kwG] at h | _ :: _ :: _, _, h => by simp [kwG] at h, kw_rel⟩
/-- the row behind all, where the top has put it -/
theorem behind_mk {K : PySem.W.Frag} {rb : Addr} {ob : Obj} {its : Array Value} {n : Nat} {tk : Tok} (l : K.lookup rb = some ob) (c : ob.cls = .type "tuple") (e : ob.data = .seq its n) (i : its = #[.str "back" tk]) : Behind K rb := fun H => by
  subst i
  exact .tup (xs := [.str "back"]) (.inr ⟨ob, _, n, l, c, e, by show 1 ≤ sizeLine; decide, .cons ⟨_, rfl⟩ .nil⟩) (.cons (.str _) .nil)
end
theorem all_mk {P : Program} {w : World} {K : PySem.W.Frag} {h : Heap} {mg : Str → Option Value} {tk8 tkc tkg tko tkp tkh tkt tkr : Tok} {fa CH fH CP fP rb fWH fBT fTU fSO fWA fRW fBX fSC fAL fLK fBG fNF fHO fFH fLI fLH fIP fRO fRA fPO fTK fLS fLR fLT fLP fNM fLO fTW fTO fDU fLL fKR fZ : Addr} (X : K.In h) (G : h.Ns mainGlobals mg) (hfa : mg "law" = some (.ref fa))
    (qH : CAt P K "NoHand" "NoHand.__init__" s_NoHand "IndexError" "IndexError.__new__" "IndexError.__init__" [.type "IndexError", .type "LookupError", .type "Exception", .type "BaseException", .type "object"] ["hand"] CH fH) (qP : CAt P K "NoPoint" "NoPoint.__init__" s_NoPoint "IndexError" "IndexError.__new__" "IndexError.__init__" [.type "IndexError", .type "LookupError", .type "Exception", .type "BaseException", .type "object"] ["point"] CP fP)
    (x1 : PySem.W.exmOne K (.ref CH) (.ref CH) = some true) (x2 : PySem.W.exmOne K (.ref CP) (.ref CH) = some false) (x3 : PySem.W.exmOne K (.ref CP) (.ref CP) = some true) (aB : PySem.W.nsIn K mainGlobals "ROW_BEHIND_ALL" = some (some (.ref rb))) (bh : Behind K rb)
    (k8 : PySem.W.nsIn K mainGlobals "LONGEST_NAME" = some (some (.int 8 tk8))) (kc : PySem.W.nsIn K mainGlobals "MOST_COMMON" = some (some (.int 8 tkc))) (kg : PySem.W.nsIn K mainGlobals "GREATEST_COMMON" = some (some (.int 4 tkg))) (ko : PySem.W.nsIn K mainGlobals "MOST_OWN" = some (some (.int 24 tko))) (kp : PySem.W.nsIn K mainGlobals "GREATEST_OWN" = some (some (.int 8 tkp))) (kh : PySem.W.nsIn K mainGlobals "MOST_HANDS" = some (some (.int 4 tkh))) (kt : PySem.W.nsIn K mainGlobals "MOST_TEXTS" = some (some (.int 32 tkt))) (kr : PySem.W.nsIn K mainGlobals "MOST_ROWS" = some (some (.int 2000 tkr)))
    (aWH : At K "is_whole" s_is_whole fWH) (aBT : At K "is_between" s_is_between fBT) (aTU : At K "is_tuple" s_is_tuple fTU) (aSO : At K "is_source" s_is_source fSO) (aWA : At K "are_ways" s_are_ways fWA) (aRW : At K "are_rows" s_are_rows fRW) (aBX : At K "are_boxes" s_are_boxes fBX) (aSC : At K "scopes_of" s_scopes_of fSC) (aAL : At K "are_all_rows" s_are_all_rows fAL) (aLK : At K "look_at_program" s_look_at_program fLK) (aBG : At K "all_begun" s_all_begun fBG) (aNF : At K "numbers_from_first" s_numbers_from_first fNF) (aHO : At K "hands_of" s_hands_of fHO) (aFH : At K "first_hands" s_first_hands fFH) (aLI : At K "like_hands" s_like_hands fLI) (aLH : At K "look_at_hand" s_look_at_hand fLH) (aIP : At K "is_point" s_is_point fIP) (aRO : At K "row_of" s_row_of fRO) (aRA : At K "row_at" s_row_at fRA) (aPO : At K "_law_pool" s_law_pool fPO) (aTK : At K "_law_take" s_law_take fTK) (aLS : At K "_law_source" s_law_source fLS) (aLR : At K "_law_row" s_law_row fLR) (aLT : At K "_law_texts" s_law_texts fLT) (aLP : At K "_law_program" s_law_program fLP) (aNM : At K "_law_named" s_law_named fNM) (aLO : At K "_law_lots" s_law_lots fLO) (aTW : At K "_law_twice" s_law_twice fTW) (aTO : At K "_law_told" s_law_told fTO) (aDU : At K "_law_due" s_law_due fDU) (aLL : At K "_law_lists_right" s_law_lists_right fLL) (aKR : At K "_law_likes_right" s_law_likes_right fKR) (aZ : At K "law" s_law fZ)
    (z0 : PySem.W.nsIn K mainGlobals "len" = some none) (z1 : PySem.W.nsIn K mainGlobals "max" = some none) (z2 : PySem.W.nsIn K mainGlobals "min" = some none) (z3 : PySem.W.nsIn K mainGlobals "range" = some none) (z4 : PySem.W.nsIn K mainGlobals "repr" = some none) (z5 : PySem.W.nsIn K mainGlobals "isinstance" = some none) (z6 : PySem.W.nsIn K mainGlobals "int" = some none) (z7 : PySem.W.nsIn K mainGlobals "str" = some none) (z8 : PySem.W.nsIn K mainGlobals "all" = some none) (z9 : PySem.W.nsIn K mainGlobals "enumerate" = some none) (z10 : PySem.W.nsIn K mainGlobals "abs" = some none) (z11 : PySem.W.nsIn K mainGlobals "super" = some none) (z12 : PySem.W.nsIn K mainGlobals "tuple" = some none) (z13 : PySem.W.nsIn K mainGlobals "bool" = some none) (z14 : PySem.W.nsIn K mainGlobals "KeyError" = some none) (z15 : PySem.W.nsIn K mainGlobals "list" = some none) (z16 : PySem.W.nsIn K mainGlobals "sorted" = some none) (z17 : PySem.W.nsIn K mainGlobals "set" = some none) (z18 : PySem.W.nsIn K mainGlobals "zip" = some none) :
    LawDef P w K mg 7 fa "_law_script" (fun H a ns => SqL K H a (ns.map V.int) ∧ ns.length ≤ 63) := by
  have e := hfa.symm.trans (PySem.W.mg_of X G aZ.1)
  cases e
  obtain ⟨dWH, FWH⟩ := aWH.fn
  obtain ⟨dBT, FBT⟩ := aBT.fn
  obtain ⟨dTU, FTU⟩ := aTU.fn
  obtain ⟨dSO, FSO⟩ := aSO.fn
  obtain ⟨dWA, FWA⟩ := aWA.fn
  obtain ⟨dRW, FRW⟩ := aRW.fn
  obtain ⟨dBX, FBX⟩ := aBX.fn
  obtain ⟨dSC, FSC⟩ := aSC.fn
  obtain ⟨dAL, FAL⟩ := aAL.fn
  obtain ⟨dLK, FLK⟩ := aLK.fn
  obtain ⟨dBG, FBG⟩ := aBG.fn
  obtain ⟨dNF, FNF⟩ := aNF.fn
  obtain ⟨dHO, FHO⟩ := aHO.fn
  obtain ⟨dFH, FFH⟩ := aFH.fn
  obtain ⟨dLI, FLI⟩ := aLI.fn
  obtain ⟨dLH, FLH⟩ := aLH.fn
  obtain ⟨dIP, FIP⟩ := aIP.fn
  obtain ⟨dRO, FRO⟩ := aRO.fn
  obtain ⟨dRA, FRA⟩ := aRA.fn
  obtain ⟨dPO, FPO⟩ := aPO.fn
  obtain ⟨dTK, FTK⟩ := aTK.fn
  obtain ⟨dLS, FLS⟩ := aLS.fn
  obtain ⟨dLR, FLR⟩ := aLR.fn
  obtain ⟨dLT, FLT⟩ := aLT.fn
  obtain ⟨dLP, FLP⟩ := aLP.fn
  obtain ⟨dNM, FNM⟩ := aNM.fn
  obtain ⟨dLO, FLO⟩ := aLO.fn
  obtain ⟨dTW, FTW⟩ := aTW.fn
  obtain ⟨dTO, FTO⟩ := aTO.fn
  obtain ⟨dDU, FDU⟩ := aDU.fn
  obtain ⟨dLL, FLL⟩ := aLL.fn
  obtain ⟨dKR, FKR⟩ := aKR.fn
  have bWH := FWH.binds (ps := ["thing"]) fun _ _ _ _ _ _ us hl => match us, hl with | [_], _ => rfl
  have bBT := FBT.binds (ps := ["thing", "low", "high"]) fun _ _ _ _ _ _ us hl => match us, hl with | [_, _, _], _ => rfl
  have bTU := FTU.binds (ps := ["thing", "fewest", "most"]) fun _ _ _ _ _ _ us hl => match us, hl with | [_, _, _], _ => rfl
  have bSO := FSO.binds (ps := ["source", "size", "box", "sizes"]) fun _ _ _ _ _ _ us hl => match us, hl with | [_, _, _, _], _ => rfl
  have bWA := FWA.binds (ps := ["thing", "end"]) fun _ _ _ _ _ _ us hl => match us, hl with | [_, _], _ => rfl
  have bRW := FRW.binds (ps := ["rows", "end", "sizes", "texts", "hands", "name"]) fun _ _ _ _ _ _ us hl => match us, hl with | [_, _, _, _, _, _], _ => rfl
  have bBX := FBX.binds (ps := ["thing", "most", "greatest", "sizes"]) fun _ _ _ _ _ _ us hl => match us, hl with | [_, _, _, _], _ => rfl
  have bSC := FSC.binds (ps := ["common", "hands"]) fun _ _ _ _ _ _ us hl => match us, hl with | [_, _], _ => rfl
  have bAL := FAL.binds (ps := ["scopes"]) fun _ _ _ _ _ _ us hl => match us, hl with | [_], _ => rfl
  have bLK := FLK.binds (ps := ["thing"]) fun _ _ _ _ _ _ us hl => match us, hl with | [_], _ => rfl
  have bBG := FBG.binds (ps := ["hands"]) fun _ _ _ _ _ _ us hl => match us, hl with | [_], _ => rfl
  have bNF := FNF.binds (ps := ["hands"]) fun _ _ _ _ _ _ us hl => match us, hl with | [_], _ => rfl
  have bHO := FHO.binds (ps := ["program"]) fun _ _ _ _ _ _ us hl => match us, hl with | [_], _ => rfl
  have bFH := FFH.binds (ps := ["program"]) fun _ _ _ _ _ _ us hl => match us, hl with | [_], _ => rfl
  have bLI := FLI.binds (ps := ["program"]) fun _ _ _ _ _ _ us hl => match us, hl with | [_], _ => rfl
  have bLH := FLH.binds (ps := ["program", "thing"]) fun _ _ _ _ _ _ us hl => match us, hl with | [_, _], _ => rfl
  have bIP := FIP.binds (ps := ["texts", "thing"]) fun _ _ _ _ _ _ us hl => match us, hl with | [_, _], _ => rfl
  have bRO := FRO.binds (ps := ["texts", "point"]) fun _ _ _ _ _ _ us hl => match us, hl with | [_, _], _ => rfl
  have bRA := FRA.binds (ps := ["program", "hand", "point"]) fun _ _ _ _ _ _ us hl => match us, hl with | [_, _, _], _ => rfl
  have bPO := FPO.binds (ps := ["_law_script", "_law_k"]) fun _ _ _ _ _ _ us hl => match us, hl with | [_, _], _ => rfl
  have bTK := FTK.binds (ps := ["_law_pool_here", "_law_many"]) fun _ _ _ _ _ _ us hl => match us, hl with | [_, _], _ => rfl
  have bLS := FLS.binds (ps := ["_law_pool_here", "_law_boxes", "_law_box"]) fun _ _ _ _ _ _ us hl => match us, hl with | [_, _, _], _ => rfl
  have bLR := FLR.binds (ps := ["_law_pool_here", "_law_boxes", "_law_many", "_law_titles", "_law_others"]) fun _ _ _ _ _ _ us hl => match us, hl with | [_, _, _, _, _], _ => rfl
  have bLT := FLT.binds (ps := ["_law_pool_here", "_law_boxes", "_law_others", "_law_deep"]) fun _ _ _ _ _ _ us hl => match us, hl with | [_, _, _, _], _ => rfl
  have bLP := FLP.binds (ps := ["_law_pool_here", "_law_most", "_law_deep"]) fun _ _ _ _ _ _ us hl => match us, hl with | [_, _, _], _ => rfl
  have bNM := FNM.binds (ps := ["_law_hands"]) fun _ _ _ _ _ _ us hl => match us, hl with | [_], _ => rfl
  have bLO := FLO.binds (ps := ["_law_prog"]) fun _ _ _ _ _ _ us hl => match us, hl with | [_], _ => rfl
  have bTW := FTW.binds (ps := ["_law_pool_here", "_law_prog"]) fun _ _ _ _ _ _ us hl => match us, hl with | [_, _], _ => rfl
  have bTO := FTO.binds (ps := ["_law_prog", "_law_who", "_law_spot"]) fun _ _ _ _ _ _ us hl => match us, hl with | [_, _, _], _ => rfl
  have bDU := FDU.binds (ps := ["_law_prog", "_law_who", "_law_spot"]) fun _ _ _ _ _ _ us hl => match us, hl with | [_, _, _], _ => rfl
  have bLL := FLL.binds (ps := ["_law_prog"]) fun _ _ _ _ _ _ us hl => match us, hl with | [_], _ => rfl
  have bKR := FKR.binds (ps := []) fun _ _ _ _ _ _ us hl => match us, hl with | [], _ => rfl
  have gWH := PySem.W.mg_of X G aWH.1
  have gBT := PySem.W.mg_of X G aBT.1
  have gTU := PySem.W.mg_of X G aTU.1
  have gSO := PySem.W.mg_of X G aSO.1
  have gWA := PySem.W.mg_of X G aWA.1
  have gRW := PySem.W.mg_of X G aRW.1
  have gBX := PySem.W.mg_of X G aBX.1
  have gSC := PySem.W.mg_of X G aSC.1
  have gAL := PySem.W.mg_of X G aAL.1
  have gLK := PySem.W.mg_of X G aLK.1
  have gBG := PySem.W.mg_of X G aBG.1
  have gNF := PySem.W.mg_of X G aNF.1
  have gHO := PySem.W.mg_of X G aHO.1
  have gFH := PySem.W.mg_of X G aFH.1
  have gLI := PySem.W.mg_of X G aLI.1
  have gLH := PySem.W.mg_of X G aLH.1
  have gIP := PySem.W.mg_of X G aIP.1
  have gRO := PySem.W.mg_of X G aRO.1
  have gRA := PySem.W.mg_of X G aRA.1
  have gPO := PySem.W.mg_of X G aPO.1
  have gTK := PySem.W.mg_of X G aTK.1
  have gLS := PySem.W.mg_of X G aLS.1
  have gLR := PySem.W.mg_of X G aLR.1
  have gLT := PySem.W.mg_of X G aLT.1
  have gLP := PySem.W.mg_of X G aLP.1
  have gNM := PySem.W.mg_of X G aNM.1
  have gLO := PySem.W.mg_of X G aLO.1
  have gTW := PySem.W.mg_of X G aTW.1
  have gTO := PySem.W.mg_of X G aTO.1
  have gDU := PySem.W.mg_of X G aDU.1
  have gLL := PySem.W.mg_of X G aLL.1
  have gKR := PySem.W.mg_of X G aKR.1
  have gB := PySem.W.mg_of X G aB
  have c8 := PySem.W.mg_of X G k8
  have cc := PySem.W.mg_of X G kc
  have cg := PySem.W.mg_of X G kg
  have co := PySem.W.mg_of X G ko
  have cp := PySem.W.mg_of X G kp
  have ch := PySem.W.mg_of X G kh
  have ct0 := PySem.W.mg_of X G kt
  have cr := PySem.W.mg_of X G kr
  have n0 := PySem.W.mg_none_of X G z0
  have n1 := PySem.W.mg_none_of X G z1
  have n2 := PySem.W.mg_none_of X G z2
  have n3 := PySem.W.mg_none_of X G z3
  have n4 := PySem.W.mg_none_of X G z4
  have n5 := PySem.W.mg_none_of X G z5
  have n6 := PySem.W.mg_none_of X G z6
  have n7 := PySem.W.mg_none_of X G z7
  have n8 := PySem.W.mg_none_of X G z8
  have n9 := PySem.W.mg_none_of X G z9
  have n10 := PySem.W.mg_none_of X G z10
  have n11 := PySem.W.mg_none_of X G z11
  have n12 := PySem.W.mg_none_of X G z12
  have n13 := PySem.W.mg_none_of X G z13
  have n14 := PySem.W.mg_none_of X G z14
  have n15 := PySem.W.mg_none_of X G z15
  have n16 := PySem.W.mg_none_of X G z16
  have n17 := PySem.W.mg_none_of X G z17
  have n18 := PySem.W.mg_none_of X G z18
  obtain ⟨_, od, an, sl, oc, kV, dc, pm, cd, ct, l, c, k⟩ := aZ
  obtain ⟨u0, v0, w0, i0⟩ := qH
  obtain ⟨u1, v1, w1, i1⟩ := qP
  have kR : KBinds K dRA ["program", "hand", "point"] ["point", "hand", "program"] gR3 gR3 := by
    obtain ⟨oc, od, kV, doc, pm, an, cdv, ct, osl, e, lk, hcd⟩ := FRA.ex
    refine ⟨fun s us ws _ hl => ?_, gR3_rel⟩
    obtain ⟨a, b, c, rfl, rfl⟩ := gR3_len hl
    subst e
    exact .of_eq rfl
  refine ⟨_, "law", "law", defArgs s_law, defBody s_law, defScope s_law, .none, kV, dc, pm, cd, ct, oc, an, od, sl, nLaw, rfl, l, c, scLaw, fun s v => .of_eq rfl, fun base _ _ s H a ns hw hr => ?_⟩
  obtain ⟨eH⟩ := mkNoHand (P := P) (w := w) (base := base) X G z11 u0 v0 i0
  obtain ⟨eP⟩ := mkNoPoint (P := P) (w := w) (base := base) X G z11 u1 v1 i1
  have c0 : eH.C = CH := Value.ref.inj (Option.some.inj (eH.g.symm.trans (PySem.W.mg_of X G u0)))
  have c1 : eP.C = CP := Value.ref.inj (Option.some.inj (eP.g.symm.trans (PySem.W.mg_of X G u1)))
  have y1 : PySem.W.exmOne K (.ref eH.C) (.ref eH.C) = some true := by rw [c0]; exact x1
  have y2 : PySem.W.exmOne K (.ref eP.C) (.ref eH.C) = some false := by rw [c0, c1]; exact x2
  have y3 : PySem.W.exmOne K (.ref eP.C) (.ref eP.C) = some true := by rw [c1]; exact x3
  have WH3 : Def P w K mg base CX0 3 "is_whole" ["thing"] (spAsk K mWhole) := ⟨fWH, dWH, ok_whole (k := 2) FWH n5 n6 n13, gWH, FWH.kp, bWH⟩
  have BT4 : Def P w K mg base CX0 4 "is_between" ["thing", "low", "high"] (spBetw K) := ⟨fBT, dBT, ok_between (k := 2) FBT WH3, gBT, FBT.kp, bBT⟩
  have TU4 : Def P w K mg base CX0 4 "is_tuple" ["thing", "fewest", "most"] (spTuple K) := ⟨fTU, dTU, ok_tuple (k := 3) FTU n5 n12 n0, gTU, FTU.kp, bTU⟩
  have IP5 : Def P w K mg base CX0 5 "is_point" ["texts", "thing"] (spPoint K) := ⟨fIP, dIP, ok_point (k := 3) FIP TU4 BT4 n0, gIP, FIP.kp, bIP⟩
  have RO5 : Def P w K mg base CX0 5 "row_of" ["texts", "point"] (spRowOf K) := ⟨fRO, dRO, ok_rowof (k := 4) FRO gB bh n0, gRO, FRO.kp, bRO⟩
  have LH5 : Def P w K mg base (L2.CX P w) 5 "look_at_hand" ["program", "thing"] (spLookHand K eH.C) := ⟨fLH, dLH, ok_lookhand (k := 2) FLH eH n5 n6 n0, gLH, FLH.kp, bLH⟩
  have SO2 : Def P w K mg base CX0 2 "is_source" ["source", "size", "box", "sizes"] (spSource K) := ⟨fSO, dSO, ok_source (k := 1) FSO n5 n7 n6 n0, gSO, FSO.kp, bSO⟩
  have WA2 : Def P w K mg base CX0 2 "are_ways" ["thing", "end"] (spWays K) := ⟨fWA, dWA, ok_ways (k := 1) FWA n5 n12 n6 n0, gWA, FWA.kp, bWA⟩
  have RW3 : Def P w K mg base CX0 3 "are_rows" ["rows", "end", "sizes", "texts", "hands", "name"] (spRows K) := ⟨fRW, dRW, ok_rows (k := 1) FRW SO2 WA2 n5 n12 n7 n6 n0, gRW, FRW.kp, bRW⟩
  have AL4 : Def P w K mg base CX0 4 "are_all_rows" ["scopes"] (spAll K) := ⟨fAL, dAL, ok_all (k := 2) FAL RW3 n0 n14, gAL, FAL.kp, bAL⟩
  have BX3 : Def P w K mg base CX0 3 "are_boxes" ["thing", "most", "greatest", "sizes"] (spBoxes K) := ⟨fBX, dBX, ok_boxes (k := 2) FBX n5 n12 n7 n6 n0 c8, gBX, FBX.kp, bBX⟩
  have BX4 : Def P w K mg base CX0 4 "are_boxes" ["thing", "most", "greatest", "sizes"] (spBoxes K) := ⟨fBX, dBX, ok_boxes (k := 3) FBX n5 n12 n7 n6 n0 c8, gBX, FBX.kp, bBX⟩
  have SC4 : Def P w K mg base CX0 4 "scopes_of" ["common", "hands"] (spScopes K) := ⟨fSC, dSC, ok_scopes (k := 2) FSC BX3 n5 n12 n7 n0 c8 co cp ct0 cr, gSC, FSC.kp, bSC⟩
  have LK5 : Def P w K mg base CX0 5 "look_at_program" ["thing"] (spLook K) := ⟨fLK, dLK, ok_look (k := 3) FLK BX4 SC4 AL4 n5 n12 n0 ch cc cg, gLK, FLK.kp, bLK⟩
  have BG4 : Def P w K mg base CX0 4 "all_begun" ["hands"] (spBegun K) := ⟨fBG, dBG, ok_begun (k := 3) FBG, gBG, FBG.kp, bBG⟩
  have BG5 : Def P w K mg base CX0 5 "all_begun" ["hands"] (spBegun K) := ⟨fBG, dBG, ok_begun (k := 4) FBG, gBG, FBG.kp, bBG⟩
  have NF5 : Def P w K mg base CX0 5 "numbers_from_first" ["hands"] (spFirsts K) := ⟨fNF, dNF, ok_firsts (k := 3) FNF BG4 n9, gNF, FNF.kp, bNF⟩
  have HO6 : Def P w K mg base CX0 6 "hands_of" ["program"] (spHandsOf K) := ⟨fHO, dHO, ok_handsof (k := 4) FHO LK5, gHO, FHO.kp, bHO⟩
  have FH6 : Def P w K mg base CX0 6 "first_hands" ["program"] (spFirstH K) := ⟨fFH, dFH, ok_firsth (k := 4) FFH LK5 NF5, gFH, FFH.kp, bFH⟩
  have LI6 : Def P w K mg base CX0 6 "like_hands" ["program"] (spLike K) := ⟨fLI, dLI, ok_like (k := 4) FLI LK5 NF5 BG5 n9, gLI, FLI.kp, bLI⟩
  have RA6 : Def P w K mg base (L2.CX P w) 6 "row_at" ["program", "hand", "point"] (spRowAt K eH.C eP.C) := ⟨fRA, dRA, ok_rowat (k := 2) FRA eH eP LK5 LH5 IP5 RO5, gRA, FRA.kp, bRA⟩
  have TK1 : Def P w K mg base CX0 1 "_law_take" ["_law_pool_here", "_law_many"] spTake := ⟨fTK, dTK, ok_take (k := 0) FTK, gTK, FTK.kp, bTK⟩
  have TK2 : Def P w K mg base CX0 2 "_law_take" ["_law_pool_here", "_law_many"] spTake := ⟨fTK, dTK, ok_take (k := 1) FTK, gTK, FTK.kp, bTK⟩
  have TK3 : Def P w K mg base CX0 3 "_law_take" ["_law_pool_here", "_law_many"] spTake := ⟨fTK, dTK, ok_take (k := 2) FTK, gTK, FTK.kp, bTK⟩
  have TK4 : Def P w K mg base CX0 4 "_law_take" ["_law_pool_here", "_law_many"] spTake := ⟨fTK, dTK, ok_take (k := 3) FTK, gTK, FTK.kp, bTK⟩
  have LS2 : Def P w K mg base CX0 2 "_law_source" ["_law_pool_here", "_law_boxes", "_law_box"] (spSrc K) := ⟨fLS, dLS, ok_src (k := 0) FLS TK1 n0, gLS, FLS.kp, bLS⟩
  have LR3 : Def P w K mg base CX0 3 "_law_row" ["_law_pool_here", "_law_boxes", "_law_many", "_law_titles", "_law_others"] (spRow K) := ⟨fLR, dLR, ok_row (k := 1) FLR TK2 LS2 n0 n12 n16 n17 n6, gLR, FLR.kp, bLR⟩
  have LT4 : Def P w K mg base CX0 4 "_law_texts" ["_law_pool_here", "_law_boxes", "_law_others", "_law_deep"] (spTexts K) := ⟨fLT, dLT, ok_texts (k := 2) FLT TK3 LR3 n9 n12 n3, gLT, FLT.kp, bLT⟩
  have LP5 : Def P w K mg base CX0 5 "_law_program" ["_law_pool_here", "_law_most", "_law_deep"] (spProg K) := ⟨fLP, dLP, ok_prog (k := 3) FLP TK4 LT4 n6 n12 n15, gLP, FLP.kp, bLP⟩
  have NM5 : Def P w K mg base CX0 5 "_law_named" ["_law_hands"] (spNamed K) := ⟨fNM, dNM, ok_named (k := 4) FNM, gNM, FNM.kp, bNM⟩
  have NM6 : Def P w K mg base CX0 6 "_law_named" ["_law_hands"] (spNamed K) := ⟨fNM, dNM, ok_named (k := 5) FNM, gNM, FNM.kp, bNM⟩
  have LO6 : Def P w K mg base CX0 6 "_law_lots" ["_law_prog"] (spLike K) := ⟨fLO, dLO, ok_lots (k := 4) FLO NM5 n9, gLO, FLO.kp, bLO⟩
  have TW2 : Def P w K mg base CX0 2 "_law_twice" ["_law_pool_here", "_law_prog"] (spTwice K) := ⟨fTW, dTW, ok_twice (k := 0) FTW TK1 n0, gTW, FTW.kp, bTW⟩
  have LL7 : Def P w K mg base CX0 7 "_law_lists_right" ["_law_prog"] (spLists K) := ⟨fLL, dLL, ok_lists (k := 5) FLL NM6 LO6 HO6 FH6 LI6 n9 n3, gLL, FLL.kp, bLL⟩
  have KR7 : Def P w K mg base CX0 7 "_law_likes_right" [] spTrue := ⟨fKR, dKR, ok_likes (k := 5) FKR LI6, gKR, FKR.kp, bKR⟩
  have PO1 : Def P w K mg base CX0 1 "_law_pool" ["_law_script", "_law_k"] (spPool K) := ⟨fPO, dPO, ok_pool (k := 0) FPO n0 n10 n6, gPO, FPO.kp, bPO⟩
  have TO7 : DefG P w K mg base CX0 7 "_law_told" ["_law_prog", "_law_who", "_law_spot"] (spAns K) := ⟨fTO, dTO, ok_told FTO eH eP (k := 4) RA6 n4 y1 y2 y3, gTO, FTO.kp, bTO⟩
  have DU1 : DefG P w K mg base CX0 1 "_law_due" ["_law_prog", "_law_who", "_law_spot"] (spAnsS K) := ⟨fDU, dDU, ok_due (k := 0) FDU n4 n5 n6 n13 n12 n0 n18, gDU, FDU.kp, bDU⟩
  obtain ⟨t, h1, h2⟩ := law_body (P := P) (w := w) (K := K) (mg := mg) (base := base)
    { SH := eH, SP := eP, dL := KR7, dO := PO1, dP := LP5, dW := TW2, dI := LL7, dT := TK1, dA := TO7, dD := DU1, dR := ⟨fRA, dRA, ok_rowat (k := 2) FRA eH eP LK5 LH5 IP5 RO5, gRA, FRA.kp, bRA⟩, kR := kR,
      mlen := n0, mmax := n1, mmin := n2, mran := n3, mrep := n4 } hw.1 hw.2 hr
  exact ⟨t, h1.nox, h2⟩
end PP

set_option maxHeartbeats 0
open PySem PySem.W PyProof.Rows
open_top head02 for PySem.Challenge.rw_fewturnsover_k02_hands_and_rows_told

open PySem PySem.W PyProof.Rows
set_option maxHeartbeats 0 in
theorem PySem.Challenge.cw_fewturnsover_k02_hands_and_rows_told_holds : PySem.Challenge.rw_fewturnsover_k02_hands_and_rows_told.Holds := by
  exact head02 (by
  k_fill
  refine G2.walk_G (l := PySem.Challenge.rw_fewturnsover_k02_hands_and_rows_told) (n := 63) (k := 7) (x := "_law_script") (fun K H a ns => L2.SqL K H a (ns.map L2.V.int) ∧ ns.length ≤ 63) rfl (by decide) rfl ⟨rfl, by decide, by decide⟩ (fun w h Y => PySem.W.kIn_of Y) ?F (fun _ _ _ _ hl _ hS => ⟨hS, hl⟩)
  case F =>
    intro w mg fa h KX G hmg
    refine' PP.all_mk KX G hmg (EE.cat_mk ?ca ?ci ?cl ?cc ?cm ?cn ?co ?cp ?cs ?cq) (EE.cat_mk ?ua ?ui ?ul ?uc ?um ?un ?uo ?up ?us ?uq) ?x1 ?x2 ?x3 ?aB (PP.behind_mk ?bl ?bc ?be ?bi) ?m8 ?mc ?mg ?mo ?mp ?mh ?mt ?mr (EE.at_mk ?a0 ?b0 ?c0 ?d0) (EE.at_mk ?a1 ?b1 ?c1 ?d1) (EE.at_mk ?a2 ?b2 ?c2 ?d2) (EE.at_mk ?a3 ?b3 ?c3 ?d3) (EE.at_mk ?a4 ?b4 ?c4 ?d4) (EE.at_mk ?a5 ?b5 ?c5 ?d5) (EE.at_mk ?a6 ?b6 ?c6 ?d6) (EE.at_mk ?a7 ?b7 ?c7 ?d7) (EE.at_mk ?a8 ?b8 ?c8 ?d8) (EE.at_mk ?a9 ?b9 ?c9 ?d9) (EE.at_mk ?a10 ?b10 ?c10 ?d10) (EE.at_mk ?a11 ?b11 ?c11 ?d11) (EE.at_mk ?a12 ?b12 ?c12 ?d12) (EE.at_mk ?a13 ?b13 ?c13 ?d13) (EE.at_mk ?a14 ?b14 ?c14 ?d14) (EE.at_mk ?a15 ?b15 ?c15 ?d15) (EE.at_mk ?a16 ?b16 ?c16 ?d16) (EE.at_mk ?a17 ?b17 ?c17 ?d17) (EE.at_mk ?a18 ?b18 ?c18 ?d18) (EE.at_mk ?a19 ?b19 ?c19 ?d19) (EE.at_mk ?a20 ?b20 ?c20 ?d20) (EE.at_mk ?a21 ?b21 ?c21 ?d21) (EE.at_mk ?a22 ?b22 ?c22 ?d22) (EE.at_mk ?a23 ?b23 ?c23 ?d23) (EE.at_mk ?a24 ?b24 ?c24 ?d24) (EE.at_mk ?a25 ?b25 ?c25 ?d25) (EE.at_mk ?a26 ?b26 ?c26 ?d26) (EE.at_mk ?a27 ?b27 ?c27 ?d27) (EE.at_mk ?a28 ?b28 ?c28 ?d28) (EE.at_mk ?a29 ?b29 ?c29 ?d29) (EE.at_mk ?a30 ?b30 ?c30 ?d30) (EE.at_mk ?a31 ?b31 ?c31 ?d31) (EE.at_mk ?a32 ?b32 ?c32 ?d32) ?z0 ?z1 ?z2 ?z3 ?z4 ?z5 ?z6 ?z7 ?z8 ?z9 ?z10 ?z11 ?z12 ?z13 ?z14 ?z15 ?z16 ?z17 ?z18
    (case ca => k_is)
    (case ci => k_is)
    (case cl => k_is)
    (case cc => k_is)
    (case cm => k_is)
    (case cn => k_is)
    (case co => rfl)
    (case cp => first | rfl | decide +kernel)
    (case cs => decide +kernel)
    (case cq => kernel_rfl)
    (case ua => k_is)
    (case ui => k_is)
    (case ul => k_is)
    (case uc => k_is)
    (case um => k_is)
    (case un => k_is)
    (case uo => rfl)
    (case up => first | rfl | decide +kernel)
    (case us => decide +kernel)
    (case uq => kernel_rfl)
    (case x1 => first | kernel_rfl | k_is)
    (case x2 => first | kernel_rfl | k_is)
    (case x3 => first | kernel_rfl | k_is)
    (case aB => k_is)
    (case bl => k_is)
    (case bc => rfl)
    (case be => rfl)
    (case bi => rfl)
    (case m8 => k_is)
    (case mc => k_is)
    (case mg => k_is)
    (case mo => k_is)
    (case mp => k_is)
    (case mh => k_is)
    (case mt => k_is)
    (case mr => k_is)
    (case a0 => k_is); (case b0 => k_is); (case c0 => k_is); (case d0 => k_is)
    (case a1 => k_is); (case b1 => k_is); (case c1 => k_is); (case d1 => k_is)
    (case a2 => k_is); (case b2 => k_is); (case c2 => k_is); (case d2 => k_is)
    (case a3 => k_is); (case b3 => k_is); (case c3 => k_is); (case d3 => k_is)
    (case a4 => k_is); (case b4 => k_is); (case c4 => k_is); (case d4 => k_is)
    (case a5 => k_is); (case b5 => k_is); (case c5 => k_is); (case d5 => k_is)
    (case a6 => k_is); (case b6 => k_is); (case c6 => k_is); (case d6 => k_is)
    (case a7 => k_is); (case b7 => k_is); (case c7 => k_is); (case d7 => k_is)
    (case a8 => k_is); (case b8 => k_is); (case c8 => k_is); (case d8 => k_is)
    (case a9 => k_is); (case b9 => k_is); (case c9 => k_is); (case d9 => k_is)
    (case a10 => k_is); (case b10 => k_is); (case c10 => k_is); (case d10 => k_is)
    (case a11 => k_is); (case b11 => k_is); (case c11 => k_is); (case d11 => k_is)
    (case a12 => k_is); (case b12 => k_is); (case c12 => k_is); (case d12 => k_is)
    (case a13 => k_is); (case b13 => k_is); (case c13 => k_is); (case d13 => k_is)
    (case a14 => k_is); (case b14 => k_is); (case c14 => k_is); (case d14 => k_is)
    (case a15 => k_is); (case b15 => k_is); (case c15 => k_is); (case d15 => k_is)
    (case a16 => k_is); (case b16 => k_is); (case c16 => k_is); (case d16 => k_is)
    (case a17 => k_is); (case b17 => k_is); (case c17 => k_is); (case d17 => k_is)
    (case a18 => k_is); (case b18 => k_is); (case c18 => k_is); (case d18 => k_is)
    (case a19 => k_is); (case b19 => k_is); (case c19 => k_is); (case d19 => k_is)
    (case a20 => k_is); (case b20 => k_is); (case c20 => k_is); (case d20 => k_is)
    (case a21 => k_is); (case b21 => k_is); (case c21 => k_is); (case d21 => k_is)
    (case a22 => k_is); (case b22 => k_is); (case c22 => k_is); (case d22 => k_is)
    (case a23 => k_is); (case b23 => k_is); (case c23 => k_is); (case d23 => k_is)
    (case a24 => k_is); (case b24 => k_is); (case c24 => k_is); (case d24 => k_is)
    (case a25 => k_is); (case b25 => k_is); (case c25 => k_is); (case d25 => k_is)
    (case a26 => k_is); (case b26 => k_is); (case c26 => k_is); (case d26 => k_is)
    (case a27 => k_is); (case b27 => k_is); (case c27 => k_is); (case d27 => k_is)
    (case a28 => k_is); (case b28 => k_is); (case c28 => k_is); (case d28 => k_is)
    (case a29 => k_is); (case b29 => k_is); (case c29 => k_is); (case d29 => k_is)
    (case a30 => k_is); (case b30 => k_is); (case c30 => k_is); (case d30 => k_is)
    (case a31 => k_is); (case b31 => k_is); (case c31 => k_is); (case d31 => k_is)
    (case a32 => k_is); (case b32 => k_is); (case c32 => k_is); (case d32 => k_is)
    (case z0 => k_is); (case z1 => k_is); (case z2 => k_is); (case z3 => k_is); (case z4 => k_is); (case z5 => k_is); (case z6 => k_is); (case z7 => k_is); (case z8 => k_is); (case z9 => k_is); (case z10 => k_is); (case z11 => k_is); (case z12 => k_is); (case z13 => k_is); (case z14 => k_is); (case z15 => k_is); (case z16 => k_is); (case z17 => k_is); (case z18 => k_is))
