import PyProof.Rows.All
import Wide.All
import OpenK.AllK
import Wide.FinOn
import HandS.ForMost
import HandS.Wide
import HandS.Walk
import HandS.Star
import HandS.Flow
import HandS.ExcInit
import HandS.ExcValue
import HandS.Lambda
import HandS.TupSets
import HandS.SetTxt0
import HandS.Set
import HandS.Strs
import PyProof.Rows.SortShellAny
import KE.GoesEnum
import HandS.Iter
import HandS.IsInst
import HandS.Codes
import HandS.RaiseMore
import HandS.TupLe
import HandS.Deep
import HandS.TupAny
import HandS.Style
import HandS.Exc
import HandS.ExcOwn
import HandS.ExcField
import HandS.ExcIs
import HandS.CallSlots
import HandS.WordsExc
import KE.KExcIs
import PyProof.P3In
import HandS.OwnEq
import HandS.Text
import HandS.ClsMeth
import HandS.TryOnly
import KE.KUnpackStar
import HandS.SetBool
import HandS.WideBits
import KE.SortData
import KE.DataCmp
import HandS.Defaults
import HandS.MakeKw
import HandS.MakeKwOnly
import PyProof.ReprRoads
import HandS.Ends
import HandS.SetKeys
import HandS.DictComp
import KE.DataMinKey
import HandS.SortKw
import HandS.SortInts
import KE.DataMinMax
import PyProof.Rows.RowBridgeK
import PyProof.Rows.StrMul
import KE.KxIndex
import HandS.Zip
import KE.KDictPairs
import HandS.Sort
import HandS.More
import KE.KDictList
import HandS.Conv
import KE.KDictKeyed
import PyProof.FactsAll.set_1
import PyProof.FactsAll.set_2
import PyProof.FactsAll.subtypes_5
import HandS.TupLen
import HandS.StrMore
import HandS.ExcCtx
import HandS.HotCalls
import HandS.SuiteRaise
import HandS.RaiseFrom
import HandS.ExcInitHot
import PyProof.ReprDict
import HandS.ReplaceDef
import HandS.EndTab
import KE.KWithOwn
import KE.OsArith
import KE.BitLaws
import PySem.Challenge.RW_leavelots_k66_whole_led_rooms
set_option Elab.async false
set_option linter.all false
set_option maxRecDepth 100000
set_option maxHeartbeats 4000000
/-! L3: data without a heap over the hand layer. A value of the program stands for a datum D; a def's body is read over data alone. -/
namespace G
open PySem L2
inductive D where
  | non | bl (b : Bool) | int (i : Int) | str (s : Str)
  | lst (xs : List D) | tup (xs : List D) | obj (c : Nat) (ds : List D) | scr (ns : List Int) | exc (a dd : Addr) (f : Str) (x : D) | dic (ks : List Key) (ds : List D) | tupF (xs : List D) | ref (a : Addr) | tupT (xs : List D) | dicF (ks : List Key) (ds : List D) | dicT (ks : List (List Key)) (ds : List D) | err (c : Nat) (x : D) | er0 (c : Nat) | fn (k : Nat) (ds : List D)
structure Cl where
  C : Addr
  fs : List Str
/-- a lambda of the text: its qualified name, its parameters, body, scope, their names, the names that it captures -/
structure FnS where
  q : Str
  params : Arguments
  body : Expr
  scope : Scope
  ps : List Str
  cap : List Str
/-- just this object stands at a -/
def PinO (a : Addr) (o : Obj) : HO := .ext fun h => h.get? a = some o
def lamO (S : FnS) (cs : List Addr) (pm : Value) (c' : Addr) (ctv : Value) : Obj := PySem.W.kla_obj "<lambda>" S.q S.params S.body S.scope (S.cap.zip cs) pm c' ctv
structure Wd where
  K : PySem.W.Frag
  cl : Nat → Cl
  er : Nat → Addr × Str := fun _ => (0, "")
  fn : Nat → Option FnS := fun _ => none
def Ex (H H' : Hp) : Prop := ∀ a o, H a = some o → H' a = some o
theorem Ex.rfl' {H : Hp} : Ex H H := fun _ _ h => h
theorem Ex.tr {H H1 H2 : Hp} (a : Ex H H1) (b : Ex H1 H2) : Ex H H2 := fun x o h => b x o (a x o h)
theorem Ex.new {H : Hp} {p : Addr} {o : HO} (h : H p = none) : Ex H (upd H p o) := fun a u e => by
  rw [upd_ne (ne_of_none e h)]; exact e
theorem Ex.free {H H' : Hp} {p : Addr} (e : Ex H H') (h : H' p = none) : H p = none := by
  cases q : H p with
  | none => rfl
  | some o => rw [e p o q] at h; cases h
theorem Ex.both {M H : Hp} {p : Addr} {o : HO} (e : Ex M H) (h : H p = none) : Ex (upd M p o) (upd H p o) := fun a u q => by
  by_cases ha : a = p
  · subst ha; rw [upd_same] at q ⊢; exact q
  · rw [upd_ne ha] at q ⊢; exact e a u q
theorem rd_mono {M M' : Hp} (e : Ex M M') {a : Addr} {u : HO} (h : Rd M a u) : Rd M' a u := by
  rcases h with h | ⟨o, h⟩
  · exact .inl (e _ _ h)
  · exact .inr ⟨o, e _ _ h⟩
theorem sqT_mono {K : PySem.W.Frag} {M M' : Hp} (e : Ex M M') {a : Addr} {xs : List V} (h : SqT K M a xs) : SqT K M' a xs := h.imp (rd_mono e) id
theorem sqL_mono {K : PySem.W.Frag} {M M' : Hp} (e : Ex M M') {a : Addr} {xs : List V} (h : SqL K M a xs) : SqL K M' a xs := h.imp (rd_mono e) id
/-- the value v stands for the datum d by what M tells -/
inductive At (Z : Wd) (M : Hp) : V → D → Prop
  | non : At Z M .non .non
  | bl {b} : At Z M (.bl b) (.bl b)
  | int {i} : At Z M (.int i) (.int i)
  | str {s} : At Z M (.str s) (.str s)
  | lst {a vs ds} : M a = some (.lst vs) → vs.length = ds.length → (∀ (i : Nat) v d, vs[i]? = some v → ds[i]? = some d → At Z M v d) → At Z M (.ref a) (.lst ds)
  | tup {a vs ds} : SqT Z.K M a vs → vs.length = ds.length → (∀ (i : Nat) v d, vs[i]? = some v → ds[i]? = some d → At Z M v d) → At Z M (.ref a) (.tup ds)
  | obj {a dx c vs ds} : M a = some (.ins (Z.cl c).C dx ((Z.cl c).fs.zip vs)) → vs.length = (Z.cl c).fs.length → vs.length = ds.length → (∀ (i : Nat) v d, vs[i]? = some v → ds[i]? = some d → At Z M v d) → At Z M (.ref a) (.obj c ds)
  | scr {a ns} : SqL Z.K M a (ns.map V.int) → At Z M (.ref a) (.scr ns)
  | exc {a dd f v x} : M dd = some (.xd [(f, v)]) → At Z M v x → At Z M (.ref a) (.exc a dd f x)
  | dic {a kvs ks ds} : M a = some (.dK kvs) → kvs.map (·.1) = ks → (kvs.map (·.2)).length = ds.length → (∀ (i : Nat) v d, (kvs.map (·.2))[i]? = some v → ds[i]? = some d → At Z M v d) → At Z M (.ref a) (.dic ks ds)
  | tupF {a o vs ds} : M a = some (.frz o (.tup vs)) → o.cls = .type "tuple" → (o.dict = none ∧ o.slots = #[]) → vs.length = ds.length → (∀ (i : Nat) v d, vs[i]? = some v → ds[i]? = some d → At Z M v d) → At Z M (.ref a) (.tupF ds)
  | ref {a} : At Z M (.ref a) (.ref a)
  | err {a d c v x} : M a = some (exo a (Z.er c).1 (some d)) → M d = some (exd d [((Z.er c).2, v)]) → At Z M v x → At Z M (.ref a) (.err c x)
  | er0 {a c} : M a = some (ExO (.ref (Z.er c).1) a) → At Z M (.ref a) (.er0 c)
  | fn {f : Addr} {k : Nat} {S : FnS} {cs : List Addr} {c' : Addr} {pm ctv : Value} {vs : List V} {ds : List D} : Z.fn k = some S → M f = some (PinO f (lamO S cs pm c' ctv)) → M c' = some (LamX.CodeO c' S.q) → cs.length = S.cap.length ∧ cs.Nodup → cs.length = vs.length →
      (∀ (i : Nat) c v, cs[i]? = some c → vs[i]? = some v → ∃ o u, M c = some (PinO c o) ∧ o.data = .cell (some u) ∧ RelV v u) → vs.length = ds.length → (∀ (i : Nat) v d, vs[i]? = some v → ds[i]? = some d → At Z M v d) → At Z M (.ref f) (.fn k ds)
  | tupT {a vs ds} : M a = some (.tup vs) → vs.length = ds.length → (∀ (i : Nat) v d, vs[i]? = some v → ds[i]? = some d → At Z M v d) → At Z M (.ref a) (.tupT ds)
  | dicF {a o kvs ks ds} : M a = some (.frz o (.dK kvs)) → kvs.map (·.1) = ks → (kvs.map (·.2)).length = ds.length → (∀ (i : Nat) v d, (kvs.map (·.2))[i]? = some v → ds[i]? = some d → At Z M v d) → At Z M (.ref a) (.dicF ks ds)
  | dicT {a o kvs ks ds} : M a = some (.frz o (.dT kvs)) → kvs.map (·.1) = ks → (kvs.map (·.2)).length = ds.length → (∀ (i : Nat) v d, (kvs.map (·.2))[i]? = some v → ds[i]? = some d → At Z M v d) → At Z M (.ref a) (.dicT ks ds)
section
variable {Z : Wd} {M M' H H' : Hp}
theorem At.mono {v : V} {d : D} (e : Ex M M') (h : At Z M v d) : At Z M' v d := by
  induction h with
  | non => exact .non
  | bl => exact .bl
  | int => exact .int
  | str => exact .str
  | lst h l _ ih => exact .lst (e _ _ h) l ih
  | tup h l _ ih => exact .tup (sqT_mono e h) l ih
  | obj h l l2 _ ih => exact .obj (e _ _ h) l l2 ih
  | scr h => exact .scr (sqL_mono e h)
  | exc h _ ih => exact .exc (e _ _ h) ih
  | err h1 h2 _ ih => exact .err (e _ _ h1) (e _ _ h2) ih
  | er0 h => exact .er0 (e _ _ h)
  | fn h1 h2 h3 h4 h5 h6 l _ ih => exact .fn h1 (e _ _ h2) (e _ _ h3) h4 h5 (fun i c v a b => let ⟨o, u, q1, q2, q3⟩ := h6 i c v a b; ⟨o, u, e _ _ q1, q2, q3⟩) l ih
  | dic h k l _ ih => exact .dic (e _ _ h) k l ih
  | tupF h c k l _ ih => exact .tupF (e _ _ h) c k l ih
  | ref => exact .ref
  | tupT h l _ ih => exact .tupT (e _ _ h) l ih
  | dicF h k l _ ih => exact .dicF (e _ _ h) k l ih
  | dicT h k l _ ih => exact .dicT (e _ _ h) k l ih
structure AtL (Z : Wd) (M : Hp) (vs : List V) (ds : List D) : Prop where
  len : vs.length = ds.length
  at' : ∀ (i : Nat) v d, vs[i]? = some v → ds[i]? = some d → At Z M v d
variable {vs ws : List V} {ds es : List D} {v : V} {d : D}
theorem AtL.mono (e : Ex M M') (h : AtL Z M vs ds) : AtL Z M' vs ds := ⟨h.len, fun i v d a b => (h.at' i v d a b).mono e⟩
theorem AtL.nil : AtL Z M [] [] := ⟨rfl, fun i v d a => by simp at a⟩
theorem AtL.cons (h : At Z M v d) (t : AtL Z M vs ds) : AtL Z M (v :: vs) (d :: ds) := ⟨by simp [t.len], fun i x y a b => by
  cases i with
  | zero => simp at a b; subst a; subst b; exact h
  | succ i => exact t.at' i x y (by simpa using a) (by simpa using b)⟩
theorem AtL.one (h : At Z M v d) : AtL Z M [v] [d] := .cons h .nil
theorem AtL.inv (h : AtL Z M vs (d :: ds)) : ∃ v ws, vs = v :: ws ∧ At Z M v d ∧ AtL Z M ws ds := by
  cases vs with
  | nil => have := h.len; simp at this
  | cons v ws => exact ⟨v, ws, rfl, h.at' 0 v d rfl rfl, ⟨by simpa using h.len, fun i x y a b => h.at' (i + 1) x y (by simpa using a) (by simpa using b)⟩⟩
theorem AtL.inv0 (h : AtL Z M vs []) : vs = [] := by
  have := h.len; simpa using this
theorem AtL.app (h : AtL Z M vs ds) (t : AtL Z M ws es) : AtL Z M (vs ++ ws) (ds ++ es) := ⟨by simp [h.len, t.len], fun i x y a b => by
  by_cases hi : i < vs.length
  · rw [List.getElem?_append_left hi] at a
    rw [List.getElem?_append_left (h.len ▸ hi)] at b
    exact h.at' i x y a b
  · rw [List.getElem?_append_right (by omega)] at a
    rw [List.getElem?_append_right (by have := h.len; omega)] at b
    exact t.at' (i - vs.length) x y a (by rw [h.len]; exact b)⟩
theorem AtL.take (n : Nat) (h : AtL Z M vs ds) : AtL Z M (vs.take n) (ds.take n) := ⟨by simp [h.len], fun i x y a b => by
  rw [List.getElem?_take] at a b
  split at a
  · rename_i hi; rw [if_pos hi] at b; exact h.at' i x y a b
  · cases a⟩
theorem AtL.drop (n : Nat) (h : AtL Z M vs ds) : AtL Z M (vs.drop n) (ds.drop n) := ⟨by simp [h.len], fun i x y a b => by
  rw [List.getElem?_drop] at a b
  exact h.at' (n + i) x y a b⟩
theorem AtL.set (i : Nat) (h : AtL Z M vs ds) (k : At Z M v d) : AtL Z M (vs.set i v) (ds.set i d) := ⟨by simp [h.len], fun j x y a b => by
  rw [List.getElem?_set] at a b
  split at a
  · rename_i e
    rw [if_pos e] at b
    split at a
    · rename_i q; rw [if_pos (h.len ▸ q)] at b; cases a; cases b; exact k
    · cases a
  · rename_i e; rw [if_neg e] at b; exact h.at' j x y a b⟩
theorem AtL.erase (n : Nat) (h : AtL Z M vs ds) : AtL Z M (vs.eraseIdx n) (ds.eraseIdx n) := ⟨by
    rw [List.length_eraseIdx, List.length_eraseIdx, h.len], fun i x y a b => by
  rw [List.getElem?_eraseIdx] at a b
  split at a
  · rename_i q; rw [if_pos q] at b; exact h.at' i x y a b
  · rename_i q; rw [if_neg q] at b; exact h.at' (i + 1) x y a b⟩
theorem AtL.get {i : Nat} (h : AtL Z M vs ds) (e : ds[i]? = some d) : ∃ v, vs[i]? = some v ∧ At Z M v d := by
  have hi : i < ds.length := (List.getElem?_eq_some_iff.mp e).1
  exact ⟨vs[i]'(h.len ▸ hi), by simp [h.len ▸ hi], h.at' i _ d (by simp [h.len ▸ hi]) e⟩
theorem AtL.getV {i : Nat} (h : AtL Z M vs ds) (e : vs[i]? = some v) : ∃ d, ds[i]? = some d ∧ At Z M v d := by
  have hi : i < vs.length := (List.getElem?_eq_some_iff.mp e).1
  exact ⟨ds[i]'(h.len ▸ hi), by simp [h.len ▸ hi], h.at' i v _ e (by simp [h.len ▸ hi])⟩
theorem AtL.ints : ∀ {vs : List V} {ns : List Int}, AtL Z M vs (ns.map D.int) → vs = ns.map V.int
  | vs, [], h => h.inv0
  | vs, n :: ns, h => by
    obtain ⟨v, ws, rfl, a, t⟩ := h.inv
    cases a
    rw [AtL.ints t]; rfl
theorem AtL.strs : ∀ {vs : List V} {ns : List Str}, AtL Z M vs (ns.map D.str) → vs = ns.map V.str
  | vs, [], h => h.inv0
  | vs, n :: ns, h => by
    obtain ⟨v, ws, rfl, a, t⟩ := h.inv
    cases a
    rw [AtL.strs t]; rfl
theorem AtL.bools : ∀ {vs : List V} {ns : List Bool}, AtL Z M vs (ns.map D.bl) → vs = ns.map V.bl
  | vs, [], h => h.inv0
  | vs, n :: ns, h => by
    obtain ⟨v, ws, rfl, a, t⟩ := h.inv
    cases a
    rw [AtL.bools t]; rfl
theorem AtL.ofInts : ∀ (ns : List Int), AtL Z M (ns.map V.int) (ns.map D.int)
  | [] => .nil
  | n :: ns => .cons .int (AtL.ofInts ns)
theorem AtL.ofStrs : ∀ (ns : List Str), AtL Z M (ns.map V.str) (ns.map D.str)
  | [] => .nil
  | n :: ns => .cons .str (AtL.ofStrs ns)
end
/-! ### objects that one def alone holds -/
inductive OD where
  | lst (xs : List D) | dic (kvs : List (Key × D)) | ins (c : Nat) (fs : List (Str × D)) | dT (kvs : List (List Key × D))
def ODAt (Z : Wd) (M : Hp) : HO → OD → Prop
  | .lst vs, .lst xs => AtL Z M vs xs
  | .dK kvs, .dic ds => kvs.map (·.1) = ds.map (·.1) ∧ AtL Z M (kvs.map (·.2)) (ds.map (·.2))
  | .dT kvs, .dT ds => kvs.map (·.1) = ds.map (·.1) ∧ AtL Z M (kvs.map (·.2)) (ds.map (·.2))
  | .ins C _ fs, .ins c gs => C = (Z.cl c).C ∧ fs.map (·.1) = gs.map (·.1) ∧ AtL Z M (fs.map (·.2)) (gs.map (·.2))
  | _, _ => False
inductive S where
  | no | d (x : D) | own (y : OD) | deal (q : Addr) (cs : List Int) (n : Int)
section
variable {Z : Wd} {M M' H H' : Hp}
theorem ODAt.mono (e : Ex M M') {ho : HO} {y : OD} (h : ODAt Z M ho y) : ODAt Z M' ho y := by
  cases ho with
  | lst vs => cases y with
    | lst xs => exact AtL.mono e h
    | dic _ => exact h
    | ins _ _ => exact h
    | dT _ => exact h
  | dK vs => cases y with
    | dic xs => exact ⟨h.1, h.2.mono e⟩
    | lst _ => exact h
    | ins _ _ => exact h
    | dT _ => exact h
  | dT vs => cases y with
    | dT xs => exact ⟨h.1, h.2.mono e⟩
    | lst _ => exact h
    | ins _ _ => exact h
    | dic _ => exact h
  | ins C dx fs => cases y with
    | ins c gs => exact ⟨h.1, h.2.1, h.2.2.mono e⟩
    | lst _ => exact h
    | dic _ => exact h
    | dT _ => exact h
  | _ => exact False.elim h
theorem ODAt.lstI {ho : HO} {xs : List D} (h : ODAt Z M ho (.lst xs)) : ∃ vs, ho = .lst vs ∧ AtL Z M vs xs := by
  cases ho with
  | lst vs => exact ⟨vs, rfl, h⟩
  | _ => exact False.elim h
theorem ODAt.dicI {ho : HO} {ds : List (Key × D)} (h : ODAt Z M ho (.dic ds)) : ∃ kvs, ho = .dK kvs ∧ kvs.map (·.1) = ds.map (·.1) ∧ AtL Z M (kvs.map (·.2)) (ds.map (·.2)) := by
  cases ho with
  | dK vs => exact ⟨vs, rfl, h⟩
  | _ => exact False.elim h
theorem ODAt.insI {ho : HO} {c : Nat} {gs : List (Str × D)} (h : ODAt Z M ho (.ins c gs)) : ∃ dx fs, ho = .ins (Z.cl c).C dx fs ∧ fs.map (·.1) = gs.map (·.1) ∧ AtL Z M (fs.map (·.2)) (gs.map (·.2)) := by
  cases ho with
  | ins C dx fs => obtain ⟨rfl, a, b⟩ := h; exact ⟨dx, fs, rfl, a, b⟩
  | _ => exact False.elim h
def SlotOk (Z : Wd) (M H : Hp) : Option V → S → Prop
  | _, .no => True
  | o, .d x => ∃ v, o = some v ∧ At Z M v x
  | o, .own y => ∃ p ho, o = some (.ref p) ∧ H p = some ho ∧ ODAt Z M ho y ∧ M p = none
  | o, .deal q cs n => ∃ p, o = some (.ref p) ∧ H p = some (.lst [.ref q, .int n]) ∧ H q = some (.lst (cs.map V.int)) ∧ M p = none ∧ M q = none ∧ p ≠ q
/-- what a slot with the address p holds alone -/
def Hol (p : Addr) : S → Addr → Prop
  | .own _, a => a = p
  | .deal q _ _, a => a = p ∨ a = q
  | _, _ => False
def Own (σ : St) (δ : List S) (i : Nat) (a : Addr) : Prop := ∃ p s, σ[i]? = some (some (.ref p)) ∧ δ[i]? = some s ∧ Hol p s a
theorem Own.mk {σ : St} {δ : List S} {i : Nat} {p : Addr} {y : OD} (h : σ[i]? = some (some (.ref p))) (k : δ[i]? = some (.own y)) : Own σ δ i p := ⟨p, _, h, k, rfl⟩
theorem Own.inv {σ : St} {δ : List S} {i : Nat} {p : Addr} {y : OD} (h : Own σ δ i p) (k : δ[i]? = some (.own y)) : σ[i]? = some (some (.ref p)) := by
  obtain ⟨q, s, a, b, c⟩ := h
  rw [k] at b; cases b; cases c; exact a
theorem Own.not {σ : St} {δ : List S} {i : Nat} {p : Addr} {s : S} (k : δ[i]? = some s) (n : ∀ p a, ¬ Hol p s a) : ¬ Own σ δ i p := fun ⟨q, s', _, b, c⟩ => by
  rw [k] at b; cases b; exact n _ _ c
theorem Own.same {σ σ' : St} {δ δ' : List S} {i : Nat} {p : Addr} (h : Own σ δ i p) (e : σ'[i]? = σ[i]?) (f : δ'[i]? = δ[i]?) : Own σ' δ' i p := by
  obtain ⟨q, s, a, b, c⟩ := h
  exact ⟨q, s, e.trans a, f.trans b, c⟩
theorem hol_no (p a : Addr) : ¬ Hol p .no a := id
theorem hol_d (x : D) (p a : Addr) : ¬ Hol p (.d x) a := id
/-- no tuple: it may change -/
def NT (o : HO) : Prop := ∀ vs, o ≠ .tup vs
theorem NT.own {Z : Wd} {M : Hp} {ho : HO} {y : OD} (h : ODAt Z M ho y) : NT ho := fun vs e => by subst e; cases y <;> exact h.elim
/-- the heap at a def's entry, and what of it never changes -/
structure Bas where
  h : Hp
  m : Hp
/-- the state: B the heap at the def's entry, W what it has borrowed (slot, address), M what will never change, H the heap, σ the slots' values, δ their data -/
structure I3 (Z : Wd) (B : Bas) (W : List (Nat × Addr)) (M H : Hp) (σ : St) (δ : List S) : Prop where
  ex : Ex M H
  mg : ∀ a o, B.h a = some o → B.m a = none → NT o → M a = none
  keep : ∀ a o, B.h a = some o → (∀ i, (i, a) ∉ W) → H a = some o
  len : σ.length = δ.length
  sl : ∀ (i : Nat) s, δ[i]? = some s → ∃ o, σ[i]? = some o ∧ SlotOk Z M H o s
  bor : ∀ i p, (i, p) ∈ W → Own σ δ i p
  own : ∀ i p, Own σ δ i p → (i, p) ∈ W ∨ B.h p = none
  dis : ∀ i j p, Own σ δ i p → Own σ δ j p → i = j
variable {B : Bas} {W : List (Nat × Addr)} {σ : St} {δ : List S}
theorem I3.ownAt (I : I3 Z B W M H σ δ) {i : Nat} {p : Addr} (h : Own σ δ i p) : ∃ ho, H p = some ho ∧ M p = none := by
  obtain ⟨p0, s, h1, h2, h3⟩ := h
  obtain ⟨o, e, k⟩ := I.sl i _ h2
  rw [h1] at e; cases e
  cases s with
  | no => exact h3.elim
  | d x => exact h3.elim
  | own y =>
    obtain ⟨q, ho, e2, e3, e4, e5⟩ := k
    cases e2; cases h3
    exact ⟨ho, e3, e5⟩
  | deal q cs n =>
    obtain ⟨p1, e2, e3, e4, e5, e6, _⟩ := k
    cases e2
    rcases h3 with rfl | rfl
    · exact ⟨_, e3, e5⟩
    · exact ⟨_, e4, e6⟩
theorem I3.ownO (I : I3 Z B W M H σ δ) {i : Nat} {p : Addr} {y : OD} (h : Own σ δ i p) (k : δ[i]? = some (.own y)) : ∃ ho, H p = some ho ∧ ODAt Z M ho y ∧ M p = none := by
  obtain ⟨o, e, q, ho, rfl, e3, e4, e5⟩ := I.sl i _ k
  have h1 := h.inv k
  rw [e] at h1; cases h1
  exact ⟨ho, e3, e4, e5⟩
theorem plain_no {ds : List D} {n i : Nat} {s : S} (h : (ds.map S.d ++ List.replicate n S.no)[i]? = some s) : ∀ p a, ¬ Hol p s a := by
  have : s ∈ ds.map S.d ++ List.replicate n S.no := List.mem_of_getElem? h
  rcases List.mem_append.mp this with m | m
  · obtain ⟨d, _, rfl⟩ := List.mem_map.mp m; exact hol_d d
  · rw [(List.mem_replicate.mp m).2]; exact hol_no
theorem Own.plain {ds : List D} {n i : Nat} {p : Addr} : ¬ Own σ (ds.map S.d ++ List.replicate n S.no) i p := fun ⟨q, _, _, b, c⟩ => plain_no b q p c
theorem I3.fresh (I : I3 Z B W M H σ δ) {p : Addr} (h : H p = none) : B.h p = none := by
  cases q : B.h p with
  | none => rfl
  | some o =>
    by_cases hw : ∃ i, (i, p) ∈ W
    · obtain ⟨i, hi⟩ := hw
      obtain ⟨ho, e, _⟩ := I.ownAt (I.bor i p hi)
      rw [h] at e; cases e
    · have := I.keep p o q (fun i hi => hw ⟨i, hi⟩)
      rw [h] at this; cases this
theorem I3.ownNT (I : I3 Z B W M H σ δ) {i : Nat} {p : Addr} (h : Own σ δ i p) : ∃ ho, H p = some ho ∧ NT ho := by
  obtain ⟨p0, s, h1, h2, h3⟩ := h
  obtain ⟨o, e, k⟩ := I.sl i _ h2
  rw [h1] at e; cases e
  cases s with
  | no => exact h3.elim
  | d x => exact h3.elim
  | own y =>
    obtain ⟨q, ho, e2, e3, e4, e5⟩ := k
    cases e2; cases h3
    exact ⟨ho, e3, .own e4⟩
  | deal q cs n =>
    obtain ⟨p1, e2, e3, e4, e5, e6, _⟩ := k
    cases e2
    rcases h3 with rfl | rfl
    · exact ⟨_, e3, fun _ e => nomatch e⟩
    · exact ⟨_, e4, fun _ e => nomatch e⟩
theorem I3.nt (I : I3 Z B W M H σ δ) {a : Addr} {o u : HO} (e : B.h a = some o) (t : NT o) (q : H a = some u) : NT u := by
  by_cases hw : ∃ i, (i, a) ∈ W
  · obtain ⟨i, hi⟩ := hw
    obtain ⟨ho, e2, t2⟩ := I.ownNT (I.bor i a hi)
    rw [q] at e2; cases e2; exact t2
  · have := I.keep a o e fun i hi => hw ⟨i, hi⟩
    rw [q] at this; cases this; exact t
theorem SlotOk.mono {o : Option V} {s : S} (e : Ex M M') (hn : ∀ p, M p = none → M' p ≠ none → H p = none) (h : SlotOk Z M H o s) : SlotOk Z M' H o s := by
  cases s with
  | no => trivial
  | d x => obtain ⟨v, a, b⟩ := h; exact ⟨v, a, b.mono e⟩
  | own y =>
    obtain ⟨p, ho, a, b, c, d⟩ := h
    refine ⟨p, ho, a, b, c.mono e, ?_⟩
    cases q : M' p with
    | none => rfl
    | some u =>
      have := hn p d (by rw [q]; exact fun z => nomatch z)
      rw [b] at this; cases this
  | deal q cs n =>
    obtain ⟨p, a, b, c, d, f, g⟩ := h
    have no : ∀ {x : Addr} {u : HO}, H x = some u → M x = none → M' x = none := fun {x u} hx hm => by
      cases z : M' x with
      | none => rfl
      | some u =>
        have := hn x hm (by rw [z]; exact fun z => nomatch z)
        rw [hx] at this; cases this
    exact ⟨p, a, b, c, no b d, no c f, g⟩
/-- a new object that will never change -/
theorem I3.grow (I : I3 Z B W M H σ δ) {p : Addr} {o : HO} (h : H p = none) : I3 Z B W (upd M p o) (upd H p o) σ δ := by
  have hm : M p = none := I.ex.free h
  refine ⟨I.ex.both h, fun a u e n => ?_, fun a u e n => ?_, I.len, fun i s e => ?_, I.bor, I.own, I.dis⟩
  · rw [upd_ne (ne_of_none e (I.fresh h))]; exact I.mg a u e n
  · have := I.keep a u e n
    rw [upd_ne (ne_of_none this h)]; exact this
  · obtain ⟨v, e1, e2⟩ := I.sl i s e
    refine ⟨v, e1, ?_⟩
    cases s with
    | no => trivial
    | d x => obtain ⟨u, a, b⟩ := e2; exact ⟨u, a, b.mono (Ex.new hm)⟩
    | own y =>
      obtain ⟨q, ho, a, b, c, d⟩ := e2
      have hq : q ≠ p := ne_of_none b h
      exact ⟨q, ho, a, by rw [upd_ne hq]; exact b, c.mono (Ex.new hm), by rw [upd_ne hq]; exact d⟩
    | deal q cs n =>
      obtain ⟨r, a, b, c, d, f, g⟩ := e2
      have hr : r ≠ p := ne_of_none b h
      have hq : q ≠ p := ne_of_none c h
      exact ⟨r, a, by rw [upd_ne hr]; exact b, by rw [upd_ne hq]; exact c, by rw [upd_ne hr]; exact d, by rw [upd_ne hq]; exact f, g⟩
/-- another object, that nobody knows, comes or changes -/
theorem I3.other (I : I3 Z B W M H σ δ) {p : Addr} {o : HO} (hB : B.h p = none) (hm : M p = none) (ho : ∀ i, ¬ Own σ δ i p) : I3 Z B W M (upd H p o) σ δ := by
  refine ⟨fun a u e => ?_, I.mg, fun a u e n => ?_, I.len, fun i s e => ?_, I.bor, I.own, I.dis⟩
  · rw [upd_ne (ne_of_none e hm)]; exact I.ex a u e
  · rw [upd_ne (ne_of_none e hB)]; exact I.keep a u e n
  · obtain ⟨v, e1, e2⟩ := I.sl i s e
    refine ⟨v, e1, ?_⟩
    cases s with
    | no => trivial
    | d x => exact e2
    | own y =>
      obtain ⟨q, hq, a, b, c, d⟩ := e2
      subst a
      have hq' : q ≠ p := fun z => ho i (z ▸ Own.mk e1 e)
      exact ⟨q, hq, rfl, by rw [upd_ne hq']; exact b, c, d⟩
    | deal q cs n =>
      obtain ⟨r, a, b, c, d, f, g⟩ := e2
      subst a
      have hr : r ≠ p := fun z => ho i (z ▸ ⟨r, _, e1, e, .inl rfl⟩)
      have hq : q ≠ p := fun z => ho i (z ▸ ⟨r, _, e1, e, .inr rfl⟩)
      exact ⟨r, rfl, by rw [upd_ne hr]; exact b, by rw [upd_ne hq]; exact c, d, f, g⟩
theorem Own.setS {i j : Nat} {p : Addr} {s s' : S} (hi : δ[i]? = some s) (hs : ∀ p a, Hol p s a ↔ Hol p s' a) : Own σ (δ.set i s') j p ↔ Own σ δ j p := by
  have hl : i < δ.length := (List.getElem?_eq_some_iff.mp hi).1
  unfold Own
  by_cases e : i = j
  · subst e
    rw [List.getElem?_set_self hl, hi]
    constructor
    · rintro ⟨q, u, a, b, c⟩; cases b; exact ⟨q, _, a, rfl, (hs _ _).mpr c⟩
    · rintro ⟨q, u, a, b, c⟩; cases b; exact ⟨q, _, a, rfl, (hs _ _).mp c⟩
  · rw [List.getElem?_set_ne e]
theorem Own.setO {i j : Nat} {p : Addr} {y y' : OD} (hi : δ[i]? = some (.own y)) : Own σ (δ.set i (.own y')) j p ↔ Own σ δ j p := Own.setS hi fun _ _ => Iff.rfl
/-- what slot i holds alone changes -/
theorem I3.writeS (I : I3 Z B W M H σ δ) {i : Nat} {o : Option V} {s s' : S} (h : σ[i]? = some o) (hi : δ[i]? = some s) (hs : ∀ p a, Hol p s a ↔ Hol p s' a) (hH : ∀ a, ¬ Own σ δ i a → H' a = H a) (hy : SlotOk Z M H' o s') : I3 Z B W M H' σ (δ.set i s') := by
  have hl : i < δ.length := (List.getElem?_eq_some_iff.mp hi).1
  refine ⟨fun a u e => ?_, I.mg, fun a u e n => ?_, by rw [List.length_set]; exact I.len, fun j t e => ?_, fun j q w => (Own.setS hi hs).mpr (I.bor j q w), fun j q o => I.own j q ((Own.setS hi hs).mp o), fun j k q a b => I.dis j k q ((Own.setS hi hs).mp a) ((Own.setS hi hs).mp b)⟩
  · rw [hH a fun o => by obtain ⟨_, _, q⟩ := I.ownAt o; rw [q] at e; cases e]; exact I.ex a u e
  · rw [hH a fun o => by
      rcases I.own i a o with q | q
      · exact n i q
      · rw [e] at q; cases q]
    exact I.keep a u e n
  · by_cases e1 : i = j
    · subst e1
      rw [List.getElem?_set_self hl] at e; cases e
      exact ⟨_, h, hy⟩
    · rw [List.getElem?_set_ne e1] at e
      obtain ⟨v, a, b⟩ := I.sl j t e
      refine ⟨v, a, ?_⟩
      cases t with
      | no => trivial
      | d x => exact b
      | own z =>
        obtain ⟨q, hq, c, d, f, g⟩ := b
        subst c
        exact ⟨q, hq, rfl, by rw [hH q fun o => e1 (I.dis i j q o (Own.mk a e))]; exact d, f, g⟩
      | deal q cs n =>
        obtain ⟨r, c, d, f, g, k, l⟩ := b
        subst c
        exact ⟨r, rfl, by rw [hH r fun o => e1 (I.dis i j r o ⟨r, _, a, e, .inl rfl⟩)]; exact d, by rw [hH q fun o => e1 (I.dis i j q o ⟨r, _, a, e, .inr rfl⟩)]; exact f, g, k, l⟩
theorem I3.write (I : I3 Z B W M H σ δ) {i : Nat} {p : Addr} {ho : HO} {y y' : OD} (h : σ[i]? = some (some (.ref p))) (hi : δ[i]? = some (.own y)) (hy : ODAt Z M ho y') : I3 Z B W M (upd H p ho) σ (δ.set i (.own y')) :=
  I.writeS h hi (fun _ _ => Iff.rfl) (fun a n => upd_ne fun z => n (z ▸ Own.mk h hi)) ⟨p, ho, rfl, upd_same, hy, by obtain ⟨_, _, m⟩ := I.ownAt (Own.mk h hi); exact m⟩
theorem Own.setN {i j : Nat} {p : Addr} {v : Option V} {s : S} (hs : ∀ p a, ¬ Hol p s a) (h : Own (σ.set i v) (δ.set i s) j p) : i ≠ j ∧ Own σ δ j p := by
  obtain ⟨q, u, a, b, c⟩ := h
  have e : i ≠ j := fun e => by
    subst e
    rw [List.getElem?_set] at b
    split at b
    · split at b
      · cases b; exact hs _ _ c
      · cases b
    · rename_i q; exact q rfl
  rw [List.getElem?_set_ne e] at a b
  exact ⟨e, q, u, a, b, c⟩
/-- slot i gets a datum, or is forgotten -/
theorem I3.put (I : I3 Z B W M H σ δ) {i : Nat} {o : Option V} {s : S} (hi : ∀ p, (i, p) ∉ W) (hs : ∀ p a, ¬ Hol p s a) (hv : SlotOk Z M H o s) : I3 Z B W M H (σ.set i o) (δ.set i s) := by
  refine ⟨I.ex, I.mg, I.keep, by rw [List.length_set, List.length_set]; exact I.len, fun j t e => ?_, fun j q w => ?_, fun j q o => I.own j q (Own.setN hs o).2, fun j k q a b => I.dis j k q (Own.setN hs a).2 (Own.setN hs b).2⟩
  · by_cases e1 : i = j
    · subst e1
      have hl : i < δ.length := by
        have := (List.getElem?_eq_some_iff.mp e).1; rwa [List.length_set] at this
      rw [List.getElem?_set_self hl] at e; cases e
      exact ⟨o, by rw [List.getElem?_set_self (by rw [I.len]; exact hl)], hv⟩
    · rw [List.getElem?_set_ne e1] at e ⊢
      exact I.sl j t e
  · have e1 : i ≠ j := fun e => hi q (e ▸ w)
    exact (I.bor j q w).same (List.getElem?_set_ne e1) (List.getElem?_set_ne e1)
/-- slot i gets an object that nobody else holds -/
theorem I3.putS (I : I3 Z B W M H σ δ) {i : Nat} {p : Addr} {s : S} (hi : ∀ p, (i, p) ∉ W) (hl : i < δ.length) (hv : SlotOk Z M H (some (.ref p)) s) (hB : ∀ a, Hol p s a → B.h a = none) (hn : ∀ a, Hol p s a → ∀ j, ¬ Own σ δ j a) :
    I3 Z B W M H (σ.set i (some (.ref p))) (δ.set i s) := by
  have own' : ∀ j q, Own (σ.set i (some (.ref p))) (δ.set i s) j q → (j = i ∧ Hol p s q) ∨ (i ≠ j ∧ Own σ δ j q) := fun j q h => by
    obtain ⟨r, u, a, b, c⟩ := h
    by_cases e : i = j
    · subst e
      rw [List.getElem?_set_self (by rw [I.len]; exact hl)] at a
      rw [List.getElem?_set_self hl] at b
      cases a; cases b; exact .inl ⟨rfl, c⟩
    · rw [List.getElem?_set_ne e] at a b
      exact .inr ⟨e, r, u, a, b, c⟩
  refine ⟨I.ex, I.mg, I.keep, by rw [List.length_set, List.length_set]; exact I.len, fun j t e => ?_, fun j q w => ?_, fun j q o => ?_, fun j k q a b => ?_⟩
  · by_cases e1 : i = j
    · subst e1
      rw [List.getElem?_set_self hl] at e; cases e
      exact ⟨_, by rw [List.getElem?_set_self (by rw [I.len]; exact hl)], hv⟩
    · rw [List.getElem?_set_ne e1] at e ⊢
      exact I.sl j t e
  · have e1 : i ≠ j := fun e => hi q (e ▸ w)
    exact (I.bor j q w).same (List.getElem?_set_ne e1) (List.getElem?_set_ne e1)
  · rcases own' j q o with ⟨rfl, h⟩ | ⟨_, o⟩
    · exact .inr (hB q h)
    · exact I.own j q o
  · rcases own' j q a with ⟨e1, e2⟩ | ⟨_, a1⟩
    · rcases own' k q b with ⟨e3, _⟩ | ⟨_, b1⟩
      · rw [e1, e3]
      · exact absurd b1 (hn q e2 k)
    · rcases own' k q b with ⟨e3, e4⟩ | ⟨_, b1⟩
      · exact absurd a1 (hn q e4 j)
      · exact I.dis j k q a1 b1
theorem I3.putO (I : I3 Z B W M H σ δ) {i : Nat} {p : Addr} {ho : HO} {y : OD} (hi : ∀ p, (i, p) ∉ W) (hl : i < δ.length) (hp : H p = some ho) (hy : ODAt Z M ho y) (hm : M p = none) (hB : B.h p = none) (hn : ∀ j, ¬ Own σ δ j p) :
    I3 Z B W M H (σ.set i (some (.ref p))) (δ.set i (.own y)) :=
  I.putS hi hl ⟨p, ho, rfl, hp, hy, hm⟩ (fun _ h => h ▸ hB) fun _ h => h ▸ hn
/-- what slot i holds alone is a datum from now on -/
theorem I3.freeze (I : I3 Z B W M H σ δ) {i : Nat} {xs : List D} (hi : ∀ p, (i, p) ∉ W) (h : δ[i]? = some (.own (.lst xs))) : ∃ M', Ex M M' ∧ I3 Z B W M' H σ (δ.set i (.d (.lst xs))) := by
  obtain ⟨o, e1, p, ho, rfl, e3, e4, e5⟩ := I.sl i _ h
  obtain ⟨vs, rfl, a⟩ := e4.lstI
  have hO : Own σ δ i p := Own.mk e1 h
  have hl : i < δ.length := (List.getElem?_eq_some_iff.mp h).1
  have ex : Ex M (upd M p (.lst vs)) := Ex.new e5
  have es : σ.set i (some (.ref p)) = σ := by
    apply List.ext_getElem?
    intro j
    by_cases e : i = j
    · subst e; rw [List.getElem?_set_self (by rw [I.len]; exact hl), e1]
    · rw [List.getElem?_set_ne e]
  have bad : ∀ j q, Own σ (δ.set i (.d (.lst xs))) j q → i ≠ j ∧ Own σ δ j q := fun j q o => by
    rw [← es] at o
    exact Own.setN (hol_d _) o
  refine ⟨_, ex, fun b u q => ?_, fun a u e n => ?_, I.keep, by rw [List.length_set]; exact I.len, fun j t e => ?_, fun j q w => ?_, fun j q o => I.own j q (bad j q o).2, fun j k q a b => I.dis j k q (bad j q a).2 (bad k q b).2⟩
  · by_cases z : b = p
    · subst z; rw [upd_same] at q; cases q; exact e3
    · rw [upd_ne z] at q; exact I.ex b u q
  · rcases I.own i p hO with z | z
    · exact absurd z (hi p)
    · rw [upd_ne (ne_of_none e z)]; exact I.mg a u e n
  · by_cases e' : i = j
    · subst e'
      rw [List.getElem?_set_self hl] at e; cases e
      exact ⟨_, e1, _, rfl, .lst upd_same a.len (a.mono ex).at'⟩
    · rw [List.getElem?_set_ne e'] at e
      obtain ⟨v, c, d⟩ := I.sl j t e
      refine ⟨v, c, ?_⟩
      cases t with
      | no => trivial
      | d x => obtain ⟨u, f, g⟩ := d; exact ⟨u, f, g.mono ex⟩
      | own z =>
        obtain ⟨q, hq, f, g, k, l⟩ := d
        subst f
        have hq' : q ≠ p := fun zz => e' (I.dis i j p hO (zz ▸ Own.mk c e))
        exact ⟨q, hq, rfl, g, k.mono ex, by rw [upd_ne hq']; exact l⟩
      | deal q cs n =>
        obtain ⟨r, f, g, k, l, m, o⟩ := d
        subst f
        have hr : r ≠ p := fun zz => e' (I.dis i j p hO (zz ▸ ⟨r, _, c, e, .inl rfl⟩))
        have hq : q ≠ p := fun zz => e' (I.dis i j p hO (zz ▸ ⟨r, _, c, e, .inr rfl⟩))
        exact ⟨r, rfl, g, k, by rw [upd_ne hr]; exact l, by rw [upd_ne hq]; exact m, o⟩
  · have e' : i ≠ j := fun e => hi q (e ▸ w)
    exact (I.bor j q w).same rfl (List.getElem?_set_ne e')
/-- all that the slots hold alone -/
def holds : Option V → S → List Addr
  | some (.ref p), .own _ => [p]
  | some (.ref p), .deal q _ _ => [p, q]
  | _, _ => []
theorem mem_holds {o : Option V} {s : S} {a : Addr} : a ∈ holds o s ↔ ∃ p, o = some (.ref p) ∧ Hol p s a := by
  cases o with
  | none => simp [holds]
  | some v =>
    cases v with
    | ref p => cases s <;> simp [holds, Hol]
    | _ => simp [holds]
def owns : Nat → St → List S → List (Nat × Addr)
  | i, o :: σ, s :: δ => (holds o s).map (fun a => (i, a)) ++ owns (i + 1) σ δ
  | _, _, _ => []
theorem owns_of : ∀ (σ : St) (δ : List S) (n i : Nat) (p : Addr), (i, p) ∈ owns n σ δ ↔ ∃ j, i = n + j ∧ Own σ δ j p
  | [], δ, n, i, p => by
    constructor
    · intro h; cases δ <;> simp [owns] at h
    · rintro ⟨j, _, q, s, h, _⟩; simp at h
  | o :: σ, [], n, i, p => by
    constructor
    · intro h; simp [owns] at h
    · rintro ⟨j, _, q, s, _, h, _⟩; simp at h
  | o :: σ, s :: δ, n, i, p => by
    have ih := owns_of σ δ (n + 1) i p
    have tail : (∃ j, i = n + 1 + j ∧ Own σ δ j p) ↔ ∃ j, i = n + (j + 1) ∧ Own (o :: σ) (s :: δ) (j + 1) p := by
      constructor
      · rintro ⟨j, e, h⟩; exact ⟨j, by omega, by unfold Own at h ⊢; simpa using h⟩
      · rintro ⟨j, e, h⟩; exact ⟨j, by omega, by unfold Own at h ⊢; simpa using h⟩
    have zero : Own (o :: σ) (s :: δ) 0 p ↔ p ∈ holds o s := by
      rw [mem_holds]
      unfold Own
      constructor
      · rintro ⟨q, u, a, b, c⟩; simp at a b; subst b; exact ⟨q, a, c⟩
      · rintro ⟨q, a, c⟩; exact ⟨q, s, by simp [a], by simp, c⟩
    rw [show owns n (o :: σ) (s :: δ) = (holds o s).map (fun a => (n, a)) ++ owns (n + 1) σ δ from rfl, List.mem_append, ih, tail, List.mem_map]
    constructor
    · rintro (⟨a, h, e⟩ | ⟨j, e, h⟩)
      · cases e; exact ⟨0, rfl, zero.mpr h⟩
      · exact ⟨j + 1, e, h⟩
    · rintro ⟨j, e, h⟩
      cases j with
      | zero => exact .inl ⟨p, zero.mp h, by rw [e]; rfl⟩
      | succ j => exact .inr ⟨j, e, h⟩
theorem mem_owns {i : Nat} {p : Addr} : (i, p) ∈ owns 0 σ δ ↔ Own σ δ i p := by
  rw [owns_of]
  constructor
  · rintro ⟨j, e, h⟩; rw [show i = j by omega]; exact h
  · intro h; exact ⟨i, by omega, h⟩
/-- the same state as from here on -/
theorem I3.rebase (I : I3 Z B W M H σ δ) : I3 Z ⟨H, M⟩ (owns 0 σ δ) M H σ δ :=
  ⟨I.ex, fun _ _ _ e _ => e, fun _ _ e _ => e, I.len, I.sl, fun _ _ w => mem_owns.mp w, fun _ _ o => .inl (mem_owns.mpr o), I.dis⟩
theorem I3.back {W2 : List (Nat × Addr)} {σ' : St} {δ' : List S} (I : I3 Z B W M H σ δ) (hW : ∀ i p, (i, p) ∈ W2 ↔ Own σ δ i p) (J : I3 Z ⟨H, M⟩ W2 M' H' σ' δ') : I3 Z B W M' H' σ' δ' := by
  refine ⟨J.ex, fun a o e n => ?_, fun a o e n => J.keep a o (I.keep a o e n) fun i hi => ?_, J.len, J.sl, fun i p w => J.bor i p ((hW i p).mpr (I.bor i p w)), fun i p o => ?_, J.dis⟩
  · cases q : H a with
    | none => rw [I.fresh q] at e; cases e
    | some u => exact fun t => J.mg a u q (I.mg a o e n t) (I.nt e t q)
  · rcases I.own i a ((hW i a).mp hi) with q | q
    · exact n i q
    · rw [e] at q; cases q
  · rcases J.own i p o with q | q
    · exact I.own i p ((hW i p).mp q)
    · exact .inr (I.fresh q)
/-- what nobody here holds stays -/
theorem I3.stays {a : Addr} {o : HO} (J : I3 Z B W M H σ δ) (h : B.h a = some o) (hm : B.m a = none) (hn : ∀ i, (i, a) ∉ W) (t : NT o) : H a = some o ∧ (∀ i, ¬ Own σ δ i a) ∧ M a = none := by
  refine ⟨J.keep a o h hn, fun i q => ?_, J.mg a o h hm t⟩
  rcases J.own i a q with z | z
  · exact hn i z
  · rw [h] at z; cases z
end
end G
set_option Elab.async false
set_option linter.all false
set_option maxRecDepth 100000
set_option maxHeartbeats 4000000
namespace G
open PySem L2
section
variable {Z : Wd} {M H M' H' : Hp} {B : Bas} {W : List (Nat × Addr)} {σ : St} {δ : List S}
/-- a new object that nobody holds becomes a datum -/
theorem I3.hold (I : I3 Z B W M H σ δ) {p : Addr} {o : HO} (hp : H p = some o) (hm : M p = none) (hB : B.h p = none) (hn : ∀ i, ¬ Own σ δ i p) : I3 Z B W (upd M p o) H σ δ := by
  have ex : Ex M (upd M p o) := Ex.new hm
  refine ⟨fun b u q => ?_, fun a u e n => by rw [upd_ne (ne_of_none e hB)]; exact I.mg a u e n, I.keep, I.len, fun j t e => ?_, I.bor, I.own, I.dis⟩
  · by_cases z : b = p
    · subst z; rw [upd_same] at q; cases q; exact hp
    · rw [upd_ne z] at q; exact I.ex b u q
  · obtain ⟨v, c, d⟩ := I.sl j t e
    refine ⟨v, c, ?_⟩
    cases t with
    | no => trivial
    | d x => obtain ⟨u, f, g⟩ := d; exact ⟨u, f, g.mono ex⟩
    | own z =>
      obtain ⟨q, hq, f, g, k, l⟩ := d
      subst f
      have hq' : q ≠ p := fun zz => hn j (zz ▸ Own.mk c e)
      exact ⟨q, hq, rfl, g, k.mono ex, by rw [upd_ne hq']; exact l⟩
    | deal q cs n =>
      obtain ⟨r, f, g, k, l, m, o⟩ := d
      subst f
      have hr : r ≠ p := fun zz => hn j (zz ▸ ⟨r, _, c, e, .inl rfl⟩)
      have hq : q ≠ p := fun zz => hn j (zz ▸ ⟨r, _, c, e, .inr rfl⟩)
      exact ⟨r, rfl, g, k, by rw [upd_ne hr]; exact l, by rw [upd_ne hq]; exact m, o⟩
/-! ### judgements -/
def ResOk (Z : Wd) (B : Bas) (M H : Hp) (σ : St) (δ : List S) (v : V) : S → Prop
  | .no => False
  | .d x => At Z M v x
  | .own y => ∃ p ho, v = .ref p ∧ H p = some ho ∧ ODAt Z M ho y ∧ M p = none ∧ B.h p = none ∧ ∀ i, ¬ Own σ δ i p
  | .deal q cs n => ∃ p, v = .ref p ∧ SlotOk Z M H (some v) (.deal q cs n) ∧ ∀ a, Hol p (.deal q cs n) a → B.h a = none ∧ ∀ i, ¬ Own σ δ i a
/-- an expression: its answer is a datum, or a new object that nobody holds -/
def XR (Z : Wd) (te : TE) (δ : List S) (Φ : S → List S → Prop) : Prop :=
  ∀ B W M H σ (Q : VK), I3 Z B W M H σ δ → (∀ M' H' δ' v s, Φ s δ' → Ex M M' → I3 Z B W M' H' σ δ' → ResOk Z B M' H' σ δ' v s → Q v H') → te σ H Q
def onD (Φ : D → List S → Prop) : S → List S → Prop
  | .d x, δ => Φ x δ
  | _, _ => False
def onO (Φ : OD → List S → Prop) : S → List S → Prop
  | .own y, δ => Φ y δ
  | _, _ => False
abbrev XE (Z : Wd) (te : TE) (δ : List S) (Φ : D → List S → Prop) : Prop := XR Z te δ (onD Φ)
abbrev XO (Z : Wd) (te : TE) (δ : List S) (Φ : OD → List S → Prop) : Prop := XR Z te δ (onO Φ)
def XT (Z : Wd) (tt : TT) (δ : List S) (Φ : Bool → List S → Prop) : Prop :=
  ∀ B W M H σ (Q : Bool → Hp → Prop), I3 Z B W M H σ δ → (∀ M' H' δ' b, Φ b δ' → Ex M M' → I3 Z B W M' H' σ δ' → Q b H') → tt σ H Q
def XA (Z : Wd) (ta : TA) (δ : List S) (Φ : List D → List S → Prop) : Prop :=
  ∀ B W M H σ (Q : List V → Hp → Prop), I3 Z B W M H σ δ → (∀ M' H' δ' vs ds, Φ ds δ' → Ex M M' → I3 Z B W M' H' σ δ' → AtL Z M' vs ds → Q vs H') → ta σ H Q
/-- a target; vs: the slots that it may change -/
def XG (Z : Wd) (vs bs : List Nat) (g : TG) (x : D) (δ : List S) (Φ : List S → Prop) : Prop :=
  ∀ B W M H σ v (Q : St → Hp → Prop), W.map (·.1) = bs → I3 Z B W M H σ δ → At Z M v x →
    (∀ M' H' σ' δ', Φ δ' → Ex M M' → I3 Z B W M' H' σ' δ' → (∀ j, j ∉ vs → σ'[j]? = σ[j]?) → σ'.length = σ.length → Q σ' H') → g v σ H Q
structure Po where
  N : List S → Prop
  R : S → List S → Prop
  B : List S → Prop := fun _ => False
  C : List S → Prop := fun _ => False
  X : Bas → List (Nat × Addr) → Hp → Prop := fun _ _ _ => True
def RetOk (Z : Wd) (B : Bas) (M H : Hp) (v : V) : S → Prop
  | .no => False
  | .d x => At Z M v x
  | .own y => ∃ p ho, v = .ref p ∧ H p = some ho ∧ ODAt Z M ho y ∧ M p = none ∧ B.h p = none
  | .deal q cs n => ∃ p, v = .ref p ∧ SlotOk Z M H (some v) (.deal q cs n) ∧ ∀ a, Hol p (.deal q cs n) a → B.h a = none
structure EndsOk (Z : Wd) (B : Bas) (W : List (Nat × Addr)) (M : Hp) (P : Po) (E : Ends) : Prop where
  nx : ∀ M' H' σ' δ', P.N δ' → Ex M M' → I3 Z B W M' H' σ' δ' → E.nx σ' H'
  rt : ∀ M' H' σ' δ' v s, P.R s δ' → Ex M M' → I3 Z B W M' H' σ' δ' → RetOk Z B M' H' v s → E.rt v H'
  bk : ∀ M' H' σ' δ', P.B δ' → Ex M M' → I3 Z B W M' H' σ' δ' → E.bk σ' H'
  ct : ∀ M' H' σ' δ', P.C δ' → Ex M M' → I3 Z B W M' H' σ' δ' → E.ct σ' H'
  xc : ∀ M', Ex M M' → P.X B W M'
def XS (Z : Wd) (bs : List Nat) (ts : TS) (δ : List S) (P : Po) : Prop :=
  ∀ B W M H σ E, W.map (·.1) = bs → I3 Z B W M H σ δ → EndsOk Z B W M P E → ts E σ H
theorem EndsOk.mono {P : Po} {E : Ends} (e : Ex M M') (h : EndsOk Z B W M P E) : EndsOk Z B W M' P E :=
  ⟨fun _ _ _ _ p x => h.nx _ _ _ _ p (e.tr x), fun _ _ _ _ _ _ p x => h.rt _ _ _ _ _ _ p (e.tr x), fun _ _ _ _ p x => h.bk _ _ _ _ p (e.tr x), fun _ _ _ _ p x => h.ct _ _ _ _ p (e.tr x), fun _ x => h.xc _ (e.tr x)⟩
variable {te ta tb tv : TE} {tt t u : TT} {Φ : D → List S → Prop} {Ψ : S → List S → Prop}
theorem XE.run {Q : VK} (h : XE Z te δ Φ) (I : I3 Z B W M H σ δ) (k : ∀ M' H' δ' v d, Φ d δ' → Ex M M' → I3 Z B W M' H' σ δ' → At Z M' v d → Q v H') : te σ H Q :=
  h B W M H σ Q I fun M' H' δ' v s p e I' r => by
    cases s with
    | d x => exact k M' H' δ' v x p e I' r
    | _ => exact False.elim p
theorem XE.mk (h : ∀ B W M H σ (Q : VK), I3 Z B W M H σ δ → (∀ M' H' δ' v d, Φ d δ' → Ex M M' → I3 Z B W M' H' σ δ' → At Z M' v d → Q v H') → te σ H Q) : XE Z te δ Φ :=
  fun B W M H σ Q I k => h B W M H σ Q I fun M' H' δ' v d p e I' a => k M' H' δ' v (.d d) p e I' a
theorem XO.mk {Φ : OD → List S → Prop} (h : ∀ B W M H σ (Q : VK), I3 Z B W M H σ δ → (∀ M' H' δ' p ho y, Φ y δ' → Ex M M' → I3 Z B W M' H' σ δ' → H' p = some ho → ODAt Z M' ho y → M' p = none → B.h p = none → (∀ i, ¬ Own σ δ' i p) → Q (.ref p) H') → te σ H Q) : XO Z te δ Φ :=
  fun B W M H σ Q I k => h B W M H σ Q I fun M' H' δ' p ho y f e I' a b c d g => k M' H' δ' _ (.own y) f e I' ⟨p, ho, rfl, a, b, c, d, g⟩
theorem XO.run {Q : VK} {Φ : OD → List S → Prop} (h : XO Z te δ Φ) (I : I3 Z B W M H σ δ) (k : ∀ M' H' δ' p ho y, Φ y δ' → Ex M M' → I3 Z B W M' H' σ δ' → H' p = some ho → ODAt Z M' ho y → M' p = none → B.h p = none → (∀ i, ¬ Own σ δ' i p) → Q (.ref p) H') : te σ H Q :=
  h B W M H σ Q I fun M' H' δ' v s f e I' r => by
    cases s with
    | own y => obtain ⟨p, ho, rfl, a, b, c, d, g⟩ := r; exact k M' H' δ' p ho y f e I' a b c d g
    | _ => exact False.elim f
theorem XR.imp {Ψ' : S → List S → Prop} (h : XR Z te δ Ψ) (k : ∀ s δ', Ψ s δ' → Ψ' s δ') : XR Z te δ Ψ' :=
  fun B W M H σ Q I q => h B W M H σ Q I fun M' H' δ' v s p => q M' H' δ' v s (k s δ' p)
/-- a new list that is used as a datum -/
theorem xe_ofO (h : XO Z te δ fun y δ' => ∃ xs, y = .lst xs ∧ Φ (.lst xs) δ') : XE Z te δ Φ := XE.mk fun B W M H σ Q I k =>
  h.run I fun M' H' δ' p ho y f e I' a b c d g => by
    obtain ⟨xs, rfl, f⟩ := f
    obtain ⟨vs, rfl, l⟩ := b.lstI
    have ex : Ex M' (upd M' p (.lst vs)) := Ex.new c
    exact k _ _ δ' _ _ f (e.tr ex) (I'.hold a c d g) (.lst upd_same l.len (l.mono ex).at')
/-! ### names, constants -/
theorem xe_var {i : Nat} {d : D} (h : δ[i]? = some (.d d)) (k : Φ d δ) : XE Z (tVar i) δ Φ := XE.mk fun B W M H σ Q I q => by
  obtain ⟨o, e, v, rfl, a⟩ := I.sl i _ h
  exact ⟨v, e, q M H δ v d k Ex.rfl' I a⟩
theorem xe_non (k : Φ .non δ) : XE Z (tC .non) δ Φ := XE.mk fun B W M H σ Q I q => q M H δ _ _ k Ex.rfl' I .non
theorem xe_bl {b : Bool} (k : Φ (.bl b) δ) : XE Z (tC (.bl b)) δ Φ := XE.mk fun B W M H σ Q I q => q M H δ _ _ k Ex.rfl' I .bl
theorem xe_int {b : Int} (k : Φ (.int b) δ) : XE Z (tC (.int b)) δ Φ := XE.mk fun B W M H σ Q I q => q M H δ _ _ k Ex.rfl' I .int
theorem xe_str {b : Str} (k : Φ (.str b) δ) : XE Z (tC (.str b)) δ Φ := XE.mk fun B W M H σ Q I q => q M H δ _ _ k Ex.rfl' I .str
/-! ### ints -/
theorem xe_I0 {g : Int → Int → Int} (h : XE Z ta δ fun a δ1 => XE Z tb δ1 fun b δ2 => ∃ i j, a = .int i ∧ b = .int j ∧ Φ (.int (g i j)) δ2) : XE Z (tOp (rI0 fun i j => .int (g i j)) ta tb) δ Φ := XE.mk fun B W M H σ Q I q =>
  h.run I fun M1 H1 δ1 x a h1 e1 I1 at1 => XE.run h1 I1 fun M2 H2 δ2 y b h2 e2 I2 at2 => by
    obtain ⟨i, j, rfl, rfl, f⟩ := h2
    cases at1; cases at2
    exact ⟨i, j, rfl, rfl, q M2 H2 δ2 _ _ f (e1.tr e2) I2 .int⟩
theorem xe_I {C : Int → Int → Prop} {g : Int → Int → Int} (h : XE Z ta δ fun a δ1 => XE Z tb δ1 fun b δ2 => ∃ i j, a = .int i ∧ b = .int j ∧ C i j ∧ Φ (.int (g i j)) δ2) : XE Z (tOp (rI C fun i j => .int (g i j)) ta tb) δ Φ := XE.mk fun B W M H σ Q I q =>
  h.run I fun M1 H1 δ1 x a h1 e1 I1 at1 => XE.run h1 I1 fun M2 H2 δ2 y b h2 e2 I2 at2 => by
    obtain ⟨i, j, rfl, rfl, c, f⟩ := h2
    cases at1; cases at2
    exact ⟨i, j, rfl, rfl, c, q M2 H2 δ2 _ _ f (e1.tr e2) I2 .int⟩
theorem xe_B0 {g : Int → Int → Bool} (h : XE Z ta δ fun a δ1 => XE Z tb δ1 fun b δ2 => ∃ i j, a = .int i ∧ b = .int j ∧ Φ (.bl (g i j)) δ2) : XE Z (tOp (rI0 fun i j => .bl (g i j)) ta tb) δ Φ := XE.mk fun B W M H σ Q I q =>
  h.run I fun M1 H1 δ1 x a h1 e1 I1 at1 => XE.run h1 I1 fun M2 H2 δ2 y b h2 e2 I2 at2 => by
    obtain ⟨i, j, rfl, rfl, f⟩ := h2
    cases at1; cases at2
    exact ⟨i, j, rfl, rfl, q M2 H2 δ2 _ _ f (e1.tr e2) I2 .bl⟩
/-! ### scalars -/
def sc : D → Option V
  | .non => some .non | .bl b => some (.bl b) | .int i => some (.int i) | .str s => some (.str s)
  | _ => none
theorem At.scal {v w : V} {d : D} (a : At Z M v d) (h : sc d = some w) : v = w := by
  cases a <;> simp [sc] at h <;> exact h
theorem xe_eq (h : XE Z ta δ fun a δ1 => XE Z tb δ1 fun b δ2 => ∃ v w, sc a = some v ∧ sc b = some w ∧ scal v w = true ∧ Φ (.bl (decide (v = w))) δ2) : XE Z (tOp rEq ta tb) δ Φ := XE.mk fun B W M H σ Q I q =>
  h.run I fun M1 H1 δ1 x a h1 e1 I1 at1 => XE.run h1 I1 fun M2 H2 δ2 y b h2 e2 I2 at2 => by
    obtain ⟨v, w, s1, s2, c, f⟩ := h2
    cases at1.scal s1; cases at2.scal s2
    exact ⟨c, q M2 H2 δ2 _ _ f (e1.tr e2) I2 .bl⟩
theorem xe_ne (h : XE Z ta δ fun a δ1 => XE Z tb δ1 fun b δ2 => ∃ v w, sc a = some v ∧ sc b = some w ∧ scal v w = true ∧ Φ (.bl (!decide (v = w))) δ2) : XE Z (tOp rNe ta tb) δ Φ := XE.mk fun B W M H σ Q I q =>
  h.run I fun M1 H1 δ1 x a h1 e1 I1 at1 => XE.run h1 I1 fun M2 H2 δ2 y b h2 e2 I2 at2 => by
    obtain ⟨v, w, s1, s2, c, f⟩ := h2
    cases at1.scal s1; cases at2.scal s2
    exact ⟨c, q M2 H2 δ2 _ _ f (e1.tr e2) I2 .bl⟩
/-! ### any data: == and != -/
mutual
def py : D → PyData
  | .non => .none | .bl b => .bool b | .int i => .int i | .str s => .str s
  | .lst xs => .list (pyL xs) | .tup xs => .tuple (pyL xs)
  | .obj _ _ => .none | .scr ns => .list (ns.map .int) | .exc _ _ _ _ => .none | .dic _ _ => .none | .tupF _ => .none | .ref _ => .none | .tupT xs => .tuple (pyL xs) | .dicF _ _ => .none | .dicT _ _ => .none | .err _ _ => .none | .er0 _ => .none | .fn _ _ => .none
def pyL : List D → List PyData
  | [] => []
  | x :: xs => py x :: pyL xs
end
mutual
def pla : D → Bool
  | .non => true | .bl b => true | .int i => true | .str s => true
  | .lst xs => plaL xs | .tup xs => plaL xs
  | .obj _ _ => false | .scr _ => false | .exc _ _ _ _ => false | .dic _ _ => false | .tupF _ => false | .ref _ => false | .tupT xs => plaL xs | .dicF _ _ => false | .dicT _ _ => false | .err _ _ => false | .er0 _ => false | .fn _ _ => false
def plaL : List D → Bool
  | [] => true
  | x :: xs => pla x && plaL xs
end
mutual
theorem At.dp : ∀ (d : D) (v : V), At Z M v d → Ex M H → pla d = true → Dp Z.K H v (py d)
  | .non, _, .non, _, _ => .non
  | .bl _, _, .bl, _, _ => .bl _
  | .int _, _, .int, _, _ => .int _
  | .str _, _, .str, _, _ => .str _
  | .lst ds, _, .lst h l k, e, p => .lst (SqL.of (e _ _ h)) (AtL.dp ds _ ⟨l, k⟩ e p)
  | .tup ds, _, .tup h l k, e, p => .tup (sqT_mono e h) (AtL.dp ds _ ⟨l, k⟩ e p)
  | .tupT ds, _, .tupT h l k, e, p => .tup (.inl (.inl (e _ _ h))) (AtL.dp ds _ ⟨l, k⟩ e p)
theorem AtL.dp : ∀ (ds : List D) (vs : List V), AtL Z M vs ds → Ex M H → plaL ds = true → DpAll Z.K H vs (pyL ds)
  | [], vs, a, _, _ => by rw [a.inv0]; exact .nil
  | d :: ds, vs, a, e, p => by
    obtain ⟨v, ws, rfl, a1, a2⟩ := a.inv
    have p' : (pla d && plaL ds) = true := p
    rw [Bool.and_eq_true] at p'
    exact .cons (At.dp d v a1 e p'.1) (AtL.dp ds ws a2 e p'.2)
end
theorem xe_neD (h : XE Z ta δ fun a δ1 => XE Z tb δ1 fun b δ2 => pla a = true ∧ pla b = true ∧ SeqAt.shaped (py a) = true ∧ SeqAt.shaped (py b) = true ∧ Φ (.bl (!PyData.eqv (py a) (py b))) δ2) : XE Z (tOp (rNeD Z.K) ta tb) δ Φ := XE.mk fun B W M H σ Q I q =>
  h.run I fun M1 H1 δ1 x a h1 e1 I1 at1 => XE.run h1 I1 fun M2 H2 δ2 y b h2 e2 I2 at2 => by
    obtain ⟨pa, pb, sa, sb, f⟩ := h2
    exact ⟨_, _, At.dp a x (at1.mono e2) I2.ex pa, At.dp b y at2 I2.ex pb, sa, sb, q M2 H2 δ2 _ _ f (e1.tr e2) I2 .bl⟩
/-! ### tests -/
variable {Θ : Bool → List S → Prop}
theorem xt_test (h : XE Z te δ fun d δ' => ∃ b, d = .bl b ∧ Θ b δ') : XT Z (tTest te) δ Θ := fun B W M H σ Q I q =>
  h.run I fun M1 H1 δ1 x a h1 e1 I1 at1 => by
    obtain ⟨b, rfl, f⟩ := h1
    cases at1
    exact ⟨b, rfl, q M1 H1 δ1 b f e1 I1⟩
theorem xt_B (h : XE Z te δ fun d δ' => ∃ b, d = .bl b ∧ Θ b δ') : XT Z (tB te) δ Θ := fun B W M H σ Q I q =>
  h.run I fun M1 H1 δ1 x a h1 e1 I1 at1 => by
    obtain ⟨b, rfl, f⟩ := h1
    cases at1
    exact ⟨b, rfl, q M1 H1 δ1 b f e1 I1⟩
theorem xt_and (h : XT Z t δ fun b δ' => if b = true then XT Z u δ' Θ else Θ false δ') : XT Z (tAnd t u) δ Θ := fun B W M H σ Q I q =>
  h B W M H σ _ I fun M1 H1 δ1 b h1 e1 I1 => by
    cases b with
    | true => rw [if_pos rfl] at h1 ⊢; exact h1 B W M1 H1 σ Q I1 fun M2 H2 δ2 c h2 e2 I2 => q M2 H2 δ2 c h2 (e1.tr e2) I2
    | false => rw [if_neg Bool.false_ne_true] at h1 ⊢; exact q M1 H1 δ1 _ h1 e1 I1
theorem xt_or (h : XT Z t δ fun b δ' => if b = true then Θ true δ' else XT Z u δ' Θ) : XT Z (tOr t u) δ Θ := fun B W M H σ Q I q =>
  h B W M H σ _ I fun M1 H1 δ1 b h1 e1 I1 => by
    cases b with
    | false => rw [if_neg Bool.false_ne_true] at h1 ⊢; exact h1 B W M1 H1 σ Q I1 fun M2 H2 δ2 c h2 e2 I2 => q M2 H2 δ2 c h2 (e1.tr e2) I2
    | true => rw [if_pos rfl] at h1 ⊢; exact q M1 H1 δ1 _ h1 e1 I1
theorem xt_not (h : XT Z t δ fun b δ' => Θ (!b) δ') : XT Z (tNot t) δ Θ := fun B W M H σ Q I q =>
  h B W M H σ _ I fun M1 H1 δ1 b h1 e1 I1 => q M1 H1 δ1 _ h1 e1 I1
theorem xt_yes (k : Θ true δ) : XT Z tYes δ Θ := fun B W M H σ Q I q => q M H δ true k Ex.rfl' I
/-- truth -/
def tru : D → Option Bool
  | .non => some false | .bl b => some b | .int i => some (i != 0) | .str s => some (decide (s.length ≤ sizeLine) && ((s.length : Int) != 0)) | .lst xs => some (!xs.isEmpty) | .tup xs => some (!xs.isEmpty)
  | _ => none
theorem empty_of {vs : List V} {ds : List D} (a : AtL Z M vs ds) : (!ds.isEmpty) = !vs.isEmpty := by
  have := a.len
  cases vs <;> cases ds <;> simp at this ⊢
theorem tru_of {v : V} {d : D} {b : Bool} (a : At Z M v d) (e : Ex M H) (hs : ∀ s, d = .str s → s.length ≤ sizeLine) (h : tru d = some b) : TruV Z.K v H b := by
  cases a with
  | non => cases h; rfl
  | bl => cases h; rfl
  | int => cases h; rfl
  | str =>
    have hs := hs _ rfl
    refine ⟨hs, ?_⟩
    simp only [tru, hs, decide_true, Bool.true_and, Option.some.injEq] at h
    exact h.symm
  | lst h1 l k => cases h; exact .inl ⟨_, SqL.of (e _ _ h1), empty_of ⟨l, k⟩⟩
  | tup h1 l k => cases h; exact .inr (.inl ⟨_, sqT_mono e h1, empty_of ⟨l, k⟩⟩)
  | _ => cases h
theorem xt_truth (h : XE Z ta δ fun d δ' => (∀ s, d = .str s → s.length ≤ sizeLine) ∧ ∃ b, tru d = some b ∧ Θ b δ') : XT Z (fun σ H Q => ta σ H fun x H' => ∃ k, TruV Z.K x H' k ∧ Q k H') δ Θ := fun B W M H σ Q I q =>
  h.run I fun M1 H1 δ1 x a h1 e1 I1 at1 => by
    obtain ⟨hs, b, e, f⟩ := h1
    exact ⟨b, tru_of at1 I1.ex hs e, q M1 H1 δ1 b f e1 I1⟩
/-- and, or, not as values -/
theorem xe_andV (h : XE Z ta δ fun a δ1 => ∃ c, a = .bl c ∧ if c = true then XE Z tb δ1 Φ else Φ (.bl false) δ1) : XE Z (tAndV ta tb) δ Φ := XE.mk fun B W M H σ Q I q =>
  h.run I fun M1 H1 δ1 x a h1 e1 I1 at1 => by
    obtain ⟨c, rfl, f⟩ := h1
    cases at1
    refine ⟨c, rfl, ?_⟩
    cases c with
    | true => rw [if_pos rfl] at f ⊢; exact XE.run f I1 fun M2 H2 δ2 y b h2 e2 I2 at2 => q M2 H2 δ2 y b h2 (e1.tr e2) I2 at2
    | false => rw [if_neg Bool.false_ne_true] at f ⊢; exact q M1 H1 δ1 _ _ f e1 I1 .bl
theorem xe_orV (h : XE Z ta δ fun a δ1 => ∃ c, a = .bl c ∧ if c = true then Φ (.bl true) δ1 else XE Z tb δ1 Φ) : XE Z (tOrV ta tb) δ Φ := XE.mk fun B W M H σ Q I q =>
  h.run I fun M1 H1 δ1 x a h1 e1 I1 at1 => by
    obtain ⟨c, rfl, f⟩ := h1
    cases at1
    refine ⟨c, rfl, ?_⟩
    cases c with
    | false => rw [if_neg Bool.false_ne_true] at f ⊢; exact XE.run f I1 fun M2 H2 δ2 y b h2 e2 I2 at2 => q M2 H2 δ2 y b h2 (e1.tr e2) I2 at2
    | true => rw [if_pos rfl] at f ⊢; exact q M1 H1 δ1 _ _ f e1 I1 .bl
theorem xe_notV (h : XE Z ta δ fun a δ1 => ∃ c, a = .bl c ∧ Φ (.bl (!c)) δ1) : XE Z (tNotV ta) δ Φ := XE.mk fun B W M H σ Q I q =>
  h.run I fun M1 H1 δ1 x a h1 e1 I1 at1 => by
    obtain ⟨c, rfl, f⟩ := h1
    cases at1
    exact ⟨c, rfl, q M1 H1 δ1 _ _ f e1 I1 .bl⟩
theorem xr_if (h : XT Z t δ fun b δ' => if b = true then XR Z ta δ' Ψ else XR Z tb δ' Ψ) : XR Z (tIf t ta tb) δ Ψ := fun B W M H σ Q I q =>
  h B W M H σ _ I fun M1 H1 δ1 b h1 e1 I1 => by
    cases b with
    | true => rw [if_pos rfl] at h1 ⊢; exact h1 B W M1 H1 σ Q I1 fun M2 H2 δ2 v s h2 e2 I2 => q M2 H2 δ2 v s h2 (e1.tr e2) I2
    | false => rw [if_neg Bool.false_ne_true] at h1 ⊢; exact h1 B W M1 H1 σ Q I1 fun M2 H2 δ2 v s h2 e2 I2 => q M2 H2 δ2 v s h2 (e1.tr e2) I2
/-! ### argument lists, displays -/
variable {Λ : List D → List S → Prop} {ts : TA}
theorem xa_nil (k : Λ [] δ) : XA Z tNil δ Λ := fun B W M H σ Q I q => q M H δ [] [] k Ex.rfl' I .nil
theorem xa_cons (h : XE Z te δ fun d δ1 => XA Z ts δ1 fun ds δ2 => Λ (d :: ds) δ2) : XA Z (tCons te ts) δ Λ := fun B W M H σ Q I q =>
  h.run I fun M1 H1 δ1 x a h1 e1 I1 at1 => h1 B W M1 H1 σ _ I1 fun M2 H2 δ2 vs ds h2 e2 I2 at2 => q M2 H2 δ2 _ _ h2 (e1.tr e2) I2 (.cons (at1.mono e2) at2)
theorem xa_star (h : XE Z te δ fun d δ1 => ∃ xs, (d = .lst xs ∨ d = .tup xs) ∧ XA Z ts δ1 fun ds δ2 => Λ (xs ++ ds) δ2) : XA Z (StX.tStar Z.K te ts) δ Λ := fun B W M H σ Q I q =>
  h.run I fun M1 H1 δ1 x a h1 e1 I1 at1 => by
    obtain ⟨xs, hx, h1⟩ := h1
    have : ∃ p vs, x = .ref p ∧ (SqT Z.K H1 p vs ∨ SqL Z.K H1 p vs) ∧ AtL Z M1 vs xs := by
      rcases hx with rfl | rfl
      · cases at1 with | lst h l k => exact ⟨_, _, rfl, .inr (SqL.of (I1.ex _ _ h)), l, k⟩
      · cases at1 with | tup h l k => exact ⟨_, _, rfl, .inl (sqT_mono I1.ex h), l, k⟩
    obtain ⟨p, vs, rfl, sq, al⟩ := this
    exact ⟨p, vs, rfl, sq, h1 B W M1 H1 σ _ I1 fun M2 H2 δ2 ws ds h2 e2 I2 at2 => q M2 H2 δ2 _ _ h2 (e1.tr e2) I2 (AtL.app (al.mono e2) at2)⟩
theorem xe_tup (h : XA Z ts δ fun ds δ1 => ds.length ≤ 1000000 ∧ Φ (.tup ds) δ1) : XE Z (tTup ts) δ Φ := XE.mk fun B W M H σ Q I q =>
  h B W M H σ _ I fun M1 H1 δ1 vs ds h1 e1 I1 al => by
    refine ⟨Nat.le_trans (by rw [al.len]; exact h1.1) (by decide), fun p hp => ?_⟩
    have hm := I1.ex.free hp
    exact q _ _ δ1 _ _ h1.2 (e1.tr (Ex.new hm)) (I1.grow hp) (.tup (SqT.of upd_same) al.len (al.mono (Ex.new hm)).at')
theorem I3.newOwn (I : I3 Z B W M H σ δ) {p : Addr} (h : H p = none) : ∀ i, ¬ Own σ δ i p := fun i o => by
  obtain ⟨_, e, _⟩ := I.ownAt o
  rw [h] at e; cases e
theorem xo_lst {Φ : OD → List S → Prop} (h : XA Z ts δ fun ds δ1 => ds.length ≤ 1000000 ∧ Φ (.lst ds) δ1) : XO Z (tLst ts) δ Φ := XO.mk fun B W M H σ Q I q =>
  h B W M H σ _ I fun M1 H1 δ1 vs ds h1 e1 I1 al => by
    refine ⟨Nat.le_trans (by rw [al.len]; exact h1.1) (by decide), fun p hp => ?_⟩
    have hm := I1.ex.free hp
    exact q M1 _ δ1 p _ _ h1.2 e1 (I1.other (I1.fresh hp) hm (I1.newOwn hp)) upd_same al hm (I1.fresh hp) (I1.newOwn hp)
theorem xe_lst (h : XA Z ts δ fun ds δ1 => ds.length ≤ 1000000 ∧ Φ (.lst ds) δ1) : XE Z (tLst ts) δ Φ := xe_ofO (xo_lst fun B W M H σ Q I q => h B W M H σ Q I fun M' H' δ' vs ds k => q M' H' δ' vs ds ⟨k.1, ds, rfl, k.2⟩)
/-! ### statements -/
variable {bs : List Nat} {P : Po} {s1 s2 : TS}
theorem xs_seq (h : XS Z bs s1 δ { P with N := fun δ' => XS Z bs s2 δ' P }) : XS Z bs (tSeq s1 s2) δ P := fun B W M H σ E hb I e =>
  h B W M H σ _ hb I ⟨fun M' H' σ' δ' p x I' => p B W M' H' σ' E hb I' (e.mono x), e.rt, e.bk, e.ct, e.xc⟩
theorem xs_next (k : P.N δ) : XS Z bs tNext δ P := fun B W M H σ E hb I e => e.nx M H σ δ k Ex.rfl' I
theorem xs_if (h : XT Z t δ fun b δ' => if b = true then XS Z bs s1 δ' P else XS Z bs s2 δ' P) : XS Z bs (tIfS t s1 s2) δ P := fun B W M H σ E hb I e =>
  h B W M H σ _ I fun M1 H1 δ1 b h1 e1 I1 => by
    cases b with
    | true => rw [if_pos rfl] at h1 ⊢; exact h1 B W M1 H1 σ E hb I1 (e.mono e1)
    | false => rw [if_neg Bool.false_ne_true] at h1 ⊢; exact h1 B W M1 H1 σ E hb I1 (e.mono e1)
theorem slotD {v : V} {x : D} (a : At Z M v x) : SlotOk Z M H (some v) (.d x) := ⟨v, rfl, a⟩
theorem not_bor {i : Nat} (hb : W.map (·.1) = bs) (hi : i ∉ bs) (p : Addr) : (i, p) ∉ W := fun h => hi (hb ▸ List.mem_map_of_mem h)
theorem xs_set {i : Nat} (hi : i ∉ bs) (h : XE Z te δ fun d δ' => P.N (δ'.set i (.d d))) : XS Z bs (tAsg te (gName i)) δ P := fun B W M H σ E hb I e =>
  h.run I fun M1 H1 δ1 x a h1 e1 I1 at1 => e.nx _ _ _ _ h1 e1 (I1.put (not_bor hb hi) (hol_d _) (slotD at1))
theorem xs_setO {i : Nat} (hi : i ∉ bs) (h : XO Z te δ fun y δ' => i < δ'.length ∧ P.N (δ'.set i (.own y))) : XS Z bs (tAsg te (gName i)) δ P := fun B W M H σ E hb I e =>
  XO.run h I fun M1 H1 δ1 p ho y h1 e1 I1 a b c d g => e.nx _ _ _ _ h1.2 e1 (I1.putO (not_bor hb hi) h1.1 a b c d g)
theorem xs_parO {i j : Nat} (hi : i ∉ bs) (hj : j ∉ bs) (h : XE Z ta δ fun a δ1 => XO Z tb δ1 fun b δ2 => j < δ2.length ∧ P.N ((δ2.set i (.d a)).set j (.own b))) : XS Z bs (tPar i j (tCons ta (tCons tb tNil))) δ P := fun B W M H σ E hb I e =>
  h.run I fun M1 H1 δ1 x a h1 e1 I1 at1 => XO.run h1 I1 fun M2 H2 δ2 p ho y h2 e2 I2 c1 c2 c3 c4 c5 =>
    ⟨x, _, rfl, e.nx _ _ _ _ h2.2 (e1.tr e2) ((I2.put (not_bor hb hi) (hol_d _) (slotD (at1.mono e2))).putO (not_bor hb hj) (by rw [List.length_set]; exact h2.1) c1 c2 c3 c4 fun k o => c5 k (Own.setN (hol_d _) o).2)⟩
theorem Own.setX {i j : Nat} {p q : Addr} {y : OD} (h : Own (σ.set i (some (.ref q))) (δ.set i (.own y)) j p) : (j = i ∧ p = q) ∨ Own σ δ j p := by
  obtain ⟨r, z, a, b, c⟩ := h
  by_cases e : i = j
  · subst e
    rw [List.getElem?_set] at a b
    split at a
    · split at a
      · cases a
        rename_i h1 h2
        rw [if_pos rfl] at b
        split at b
        · cases b; cases c; exact .inl ⟨rfl, rfl⟩
        · cases b
      · cases a
    · rename_i q; exact absurd rfl q
  · rw [List.getElem?_set_ne e] at a b
    exact .inr ⟨r, z, a, b, c⟩
theorem xs_parOO {i j : Nat} (hi : i ∉ bs) (hj : j ∉ bs) (hij : i ≠ j) (h : XO Z ta δ fun a δ1 => XO Z tb δ1 fun b δ2 => i < δ2.length ∧ j < δ2.length ∧ P.N ((δ2.set i (.own a)).set j (.own b))) : XS Z bs (tPar i j (tCons ta (tCons tb tNil))) δ P := fun B W M H σ E hb I e =>
  XO.run h I fun M1 H1 δ1 p ho a h1 e1 I1 a1 a2 a3 a4 a5 => XO.run h1 I1.rebase fun M2 H2 δ2 q hq b h2 e2 J c1 c2 c3 c4 c5 => by
    obtain ⟨k1, k2, k3⟩ := J.stays a1 a3 (fun i hi => a5 i (mem_owns.mp hi)) (.own a2)
    have I2 := I1.back (fun _ _ => mem_owns) J
    have c4 : H1 q = none := c4
    have hpq : q ≠ p := fun z => by rw [z, a1] at c4; cases c4
    have I3' := (I2.putO (i := i) (not_bor hb hi) h2.1 k1 (a2.mono e2) k3 a4 k2).putO (i := j) (not_bor hb hj) (by rw [List.length_set]; exact h2.2.1) c1 c2 c3 (I1.fresh c4) fun k o => by
      rcases Own.setX o with ⟨_, z⟩ | z
      · exact hpq z
      · exact c5 k z
    exact ⟨_, _, rfl, e.nx _ _ _ _ h2.2.2 (e1.tr e2) I3'⟩
end
end G
set_option Elab.async false
set_option linter.all false
set_option maxRecDepth 100000
set_option maxHeartbeats 4000000
namespace G
open PySem L2
section
variable {Z : Wd} {M H M' H' : Hp} {B : Bas} {W : List (Nat × Addr)} {σ : St} {δ : List S}
variable {te ta tb tv : TE} {tt t u : TT} {Φ : D → List S → Prop} {Ψ : S → List S → Prop} {Ω : OD → List S → Prop} {Λ : List D → List S → Prop} {ts : TA}
/-! ### places -/
theorem atI_at {vs : List V} {xs : List D} {k : Int} {d : D} (a : AtL Z M vs xs) (h : atI xs k = some d) : ∃ v, atI vs k = some v ∧ At Z M v d := by
  unfold atI at h ⊢
  rw [a.len]
  cases e : ixN xs.length k with
  | none => rw [e] at h; cases h
  | some j =>
    rw [e] at h
    exact a.get h
def ixD : D → Int → Option D
  | .lst xs, k => atI xs k
  | .tup xs, k => atI xs k
  | .str s, k => if s.length ≤ sizeLine then (atI s.cps.toList k).map fun c => .str ⟨#[c]⟩ else none
  | .scr ns, k => (atI ns k).map .int
  | _, _ => none
theorem atI_map {α β : Type} {f : α → β} {xs : List α} {k : Int} : atI (xs.map f) k = (atI xs k).map f := by
  unfold atI
  rw [List.length_map]
  cases ixN xs.length k with
  | none => rfl
  | some j => simp
theorem xe_ix (h : XE Z ta δ fun a δ1 => XE Z tb δ1 fun b δ2 => ∃ k d, b = .int k ∧ ixD a k = some d ∧ Φ d δ2) : XE Z (tOp (rIx Z.K) ta tb) δ Φ := XE.mk fun B W M H σ Q I q =>
  h.run I fun M1 H1 δ1 x a h1 e1 I1 at1 => XE.run h1 I1 fun M2 H2 δ2 y b h2 e2 I2 at2 => by
    obtain ⟨k, d, rfl, e, f⟩ := h2
    cases at2
    have q' := fun v a => q M2 H2 δ2 v d f (e1.tr e2) I2 a
    cases at1.mono e2 with
    | lst h l c =>
      obtain ⟨v, e', a⟩ := atI_at ⟨l, c⟩ e
      exact .inl ⟨_, _, _, _, rfl, rfl, SqL.of (I2.ex _ _ h), e', q' v a⟩
    | tup h l c =>
      obtain ⟨v, e', a⟩ := atI_at ⟨l, c⟩ e
      exact .inr (.inl ⟨_, _, _, _, rfl, rfl, sqT_mono I2.ex h, e', q' v a⟩)
    | str =>
      simp only [ixD] at e
      split at e
      · rename_i hs
        cases e1 : atI _ k with
        | none => rw [e1] at e; cases e
        | some c => rw [e1] at e; cases e; exact .inr (.inr ⟨_, _, _, rfl, rfl, hs, e1, q' _ .str⟩)
      · cases e
    | scr h =>
      simp only [ixD] at e
      cases e1 : atI _ k with
      | none => rw [e1] at e; cases e
      | some c => rw [e1] at e; cases e; exact .inl ⟨_, _, _, _, rfl, rfl, sqL_mono I2.ex h, by rw [atI_map, e1]; rfl, q' _ .int⟩
    | _ => cases e
theorem xe_ixO {i : Nat} (h : XE Z tb δ fun b δ2 => ∃ xs k d, δ2[i]? = some (.own (.lst xs)) ∧ b = .int k ∧ atI xs k = some d ∧ Φ d δ2) (hv : ∃ y, δ[i]? = some (.own y)) : XE Z (tOp (rIx Z.K) (tVar i) tb) δ Φ := XE.mk fun B W M H σ Q I q => by
  obtain ⟨y, hy⟩ := hv
  obtain ⟨o, e, p, ho, rfl, _⟩ := I.sl i _ hy
  refine ⟨_, e, h.run I fun M2 H2 δ2 y b h2 e2 I2 at2 => ?_⟩
  obtain ⟨xs, k, d, hx, rfl, e3, f⟩ := h2
  cases at2
  obtain ⟨o', e', p', ho', rfl, hp', hy', _⟩ := I2.sl i _ hx
  rw [e] at e'; cases e'
  obtain ⟨vs, rfl, a⟩ := hy'.lstI
  obtain ⟨v, e4, a'⟩ := atI_at a e3
  exact .inl ⟨_, _, _, _, rfl, rfl, SqL.of hp', e4, q M2 H2 δ2 v d f e2 I2 a'⟩
/-! ### scalars in lists -/
def scs : List D → Option (List V)
  | [] => some []
  | x :: xs => match sc x, scs xs with
    | some v, some vs => some (v :: vs)
    | _, _ => none
theorem scs_of : ∀ {xs : List D} {vs ws : List V}, AtL Z M vs xs → scs xs = some ws → vs = ws ∧ ws.all flatV = true
  | [], vs, ws, a, h => by cases h; exact ⟨a.inv0, rfl⟩
  | x :: xs, vs, ws, a, h => by
    obtain ⟨v, us, rfl, a1, a2⟩ := a.inv
    unfold scs at h
    cases e1 : sc x with
    | none => rw [e1] at h; cases h
    | some w =>
      cases e2 : scs xs with
      | none => rw [e1, e2] at h; cases h
      | some ww =>
        rw [e1, e2] at h; cases h
        obtain ⟨r1, r2⟩ := scs_of a2 e2
        have r3 := a1.scal e1
        subst r1; subst r3
        refine ⟨rfl, ?_⟩
        rw [List.all_cons, r2, Bool.and_true]
        cases a1 <;> first | rfl | cases e1
theorem sc_flat {d : D} {v : V} (h : sc d = some v) : flatV v = true := by
  cases d <;> simp [sc] at h <;> subst h <;> rfl
theorem inV_strs (s : Str) (ss : List Str) : inV (.str s) (ss.map V.str) = decide (s ∈ ss) := by
  unfold inV
  rw [List.any_map]
  induction ss with
  | nil => rfl
  | cons t ss ih =>
    rw [List.any_cons, ih, Bool.eq_iff_iff]
    show ((t == s) || decide (s ∈ ss)) = true ↔ decide (s ∈ t :: ss) = true
    rw [Bool.or_eq_true, decide_eq_true_iff, decide_eq_true_iff, List.mem_cons, beq_iff_eq]
    constructor
    · rintro (h | h)
      · exact .inl h.symm
      · exact .inr h
    · rintro (h | h)
      · exact .inl h.symm
      · exact .inr h
/-- x in ys -/
theorem xe_in {neg : Bool} (h : XE Z ta δ fun a δ1 => XE Z tb δ1 fun b δ2 => ∃ v xs ws, sc a = some v ∧ (b = .lst xs ∨ b = .tup xs) ∧ scs xs = some ws ∧ Φ (.bl (if neg then !inV v ws else inV v ws)) δ2) : XE Z (tOp (rIn Z.K neg) ta tb) δ Φ := XE.mk fun B W M H σ Q I q =>
  h.run I fun M1 H1 δ1 x a h1 e1 I1 at1 => XE.run h1 I1 fun M2 H2 δ2 y b h2 e2 I2 at2 => by
    obtain ⟨v, xs, ws, s1, hb, s2, f⟩ := h2
    cases at1.scal s1
    rcases hb with rfl | rfl
    · cases at2 with
      | lst h l c =>
        obtain ⟨rfl, fl⟩ := scs_of ⟨l, c⟩ s2
        exact ⟨_, _, rfl, .inl (SqL.of (I2.ex _ _ h)), sc_flat s1, fl, q M2 H2 δ2 _ _ f (e1.tr e2) I2 .bl⟩
    · cases at2 with
      | tup h l c =>
        obtain ⟨rfl, fl⟩ := scs_of ⟨l, c⟩ s2
        exact ⟨_, _, rfl, .inr (sqT_mono I2.ex h), sc_flat s1, fl, q M2 H2 δ2 _ _ f (e1.tr e2) I2 .bl⟩
/-- one sign in a text -/
theorem xe_inS (h : XE Z ta δ fun a δ1 => XE Z tb δ1 fun b δ2 => ∃ c z, a = .str ⟨#[c]⟩ ∧ b = .str z ∧ Φ (.bl (decide (c ∈ z.cps.toList))) δ2) : XE Z (tOp (fun x y H Q => ∃ (c : Nat) (z : Str), x = .str ⟨#[c]⟩ ∧ y = .str z ∧ Q (.bl (decide (c ∈ z.cps.toList))) H) ta tb) δ Φ := XE.mk fun B W M H σ Q I q =>
  h.run I fun M1 H1 δ1 x a h1 e1 I1 at1 => XE.run h1 I1 fun M2 H2 δ2 y b h2 e2 I2 at2 => by
    obtain ⟨c, z, rfl, rfl, f⟩ := h2
    cases at1; cases at2
    exact ⟨c, z, rfl, rfl, q M2 H2 δ2 _ _ f (e1.tr e2) I2 .bl⟩
/-! ### built-in functions -/
abbrev rLen (K : PySem.W.Frag) : List V → Hp → VK → Prop := fun xs H Q => ∃ x n, xs = [x] ∧ LenV K x H n ∧ Q (.int (n : Nat)) H
def lenD : D → Option Nat
  | .lst xs => some xs.length | .tup xs => some xs.length | .scr ns => some ns.length
  | .str s => if s.length ≤ sizeLine then some s.length else none
  | _ => none
theorem xe_len (h : XE Z te δ fun d δ1 => ∃ n, lenD d = some n ∧ Φ (.int n) δ1) : XE Z (tCB (rLen Z.K) (tCons te tNil)) δ Φ := XE.mk fun B W M H σ Q I q =>
  h.run I fun M1 H1 δ1 x a h1 e1 I1 at1 => by
    obtain ⟨n, e, f⟩ := h1
    refine ⟨x, n, rfl, ?_, q M1 H1 δ1 _ _ f e1 I1 .int⟩
    cases at1 with
    | lst h l c => cases e; exact .inl ⟨_, SqL.of (I1.ex _ _ h), l.symm⟩
    | tup h l c => cases e; exact .inr ⟨_, sqT_mono I1.ex h, l.symm⟩
    | scr h => cases e; exact .inl ⟨_, sqL_mono I1.ex h, by simp⟩
    | str =>
      simp only [lenD] at e
      split at e
      · rename_i hs; cases e; exact ⟨hs, rfl⟩
      · cases e
    | _ => cases e
theorem xe_lenO {i : Nat} {xs : List D} (h : δ[i]? = some (.own (.lst xs))) (k : Φ (.int xs.length) δ) : XE Z (tCB (rLen Z.K) (tCons (tVar i) tNil)) δ Φ := XE.mk fun B W M H σ Q I q => by
  obtain ⟨o', e', p', ho', rfl, hp', hy', _⟩ := I.sl i _ h
  obtain ⟨vs, rfl, a⟩ := hy'.lstI
  exact ⟨_, e', _, _, rfl, .inl ⟨vs, SqL.of hp', rfl⟩, q M H δ _ _ (a.len ▸ k) Ex.rfl' I .int⟩
abbrev rList (K : PySem.W.Frag) : List V → Hp → VK → Prop := fun xs H Q => ∃ p ys, xs = [.ref p] ∧ (SqL K H p ys ∨ SqT K H p ys) ∧ ∀ l, H l = none → Q (.ref l) (upd H l (.lst ys))
theorem newO {p : Addr} {o : HO} {y : OD} {δ1 : List S} {Q : VK} {M1 H1 : Hp} (I1 : I3 Z B W M1 H1 σ δ1) (hp : H1 p = none) (hy : ODAt Z M1 o y) (f : Ω y δ1) (e : Ex M M1)
    (q : ∀ M' H' δ' p ho y, Ω y δ' → Ex M M' → I3 Z B W M' H' σ δ' → H' p = some ho → ODAt Z M' ho y → M' p = none → B.h p = none → (∀ i, ¬ Own σ δ' i p) → Q (.ref p) H') : Q (.ref p) (upd H1 p o) :=
  have hm := I1.ex.free hp
  q M1 _ δ1 p _ _ f e (I1.other (I1.fresh hp) hm (I1.newOwn hp)) upd_same hy hm (I1.fresh hp) (I1.newOwn hp)
theorem seq_of {v : V} {d : D} {xs : List D} (a : At Z M v d) (h : d = .lst xs ∨ d = .tup xs) (e : Ex M H) : ∃ p vs, v = .ref p ∧ (SqL Z.K H p vs ∨ SqT Z.K H p vs) ∧ AtL Z M vs xs := by
  rcases h with rfl | rfl
  · cases a with | lst h l c => exact ⟨_, _, rfl, .inl (SqL.of (e _ _ h)), l, c⟩
  · cases a with | tup h l c => exact ⟨_, _, rfl, .inr (sqT_mono e h), l, c⟩
theorem xo_list (h : XE Z te δ fun d δ1 => ∃ xs, (d = .lst xs ∨ d = .tup xs) ∧ Ω (.lst xs) δ1) : XO Z (tCB (rList Z.K) (tCons te tNil)) δ Ω := XO.mk fun B W M H σ Q I q =>
  h.run I fun M1 H1 δ1 x a h1 e1 I1 at1 => by
    obtain ⟨xs, hx, f⟩ := h1
    obtain ⟨p, vs, rfl, s, al⟩ := seq_of at1 hx I1.ex
    exact ⟨p, vs, rfl, s, fun l hl => newO (o := .lst vs) (y := .lst xs) I1 hl al f e1 q⟩
abbrev rTuple (K : PySem.W.Frag) : List V → Hp → VK → Prop := fun xs H Q => ∃ p ys, xs = [.ref p] ∧ ((SqL K H p ys ∧ ∀ l, H l = none → Q (.ref l) (upd H l (.tup ys))) ∨ (SqT K H p ys ∧ Q (.ref p) H))
theorem newT {p : Addr} {vs : List V} {xs : List D} {δ1 : List S} {Q : VK} {M1 H1 : Hp} (I1 : I3 Z B W M1 H1 σ δ1) (hp : H1 p = none) (al : AtL Z M1 vs xs) (f : Φ (.tup xs) δ1) (e : Ex M M1)
    (q : ∀ M' H' δ' v d, Φ d δ' → Ex M M' → I3 Z B W M' H' σ δ' → At Z M' v d → Q v H') : Q (.ref p) (upd H1 p (.tup vs)) :=
  have hm := I1.ex.free hp
  q _ _ δ1 _ _ f (e.tr (Ex.new hm)) (I1.grow hp) (.tup (SqT.of upd_same) al.len (al.mono (Ex.new hm)).at')
theorem xe_tuple (h : XE Z te δ fun d δ1 => ∃ xs, (d = .lst xs ∨ d = .tup xs) ∧ Φ (.tup xs) δ1) : XE Z (tCB (rTuple Z.K) (tCons te tNil)) δ Φ := XE.mk fun B W M H σ Q I q =>
  h.run I fun M1 H1 δ1 x a h1 e1 I1 at1 => by
    obtain ⟨xs, hx, f⟩ := h1
    obtain ⟨p, vs, rfl, s, al⟩ := seq_of at1 hx I1.ex
    rcases hx with rfl | rfl
    · cases at1 with | lst h l c => exact ⟨_, _, rfl, .inl ⟨SqL.of (I1.ex _ _ h), fun l' hl => newT I1 hl ⟨l, c⟩ f e1 q⟩⟩
    · cases at1 with | tup h l c => exact ⟨_, _, rfl, .inr ⟨sqT_mono I1.ex h, q M1 H1 δ1 _ _ f e1 I1 (.tup h l c)⟩⟩
theorem xe_tupleO {i : Nat} {xs : List D} (h : δ[i]? = some (.own (.lst xs))) (k : Φ (.tup xs) δ) : XE Z (tCB (rTuple Z.K) (tCons (tVar i) tNil)) δ Φ := XE.mk fun B W M H σ Q I q => by
  obtain ⟨o', e', p', ho', rfl, hp', hy', _⟩ := I.sl i _ h
  obtain ⟨vs, rfl, a⟩ := hy'.lstI
  exact ⟨_, e', _, _, rfl, .inl ⟨SqL.of hp', fun l hl => newT I hl a k Ex.rfl' q⟩⟩
theorem xe_all (h : XE Z te δ fun d δ1 => ∃ xs : List Bool, d = .lst (xs.map .bl) ∧ Φ (.bl (xs.all id)) δ1) : XE Z (tCB (rAll Z.K) (tCons te tNil)) δ Φ := XE.mk fun B W M H σ Q I q =>
  h.run I fun M1 H1 δ1 x a h1 e1 I1 at1 => by
    obtain ⟨xs, rfl, f⟩ := h1
    cases at1 with
    | lst h l c =>
      have := AtL.bools (Z := Z) (M := M1) ⟨l, c⟩
      subst this
      exact ⟨_, xs, rfl, SqL.of (I1.ex _ _ h), q M1 H1 δ1 _ _ f e1 I1 .bl⟩
theorem xe_sum (h : XE Z te δ fun d δ1 => ∃ xs : List Int, d = .lst (xs.map .int) ∧ Φ (.int xs.sum) δ1) : XE Z (tCB (rSum Z.K) (tCons te tNil)) δ Φ := XE.mk fun B W M H σ Q I q =>
  h.run I fun M1 H1 δ1 x a h1 e1 I1 at1 => by
    obtain ⟨xs, rfl, f⟩ := h1
    cases at1 with
    | lst h l c =>
      have := AtL.ints (Z := Z) (M := M1) ⟨l, c⟩
      subst this
      exact ⟨_, xs, rfl, SqL.of (I1.ex _ _ h), q M1 H1 δ1 _ _ f e1 I1 .int⟩
/-! ### slices, + -/
def cut {α : Type} (xs : List α) (lo hi : Option Int) : List α := (xs.drop (HT.sIx xs.length 0 lo)).take (HT.sIx xs.length xs.length hi - HT.sIx xs.length 0 lo)
theorem AtL.cut {vs : List V} {xs : List D} (lo hi : Option Int) (a : AtL Z M vs xs) : AtL Z M (cutV vs lo hi) (G.cut xs lo hi) := by
  unfold cutV G.cut
  rw [a.len]
  exact (a.drop _).take _
def XP (Z : Wd) (to : TO) (δ : List S) (Θ : Option Int → List S → Prop) : Prop :=
  ∀ B W M H σ (Q : Option Int → Hp → Prop), I3 Z B W M H σ δ → (∀ M' H' δ' o, Θ o δ' → Ex M M' → I3 Z B W M' H' σ δ' → Q o H') → to σ H Q
variable {Θ : Option Int → List S → Prop} {tl th : TO}
theorem xp_no (k : Θ none δ) : XP Z tNoPart δ Θ := fun B W M H σ Q I q => q M H δ none k Ex.rfl' I
theorem xp_part (h : XE Z te δ fun d δ1 => ∃ i, d = .int i ∧ Θ (some i) δ1) : XP Z (tPart te) δ Θ := fun B W M H σ Q I q =>
  h.run I fun M1 H1 δ1 x a h1 e1 I1 at1 => by
    obtain ⟨i, rfl, f⟩ := h1
    cases at1
    exact ⟨i, rfl, q M1 H1 δ1 _ f e1 I1⟩
theorem xo_sl (h : XE Z te δ fun a δ1 => XP Z tl δ1 fun lo δ2 => XP Z th δ2 fun hi δ3 => ∃ xs, a = .lst xs ∧ Ω (.lst (cut xs lo hi)) δ3) : XO Z (tSl (rSlL Z.K) te tl th) δ Ω := XO.mk fun B W M H σ Q I q =>
  h.run I fun M1 H1 δ1 x a h1 e1 I1 at1 => h1 B W M1 H1 σ _ I1 fun M2 H2 δ2 lo h2 e2 I2 => h2 B W M2 H2 σ _ I2 fun M3 H3 δ3 hi h3 e3 I3 => by
    obtain ⟨xs, rfl, f⟩ := h3
    cases (at1.mono (e2.tr e3)) with
    | lst h l c => exact ⟨_, _, rfl, SqL.of (I3.ex _ _ h), fun p hp => newO (o := .lst _) (y := .lst _) I3 hp (AtL.cut lo hi ⟨l, c⟩) f (e1.tr (e2.tr e3)) q⟩
/-! ### methods of an own list -/
theorem xe_app {i : Nat} (hv : ∃ xs, δ[i]? = some (.own (.lst xs))) (h : XE Z te δ fun d δ1 => ∃ xs, δ1[i]? = some (.own (.lst xs)) ∧ xs.length < 1000000 ∧ Φ .non (δ1.set i (.own (.lst (xs ++ [d]))))) : XE Z (tBM Z.K "list" rAppend (tVar i) (tCons te tNil)) δ Φ := XE.mk fun B W M H σ Q I q => by
  obtain ⟨x0, hy⟩ := hv
  obtain ⟨o, e, p, ho, rfl, h0, h0', _⟩ := I.sl i _ hy
  obtain ⟨vs0, rfl, _⟩ := h0'.lstI
  refine ⟨_, e, .inl ⟨rfl, vs0, SqL.of h0⟩, h.run I fun M2 H2 δ2 y b h2 e2 I2 at2 => ?_⟩
  obtain ⟨xs, hx, hl, f⟩ := h2
  obtain ⟨o', e', p', ho', rfl, hp', hy', _⟩ := I2.sl i _ hx
  rw [e] at e'; cases e'
  obtain ⟨vs, rfl, a⟩ := hy'.lstI
  exact ⟨_, vs, y, rfl, rfl, hp', Nat.lt_of_lt_of_le (by rw [a.len]; exact hl) (by decide), q M2 _ _ _ _ f e2 (I2.write e hx (ho := .lst _) (y' := .lst _) (AtL.app a (.one at2))) .non⟩
theorem xe_pop {i : Nat} (hv : ∃ xs, δ[i]? = some (.own (.lst xs))) (h : XE Z te δ fun d δ1 => ∃ xs k x, δ1[i]? = some (.own (.lst xs)) ∧ d = .int (k : Nat) ∧ k < 1000000 ∧ xs[k]? = some x ∧ Φ x (δ1.set i (.own (.lst (xs.eraseIdx k))))) : XE Z (tBM Z.K "list" rPopAt (tVar i) (tCons te tNil)) δ Φ := XE.mk fun B W M H σ Q I q => by
  obtain ⟨x0, hy⟩ := hv
  obtain ⟨o, e, p, ho, rfl, h0, h0', _⟩ := I.sl i _ hy
  obtain ⟨vs0, rfl, _⟩ := h0'.lstI
  refine ⟨_, e, .inl ⟨rfl, vs0, SqL.of h0⟩, h.run I fun M2 H2 δ2 y b h2 e2 I2 at2 => ?_⟩
  obtain ⟨xs, k, x, hx, rfl, hk, hg, f⟩ := h2
  cases at2
  obtain ⟨o', e', p', ho', rfl, hp', hy', _⟩ := I2.sl i _ hx
  rw [e] at e'; cases e'
  obtain ⟨vs, rfl, a⟩ := hy'.lstI
  obtain ⟨v, hv', av⟩ := a.get hg
  have hlt : k < vs.length := (List.getElem?_eq_some_iff.mp hv').1
  refine ⟨_, vs, (k : Int), k, v, rfl, rfl, hp', by omega, by omega, ?_, hv', q M2 _ _ _ _ f e2 (I2.write e hx (ho := .lst _) (y' := .lst _) (a.erase k)) av⟩
  unfold seqIndex?
  have h1 : ¬ ((k : Int) < 0) := by omega
  simp only [h1, if_false]
  rw [if_pos]
  · simp
  · simp; omega
variable {bs : List Nat} {P : Po} {s1 s2 : TS}
theorem xs_drop (h : XE Z te δ fun _ δ' => P.N δ') : XS Z bs (tDrop te) δ P := fun B W M H σ E hb I e =>
  h.run I fun M1 H1 δ1 x a h1 e1 I1 at1 => e.nx _ _ _ _ h1 e1 I1
/-! ### returns -/
theorem xs_ret (h : XE Z te δ fun d δ' => P.R (.d d) δ') : XS Z bs (tRet te) δ P := fun B W M H σ E hb I e =>
  h.run I fun M1 H1 δ1 x a h1 e1 I1 at1 => e.rt _ _ _ _ _ (.d a) h1 e1 I1 at1
theorem xs_retO (h : XO Z te δ fun y δ' => P.R (.own y) δ') : XS Z bs (tRet te) δ P := fun B W M H σ E hb I e =>
  XO.run h I fun M1 H1 δ1 p ho y h1 e1 I1 a b c d g => e.rt _ _ _ _ _ (.own y) h1 e1 I1 ⟨p, ho, rfl, a, b, c, d⟩
/-- an own list that is returned as new -/
theorem xs_retV {i : Nat} {y : OD} (hi : i ∉ bs) (h : δ[i]? = some (.own y)) (k : P.R (.own y) δ) : XS Z bs (tRet (tVar i)) δ P := fun B W M H σ E hb I e => by
  obtain ⟨o, e0, p, ho, rfl, hp, hy, hm⟩ := I.sl i _ h
  refine ⟨_, e0, e.rt M H _ _ _ (.own y) k Ex.rfl' I ⟨p, ho, rfl, hp, hy, hm, ?_⟩⟩
  rcases I.own i p (Own.mk e0 h) with q | q
  · exact absurd q (not_bor hb hi p)
  · exact q
/-- from here on slot i's list is a datum -/
theorem xs_freeze {i : Nat} {xs : List D} (hi : i ∉ bs) (h : δ[i]? = some (.own (.lst xs))) (k : XS Z bs s1 (δ.set i (.d (.lst xs))) P) : XS Z bs s1 δ P := fun B W M H σ E hb I e => by
  obtain ⟨M', ex, J⟩ := I.freeze (not_bor hb hi) h
  exact k B W M' H σ E hb J (e.mono ex)
/-- slot i is forgotten -/
theorem I3.forget {i : Nat} (I : I3 Z B W M H σ δ) (hi : ∀ p, (i, p) ∉ W) : I3 Z B W M H σ (δ.set i .no) := by
  have bad : ∀ j q, Own σ (δ.set i .no) j q → i ≠ j ∧ Own σ δ j q := fun j q o => by
    obtain ⟨r, y, a, b, c⟩ := o
    have e : i ≠ j := fun e => by
      subst e
      rw [List.getElem?_set] at b
      split at b
      · split at b
        · cases b; exact c
        · cases b
      · rename_i z; exact z rfl
    rw [List.getElem?_set_ne e] at b
    exact ⟨e, r, y, a, b, c⟩
  refine ⟨I.ex, I.mg, I.keep, by rw [List.length_set]; exact I.len, fun j s e => ?_, fun j q w => ?_, fun j q o => I.own j q (bad j q o).2, fun j k q a b => I.dis j k q (bad j q a).2 (bad k q b).2⟩
  · by_cases z : i = j
    · subst z
      have hl : i < δ.length := by
        have := (List.getElem?_eq_some_iff.mp e).1; rwa [List.length_set] at this
      rw [List.getElem?_set_self hl] at e; cases e
      exact ⟨σ[i]'(by rw [I.len]; exact hl), by simp [I.len, hl], trivial⟩
    · rw [List.getElem?_set_ne z] at e; exact I.sl j s e
  · have e' : i ≠ j := fun e => hi q (e ▸ w)
    exact (I.bor j q w).same rfl (List.getElem?_set_ne e')
theorem xs_forget {i : Nat} (hi : i ∉ bs) (k : XS Z bs s1 (δ.set i .no) P) : XS Z bs s1 δ P := fun B W M H σ E hb I e => k B W M H σ E hb (I.forget (not_bor hb hi)) e
end
end G
set_option Elab.async false
set_option linter.all false
set_option maxRecDepth 100000
set_option maxHeartbeats 4000000
namespace G
open PySem L2
section
variable {Z : Wd} {M H M' H' : Hp} {B : Bas} {W : List (Nat × Addr)} {σ : St} {δ : List S}
variable {te ta tb tv : TE} {tt t u : TT} {Φ : D → List S → Prop} {Ψ : S → List S → Prop} {Ω : OD → List S → Prop} {Λ : List D → List S → Prop} {ts : TA}
variable {bs : List Nat} {P : Po} {s1 s2 : TS}
/-! ### contracts of defs: over data -/
abbrev FR := List D → (S → Prop) → Prop
abbrev FB := OD → List D → (S → OD → Prop) → Prop
/-- nothing is borrowed -/
def spR (Z : Wd) (F : FR) : Sp := fun vs H Q _ => ∃ M ds Φ, Ex M H ∧ AtL Z M vs ds ∧ F ds Φ ∧
  ∀ M' H' v s, Φ s → Ex M M' → Ex M' H' → Ex H H' → (∀ p o, H p = some o → M p = none → NT o → M' p = none) → RetOk Z ⟨H, M⟩ M' H' v s → Q v H'
/-- the first argument is borrowed: an object that the caller alone holds -/
def spB (Z : Wd) (F : FB) : Sp := fun vs H Q _ => ∃ M p ws ho y ds Φ, vs = .ref p :: ws ∧ H p = some ho ∧ M p = none ∧ ODAt Z M ho y ∧ Ex M H ∧ AtL Z M ws ds ∧ F y ds Φ ∧
  ∀ M' H' v s ho' y', Φ s y' → Ex M M' → Ex M' H' → (∀ a o, a ≠ p → H a = some o → H' a = some o) → (∀ p o, H p = some o → M p = none → NT o → M' p = none) → H' p = some ho' → ODAt Z M' ho' y' → RetOk Z ⟨H, M⟩ M' H' v s → Q v H'
theorem I3.after (I : I3 Z B W M H σ δ) (e1 : Ex M M') (e2 : Ex M' H') (e3 : Ex H H') (e4 : ∀ p o, H p = some o → M p = none → NT o → M' p = none) : I3 Z B W M' H' σ δ := by
  refine ⟨e2, fun a o e n => ?_, fun a o e n => e3 _ _ (I.keep a o e n), I.len, fun i s e => ?_, I.bor, I.own, I.dis⟩
  · cases q : H a with
    | none => rw [I.fresh q] at e; cases e
    | some u => exact fun t => e4 a u q (I.mg a o e n t) (I.nt e t q)
  · obtain ⟨v, c, d⟩ := I.sl i s e
    refine ⟨v, c, ?_⟩
    cases s with
    | no => trivial
    | d x => obtain ⟨u, f, g⟩ := d; exact ⟨u, f, g.mono e1⟩
    | own z =>
      obtain ⟨q, hq, f, g, k, l⟩ := d
      exact ⟨q, hq, f, e3 _ _ g, k.mono e1, e4 _ _ g l (.own k)⟩
    | deal q cs n =>
      obtain ⟨r, f, g, k, l, m, o⟩ := d
      exact ⟨r, f, e3 _ _ g, e3 _ _ k, e4 _ _ g l (fun _ e => nomatch e), e4 _ _ k m (fun _ e => nomatch e), o⟩
/-- behind a call that has changed what slot i holds alone -/
theorem I3.afterS (I : I3 Z B W M H σ δ) {i : Nat} {o : Option V} {s s' : S} (h : σ[i]? = some o) (hi : δ[i]? = some s) (hs : ∀ p a, Hol p s a ↔ Hol p s' a) (e1 : Ex M M') (e2 : Ex M' H') (e3 : ∀ a o, ¬ Own σ δ i a → H a = some o → H' a = some o)
    (e4 : ∀ p o, H p = some o → M p = none → NT o → M' p = none) (hy : SlotOk Z M' H' o s') : I3 Z B W M' H' σ (δ.set i s') := by
  have hl : i < δ.length := (List.getElem?_eq_some_iff.mp hi).1
  refine ⟨e2, fun a o e n => ?_, fun a o e n => ?_, by rw [List.length_set]; exact I.len, fun j t e => ?_, fun j q w => (Own.setS hi hs).mpr (I.bor j q w), fun j q o => I.own j q ((Own.setS hi hs).mp o), fun j k q a b => I.dis j k q ((Own.setS hi hs).mp a) ((Own.setS hi hs).mp b)⟩
  · cases q : H a with
    | none => rw [I.fresh q] at e; cases e
    | some u => exact fun t => e4 a u q (I.mg a o e n t) (I.nt e t q)
  · refine e3 a o (fun z => ?_) (I.keep a o e n)
    rcases I.own i a z with q | q
    · exact n i q
    · rw [e] at q; cases q
  · by_cases z : i = j
    · subst z
      rw [List.getElem?_set_self hl] at e; cases e
      exact ⟨_, h, hy⟩
    · rw [List.getElem?_set_ne z] at e
      obtain ⟨v, c, d⟩ := I.sl j t e
      refine ⟨v, c, ?_⟩
      cases t with
      | no => trivial
      | d x => obtain ⟨u, f, g⟩ := d; exact ⟨u, f, g.mono e1⟩
      | own w =>
        obtain ⟨q, hq, f, g, k, l⟩ := d
        subst f
        exact ⟨q, hq, rfl, e3 _ _ (fun o => z (I.dis i j q o (Own.mk c e))) g, k.mono e1, e4 _ _ g l (.own k)⟩
      | deal q cs n =>
        obtain ⟨r, f, g, k, l, m, o⟩ := d
        subst f
        exact ⟨r, rfl, e3 _ _ (fun o => z (I.dis i j r o ⟨r, _, c, e, .inl rfl⟩)) g, e3 _ _ (fun o => z (I.dis i j q o ⟨r, _, c, e, .inr rfl⟩)) k, e4 _ _ g l (fun _ e => nomatch e), e4 _ _ k m (fun _ e => nomatch e), o⟩
theorem I3.afterB (I : I3 Z B W M H σ δ) {i : Nat} {p : Addr} {y y' : OD} {ho' : HO} (hs : σ[i]? = some (some (.ref p))) (hi : δ[i]? = some (.own y)) (e1 : Ex M M') (e2 : Ex M' H') (e3 : ∀ a o, a ≠ p → H a = some o → H' a = some o)
    (e4 : ∀ p o, H p = some o → M p = none → NT o → M' p = none) (hp : H' p = some ho') (hy : ODAt Z M' ho' y') : I3 Z B W M' H' σ (δ.set i (.own y')) := by
  obtain ⟨ho0, hp0, hk0, hm0⟩ := I.ownO (Own.mk hs hi) hi
  exact I.afterS hs hi (fun _ _ => Iff.rfl) e1 e2 (fun a o n e => e3 a o (fun z => n (z ▸ Own.mk hs hi)) e) e4 ⟨p, ho', rfl, hp, hy, e4 _ _ hp0 hm0 (.own hk0)⟩
theorem ret_res {v : V} {s : S} {M0 H0 : Hp} {δ0 : List S} (I : I3 Z B W M0 H0 σ δ0) (hs : ∀ i p, Own σ δ i p → Own σ δ0 i p) (r : RetOk Z ⟨H0, M0⟩ M' H' v s) : ResOk Z B M' H' σ δ v s := by
  cases s with
  | no => exact r
  | d x => exact r
  | own y =>
    obtain ⟨p, ho, e, a, b, c, d⟩ := r
    have d' : H0 p = none := d
    exact ⟨p, ho, e, a, b, c, I.fresh d', fun i o => I.newOwn d' i (hs i p o)⟩
  | deal q cs n =>
    obtain ⟨p, e, a, b⟩ := r
    exact ⟨p, e, a, fun x h => ⟨I.fresh (b x h), fun i o => I.newOwn (b x h) i (hs i x o)⟩⟩
/-- a call: nothing borrowed -/
theorem xr_call {F : FR} {dvs : List V} {dds : List D} {E : XK} (hd : ∀ M : Hp, AtL Z M dvs dds) (h : XA Z ts δ fun ds δ1 => F (ds ++ dds) fun s => Ψ s δ1) : XR Z (tCall (spR Z F) dvs E ts) δ Ψ := fun B W M H σ Q I q =>
  h B W M H σ _ I fun M1 H1 δ1 vs ds h1 e1 I1 al => by
    refine ⟨M1, ds ++ dds, _, I1.ex, al.app (hd M1), h1, fun M' H' v s f a1 a2 a3 a4 r => ?_⟩
    exact q M' H' δ1 v s f (e1.tr a1) (I1.after a1 a2 a3 a4) (ret_res I1 (fun _ _ o => o) r)
theorem own_setO {i : Nat} {y y' : OD} (hi : δ[i]? = some (.own y)) : ∀ j p, Own σ (δ.set i (.own y')) j p → Own σ δ j p := fun _ _ o => (Own.setO hi).mp o
/-- a call that borrows what slot i holds -/
theorem xr_callB {F : FB} {dvs : List V} {dds : List D} {E : XK} {i : Nat} (hd : ∀ M : Hp, AtL Z M dvs dds) (hv : ∃ y, δ[i]? = some (.own y)) (h : XA Z ts δ fun ds δ1 => ∃ y, δ1[i]? = some (.own y) ∧ F y (ds ++ dds) fun s y' => Ψ s (δ1.set i (.own y'))) : XR Z (tCall (spB Z F) dvs E (tCons (tVar i) ts)) δ Ψ := fun B W M H σ Q I q => by
  obtain ⟨y, hy⟩ := hv
  obtain ⟨o, e, p, ho, rfl, h0, h0', _⟩ := I.sl i _ hy
  refine ⟨_, e, h B W M H σ _ I fun M1 H1 δ1 vs ds h1 e1 I1 al => ?_⟩
  obtain ⟨y1, hy1, f⟩ := h1
  obtain ⟨o', e', p', ho', rfl, hp', hy', hm'⟩ := I1.sl i _ hy1
  rw [e] at e'; cases e'
  refine ⟨M1, p, vs ++ dvs, ho', y1, ds ++ dds, _, rfl, hp', hm', hy', I1.ex, al.app (hd M1), f, fun M' H' v s ho2 y2 g a1 a2 a3 a4 a5 a6 r => ?_⟩
  exact q M' H' _ v s g (e1.tr a1) (I1.afterB e hy1 a1 a2 a3 a4 a5 a6) (ret_res I1 (own_setO hy1) r)
/-- a new instance: its __init__ borrows it -/
theorem xe_make {F : FB} {dvs : List V} {dds : List D} {E : XK} {C : Addr} {c : Nat} (hC : (Z.cl c).C = C) (hd : ∀ M : Hp, AtL Z M dvs dds)
    (h : XA Z ts δ fun ds δ1 => F (.ins c []) (ds ++ dds) fun s y => s = .d .non ∧ ∃ gs, y = .ins c gs ∧ gs.map (·.1) = (Z.cl c).fs ∧ Φ (.obj c (gs.map (·.2))) δ1) : XE Z (tMake C (spB Z F) dvs E ts) δ Φ := XE.mk fun B W M H σ Q I q =>
  h B W M H σ _ I fun M1 H1 δ1 vs ds h1 e1 I1 al x dx hx hdx hne => by
    subst hC
    have hm := I1.ex.free hx
    have hmd := I1.ex.free hdx
    have ex2 : Ex H1 (upd (upd H1 dx (.own x)) x (.ins (Z.cl c).C dx [])) := fun b o e => by
      rw [upd_ne (ne_of_none e hx), upd_ne (ne_of_none e hdx)]; exact e
    refine ⟨M1, x, vs ++ dvs, _, .ins c [], ds ++ dds, _, rfl, upd_same, hm, ⟨rfl, rfl, .nil⟩, I1.ex.tr ex2, al.app (hd M1), h1, fun M' H' v s ho2 y2 g a1 a2 a3 a4 a5 a6 r => ?_⟩
    obtain ⟨rfl, gs, rfl, hf, f⟩ := g
    have rv : At Z M' v .non := r
    cases rv
    refine ⟨rfl, ?_⟩
    obtain ⟨dx2, fs2, rfl, k1, k2⟩ := a6.insI
    have hm2 : M' x = none := a4 x _ upd_same hm (fun _ e => nomatch e)
    have keep : Ex H1 H' := fun b o e => a3 b o (ne_of_none e hx) (ex2 b o e)
    have I2 : I3 Z B W M' H' σ δ1 := I1.after a1 a2 keep fun p o e n => a4 p o (ex2 p o e) n
    have I3' := I2.hold a5 hm2 (I1.fresh hx) (I1.newOwn hx)
    refine q _ H' δ1 _ _ f (e1.tr (a1.tr (Ex.new hm2))) I3' ?_
    have hz : fs2 = (Z.cl c).fs.zip (fs2.map (·.2)) := by
      rw [← hf, ← k1]
      clear a5 a6 k1 k2 I3' f
      induction fs2 with
      | nil => rfl
      | cons a l ih => simp only [List.map_cons, List.zip_cons_cons]; rw [← ih]
    have hlen : (fs2.map (·.2)).length = (Z.cl c).fs.length := by rw [← hf, ← k1]; simp
    refine .obj (dx := dx2) (vs := fs2.map (·.2)) (by rw [upd_same, ← hz]) hlen k2.len (k2.mono (Ex.new hm2)).at'
/-! ### a def's body over data -/
theorem entR {ts : TS} {N : List Str} {vs : List V} {Q : VK} {n : Nat} {ds : List D} {Φ : S → Prop} (ex : Ex M H) (al : AtL Z M vs ds) (hn : N.length = ds.length + n)
    (q : ∀ M' H' v s, Φ s → Ex M M' → Ex M' H' → Ex H H' → (∀ p o, H p = some o → M p = none → NT o → M' p = none) → RetOk Z ⟨H, M⟩ M' H' v s → Q v H')
    (hx : XS Z [] ts (ds.map .d ++ List.replicate n .no) { N := fun _ => Φ (.d .non), R := fun s _ => Φ s }) : ts { nx := fun _ H' => Q .non H', rt := Q } (L2.start N vs) H := by
  have hlen := al.len
  have noOwn : ∀ i p, ¬ Own (L2.start N vs) (ds.map S.d ++ List.replicate n S.no) i p := fun i p => Own.plain
  have I : I3 Z ⟨H, M⟩ [] M H (L2.start N vs) (ds.map S.d ++ List.replicate n S.no) := by
    refine ⟨ex, fun _ _ _ e _ => e, fun _ _ e _ => e, ?_, fun i s e => ?_, fun i p w => by simp at w, fun i p o => absurd o (noOwn i p), fun i j p o => absurd o (noOwn i p)⟩
    · unfold L2.start; simp; omega
    · by_cases hi : i < ds.length
      · rw [List.getElem?_append_left (by simp [hi]), List.getElem?_map] at e
        cases e1 : ds[i]? with
        | none => rw [e1] at e; cases e
        | some d =>
          rw [e1] at e; cases e
          obtain ⟨v, e2, a⟩ := al.get e1
          refine ⟨some v, ?_, v, rfl, a⟩
          unfold L2.start
          rw [List.getElem?_append_left (by simp; omega), List.getElem?_map, e2]; rfl
      · rw [List.getElem?_append_right (by simp; omega), List.getElem?_replicate] at e
        split at e
        · rename_i h1
          cases e
          refine ⟨none, ?_, trivial⟩
          unfold L2.start
          rw [List.getElem?_append_right (by simp; omega), List.getElem?_replicate, if_pos (by simp at h1 ⊢; omega)]
        · cases e
  have fin : ∀ M' H' σ' δ', I3 Z ⟨H, M⟩ [] M' H' σ' δ' → Ex H H' := fun M' H' σ' δ' J a o e => J.keep a o e fun i hi => by simp at hi
  refine hx ⟨H, M⟩ [] M H _ _ rfl I ⟨fun M' H' σ' δ' p e J => q M' H' .non (.d .non) p e J.ex (fin _ _ _ _ J) J.mg .non, fun M' H' σ' δ' v s p e J r => q M' H' v s p e J.ex (fin _ _ _ _ J) J.mg r, fun _ _ _ _ f => f.elim, fun _ _ _ _ f => f.elim, fun _ _ => trivial⟩
theorem entB {ts : TS} {N : List Str} {ws : List V} {p : Addr} {ho : HO} {y : OD} {Q : VK} {n : Nat} {ds : List D} {Φ : S → OD → Prop} (hp : H p = some ho) (hm : M p = none) (hy : ODAt Z M ho y) (ex : Ex M H) (al : AtL Z M ws ds) (hn : N.length = ds.length + 1 + n)
    (q : ∀ M' H' v s ho' y', Φ s y' → Ex M M' → Ex M' H' → (∀ a o, a ≠ p → H a = some o → H' a = some o) → (∀ p o, H p = some o → M p = none → NT o → M' p = none) → H' p = some ho' → ODAt Z M' ho' y' → RetOk Z ⟨H, M⟩ M' H' v s → Q v H')
    (hx : XS Z [0] ts (.own y :: (ds.map .d ++ List.replicate n .no)) { N := fun δ' => ∃ y', δ'[0]? = some (.own y') ∧ Φ (.d .non) y', R := fun s δ' => ∃ y', δ'[0]? = some (.own y') ∧ Φ s y' }) : ts { nx := fun _ H' => Q .non H', rt := Q } (L2.start N (.ref p :: ws)) H := by
  have hlen := al.len
  have only : ∀ i q, Own (L2.start N (V.ref p :: ws)) (S.own y :: (ds.map S.d ++ List.replicate n S.no)) i q → i = 0 ∧ q = p := fun i q o => by
    obtain ⟨r, y', e0, e, c⟩ := o
    cases i with
    | zero =>
      have : some (some (V.ref p)) = some (some (V.ref r)) := e0
      cases this
      cases e; exact ⟨rfl, c⟩
    | succ i =>
      rw [List.getElem?_cons_succ] at e
      exact (plain_no e _ _ c).elim
  have I : I3 Z ⟨H, M⟩ [(0, p)] M H (L2.start N (V.ref p :: ws)) (S.own y :: (ds.map S.d ++ List.replicate n S.no)) := by
    refine ⟨ex, fun _ _ _ e _ => e, fun _ _ e _ => e, ?_, fun i s e => ?_, fun i q w => ?_, fun i q o => ?_, fun i j q o o' => ?_⟩
    · unfold L2.start; simp; omega
    · cases i with
      | zero => cases e; exact ⟨some (.ref p), rfl, p, ho, rfl, hp, hy, hm⟩
      | succ i =>
        rw [List.getElem?_cons_succ] at e
        have es : (L2.start N (V.ref p :: ws))[i + 1]? = (ws.map some ++ List.replicate n (none : Option V))[i]? := by
          unfold L2.start
          have : N.length - (V.ref p :: ws).length = n := by simp; omega
          rw [this]; rfl
        rw [es]
        by_cases hi : i < ds.length
        · rw [List.getElem?_append_left (by simp [hi]), List.getElem?_map] at e
          cases e1 : ds[i]? with
          | none => rw [e1] at e; cases e
          | some d =>
            rw [e1] at e; cases e
            obtain ⟨v, e2, a⟩ := al.get e1
            refine ⟨some v, ?_, v, rfl, a⟩
            rw [List.getElem?_append_left (by simp; omega), List.getElem?_map, e2]; rfl
        · rw [List.getElem?_append_right (by simp; omega), List.getElem?_replicate] at e
          split at e
          · rename_i h1
            cases e
            refine ⟨none, ?_, trivial⟩
            rw [List.getElem?_append_right (by simp; omega), List.getElem?_replicate, if_pos (by simp at h1 ⊢; omega)]
          · cases e
    · have := List.mem_singleton.mp w
      cases this
      exact Own.mk rfl rfl
    · obtain ⟨rfl, rfl⟩ := only i q o
      exact .inl List.mem_cons_self
    · rw [(only i q o).1, (only j q o').1]
  have fin : ∀ M' H' σ' δ' y', I3 Z ⟨H, M⟩ [(0, p)] M' H' σ' δ' → δ'[0]? = some (.own y') → (∀ a o, a ≠ p → H a = some o → H' a = some o) ∧ ∃ ho', H' p = some ho' ∧ ODAt Z M' ho' y' := fun M' H' σ' δ' y' J e => by
    refine ⟨fun a o hne e => J.keep a o e fun i hi => ?_, ?_⟩
    · have := List.mem_singleton.mp hi
      cases this; exact hne rfl
    · have hO := J.bor 0 p List.mem_cons_self
      obtain ⟨ho', h2, h3, _⟩ := J.ownO hO e
      exact ⟨ho', h2, h3⟩
  refine hx ⟨H, M⟩ [(0, p)] M H _ _ rfl I ⟨fun M' H' σ' δ' f e J => ?_, fun M' H' σ' δ' v s f e J r => ?_, fun _ _ _ _ f => f.elim, fun _ _ _ _ f => f.elim, fun _ _ => trivial⟩
  · obtain ⟨y', hy', f⟩ := f
    obtain ⟨k1, ho', k2, k3⟩ := fin _ _ _ _ _ J hy'
    exact q M' H' .non (.d .non) ho' y' f e J.ex k1 J.mg k2 k3 .non
  · obtain ⟨y', hy', f⟩ := f
    obtain ⟨k1, ho', k2, k3⟩ := fin _ _ _ _ _ J hy'
    exact q M' H' v s ho' y' f e J.ex k1 J.mg k2 k3 r
/-! ### fields -/
structure ClOk (Z : Wd) (c : Nat) : Prop where
  cls : Cls Z.K (Z.cl c).C
  no : ∀ f ∈ (Z.cl c).fs, NoAttr Z.K (Z.cl c).C f
theorem lookup_zip : ∀ {fs : List Str} {vs : List V} {k : Nat} {f : Str} {v : V}, fs.Nodup → fs[k]? = some f → vs[k]? = some v → (fs.zip vs).lookup f = some v
  | [], _, _, _, _, _, h, _ => by simp at h
  | g :: fs, [], _, _, _, _, _, h => by simp at h
  | g :: fs, w :: vs, 0, f, v, _, h, h' => by
    simp at h h'; subst h; subst h'
    rw [List.zip_cons_cons, List.lookup_cons, beq_self_eq_true]
  | g :: fs, w :: vs, k + 1, f, v, n, h, h' => by
    obtain ⟨n1, n2⟩ := List.nodup_cons.mp n
    have hf : f ∈ fs := List.mem_of_getElem? (by simpa using h)
    have hne : (f == g) = false := by
      rw [beq_eq_false_iff_ne]; intro e; exact n1 (e ▸ hf)
    rw [List.zip_cons_cons, List.lookup_cons, hne]
    exact lookup_zip n2 (by simpa using h) (by simpa using h')
/-- o.f of a datum -/
theorem xe_fld {f : Str} (h : XE Z ta δ fun a δ1 => ∃ (c : Nat) (ds : List D) (k : Nat) (d : D), a = .obj c ds ∧ ClOk Z c ∧ (Z.cl c).fs.Nodup ∧ (Z.cl c).fs[k]? = some f ∧ ds[k]? = some d ∧ Φ d δ1) : XE Z (tFld Z.K ta f) δ Φ := XE.mk fun B W M H σ Q I q =>
  h.run I fun M1 H1 δ1 x a h1 e1 I1 at1 => by
    obtain ⟨c, ds, k, d, rfl, ok, nd, hf, hd, g⟩ := h1
    cases at1 with
    | obj k1 l1 l2 k2 =>
      have hk : k < _ := (List.getElem?_eq_some_iff.mp hd).1
      rename_i a dx vs
      have hv : vs[k]? = some (vs[k]'(by rw [l2]; exact hk)) := by simp [l2, hk]
      exact ⟨a, _, dx, _, _, rfl, I1.ex _ _ k1, ok.cls, ok.no f (List.mem_of_getElem? hf), lookup_zip nd hf hv, q M1 H1 δ1 _ d g e1 I1 (k2 k _ d hv hd)⟩
theorem lookup_map {fs : List (Str × V)} {gs : List (Str × D)} (a : AtL Z M (fs.map (·.2)) (gs.map (·.2))) (e : fs.map (·.1) = gs.map (·.1)) {f : Str} {d : D} (h : gs.lookup f = some d) : ∃ v, fs.lookup f = some v ∧ At Z M v d := by
  induction gs generalizing fs with
  | nil => simp at h
  | cons g gs ih =>
    cases fs with
    | nil => simp at e
    | cons x fs =>
      obtain ⟨x1, x2⟩ := x
      obtain ⟨g1, g2⟩ := g
      simp only [List.map_cons, List.cons.injEq] at e
      obtain ⟨rfl, e⟩ := e
      obtain ⟨v, ws, q, a1, a2⟩ := a.inv
      simp only [List.map_cons, List.cons.injEq] at q
      obtain ⟨rfl, rfl⟩ := q
      rw [List.lookup_cons] at h ⊢
      by_cases c : (f == x1) = true
      · rw [c] at h ⊢; cases h; exact ⟨_, rfl, a1⟩
      · rw [Bool.eq_false_iff.mpr c] at h ⊢; exact ih a2 e h
/-- self.f of an own instance -/
theorem xe_fldO {i : Nat} {f : Str} {c : Nat} {gs : List (Str × D)} {d : D} (ok : Cls Z.K (Z.cl c).C) (n : NoAttr Z.K (Z.cl c).C f) (h : δ[i]? = some (.own (.ins c gs))) (hl : gs.lookup f = some d) (k : Φ d δ) : XE Z (tFld Z.K (tVar i) f) δ Φ := XE.mk fun B W M H σ Q I q => by
  obtain ⟨o, e, p, ho, rfl, h0, h0', _⟩ := I.sl i _ h
  obtain ⟨dx, fs, rfl, e1, a⟩ := h0'.insI
  obtain ⟨v, hv, av⟩ := lookup_map a e1 hl
  exact ⟨_, e, p, _, dx, fs, v, rfl, h0, ok, n, hv, q M H δ v d k Ex.rfl' I av⟩
def putD (f : Str) (v : D) : List (Str × D) → List (Str × D)
  | [] => [(f, v)]
  | (g, x) :: r => if g = f then (g, v) :: r else (g, x) :: putD f v r
theorem putD_at {f : Str} {v : V} {d : D} (av : At Z M v d) : ∀ {fs : List (Str × V)} {gs : List (Str × D)}, AtL Z M (fs.map (·.2)) (gs.map (·.2)) → fs.map (·.1) = gs.map (·.1) → (putF f v fs).map (·.1) = (putD f d gs).map (·.1) ∧ AtL Z M ((putF f v fs).map (·.2)) ((putD f d gs).map (·.2))
  | [], [], _, _ => ⟨rfl, .one av⟩
  | [], g :: gs, _, e => by simp at e
  | x :: fs, [], _, e => by simp at e
  | (x1, x2) :: fs, (g1, g2) :: gs, a, e => by
    simp only [List.map_cons, List.cons.injEq] at e
    obtain ⟨rfl, e⟩ := e
    obtain ⟨v', ws, q, a1, a2⟩ := a.inv
    simp only [List.map_cons, List.cons.injEq] at q
    obtain ⟨rfl, rfl⟩ := q
    show ((if x1 = f then (x1, v) :: fs else (x1, x2) :: putF f v fs).map (·.1) = (if x1 = f then (x1, d) :: gs else (x1, g2) :: putD f d gs).map (·.1)) ∧ AtL Z M ((if x1 = f then (x1, v) :: fs else (x1, x2) :: putF f v fs).map (·.2)) ((if x1 = f then (x1, d) :: gs else (x1, g2) :: putD f d gs).map (·.2))
    by_cases c : x1 = f
    · rw [if_pos c, if_pos c]
      exact ⟨by simp [e], .cons av a2⟩
    · rw [if_neg c, if_neg c]
      obtain ⟨i1, i2⟩ := putD_at av a2 e
      exact ⟨by simp [i1], .cons a1 i2⟩
/-- self.f = e of an own instance -/
theorem xs_fldO {i : Nat} {f : Str} {c : Nat} (ok : Cls Z.K (Z.cl c).C) (n : NoAttr Z.K (Z.cl c).C f) (h : XE Z tv δ fun d δ1 => ∃ gs, δ1[i]? = some (.own (.ins c gs)) ∧ gs.length < 1000 ∧ P.N (δ1.set i (.own (.ins c (putD f d gs))))) : XS Z bs (sFld Z.K (tVar i) tv f) δ P := fun B W M H σ E hb I e =>
  h.run I fun M1 H1 δ1 x a h1 e1 I1 at1 => by
    obtain ⟨gs, hi, hl, g⟩ := h1
    obtain ⟨o, e0, p, ho, rfl, h0, h0', _⟩ := I1.sl i _ hi
    obtain ⟨dx, fs, rfl, e2, a⟩ := h0'.insI
    have hlen : fs.length < 1000 := by
      have := congrArg List.length e2; simp at this; omega
    exact ⟨_, e0, p, _, dx, fs, rfl, h0, ok, n, hlen, e.nx _ _ _ _ g e1 (I1.write e0 hi (ho := .ins _ dx _) (y' := .ins c _) ⟨rfl, (putD_at at1 a e2).1, (putD_at at1 a e2).2⟩)⟩
end
end G
set_option Elab.async false
set_option linter.all false
set_option maxRecDepth 100000
set_option maxHeartbeats 4000000
namespace G
open PySem L2
section
variable {Z : Wd} {M H M' H' : Hp} {B : Bas} {W : List (Nat × Addr)} {σ σ' : St} {δ : List S}
variable {te ta tb tv : TE} {tt t u : TT} {Φ : D → List S → Prop} {Ψ : S → List S → Prop} {Ω : OD → List S → Prop} {Λ : List D → List S → Prop} {ts : TA}
variable {bs vs : List Nat} {P : Po} {s1 s2 : TS} {Ξ : List S → Prop}
/-! ### targets -/
theorem xg_name {i : Nat} {x : D} (hv : i ∈ vs) (hi : i ∉ bs) (k : Ξ (δ.set i (.d x))) : XG Z vs bs (gName i) x δ Ξ := fun B W M H σ v Q hb I a q =>
  q M H _ _ k Ex.rfl' (I.put (not_bor hb hi) (hol_d _) (slotD a)) (fun j hj => List.getElem?_set_ne (fun z : i = j => hj (z ▸ hv))) (List.length_set ..)
def XGs (Z : Wd) (vs bs : List Nat) (g : TGs) (xs : List D) (δ : List S) (Φ : List S → Prop) : Prop :=
  ∀ B W M H σ us (Q : St → Hp → Prop), W.map (·.1) = bs → I3 Z B W M H σ δ → AtL Z M us xs →
    (∀ M' H' σ' δ', Φ δ' → Ex M M' → I3 Z B W M' H' σ' δ' → (∀ j, j ∉ vs → σ'[j]? = σ[j]?) → σ'.length = σ.length → Q σ' H') → g us σ H Q
theorem xgs_nil (k : Ξ δ) : XGs Z vs bs gNil [] δ Ξ := fun B W M H σ us Q hb I a q => ⟨a.inv0, q M H σ δ k Ex.rfl' I (fun _ _ => rfl) rfl⟩
theorem xgs_cons {g : TG} {gs : TGs} {x : D} {xs : List D} (h : XG Z vs bs g x δ fun δ1 => XGs Z vs bs gs xs δ1 Ξ) : XGs Z vs bs (gCons g gs) (x :: xs) δ Ξ := fun B W M H σ us Q hb I a q => by
  obtain ⟨v, ws, rfl, a1, a2⟩ := a.inv
  exact ⟨v, ws, rfl, h B W M H σ v _ hb I a1 fun M1 H1 σ1 δ1 h1 e1 I1 k1 l1 => h1 B W M1 H1 σ1 ws _ hb I1 (a2.mono e1) fun M2 H2 σ2 δ2 h2 e2 I2 k2 l2 => q M2 H2 σ2 δ2 h2 (e1.tr e2) I2 (fun j hj => (k2 j hj).trans (k1 j hj)) (l2.trans l1)⟩
theorem xg_tup {gs : TGs} {xs : List D} {n : Nat} (hn : xs.length = n) (h : XGs Z vs bs gs xs δ Ξ) : XG Z vs bs (gTup Z.K n gs) (.tup xs) δ Ξ := fun B W M H σ v Q hb I a q => by
  cases a with
  | tup k l c => exact ⟨_, _, rfl, sqT_mono I.ex k, by rw [l, hn], h B W M H σ _ Q hb I ⟨l, c⟩ q⟩
/-- target = e -/
theorem xs_asg {g : TG} (h : XE Z te δ fun d δ' => XG Z vs bs g d δ' P.N) : XS Z bs (tAsg te g) δ P := fun B W M H σ E hb I e =>
  h.run I fun M1 H1 δ1 x a h1 e1 I1 at1 => h1 B W M1 H1 σ x _ hb I1 at1 fun M2 H2 σ2 δ2 h2 e2 I2 _ _ => e.nx M2 H2 σ2 δ2 h2 (e1.tr e2) I2
/-! ### what a loop walks -/
structure WD (Z : Wd) (M : Hp) (J : It) (xs : List D) : Prop where
  go : ∀ i H, i < xs.length → Ex M H → J.go i H
  stop : ∀ H, Ex M H → J.stop xs.length H
  yld : ∀ i H x H' M2, i < xs.length → Ex M M2 → Ex M2 H → J.yld i H x H' → ∃ d, xs[i]? = some d ∧ ((H' = H ∧ At Z M2 x d) ∨ ∃ T us ds, H T = none ∧ H' = upd H T (.tup us) ∧ x = .ref T ∧ AtL Z M2 us ds ∧ d = .tup ds)
def XI (Z : Wd) (wi : TI) (δ : List S) (Φ : List D → List S → Prop) : Prop :=
  ∀ B W M H σ (R : It → Hp → Prop), I3 Z B W M H σ δ → (∀ M' H' δ' J xs, Φ xs δ' → Ex M M' → I3 Z B W M' H' σ δ' → WD Z M' J xs → R J H') → wi σ H R
def YD (Z : Wd) (M : Hp) (xs : List D) (i : Nat) (H : Hp) (x : V) (H' : Hp) : Prop := ∀ M2, Ex M M2 → Ex M2 H → ∃ d, xs[i]? = some d ∧ ((H' = H ∧ At Z M2 x d) ∨ ∃ T us ds, H T = none ∧ H' = upd H T (.tup us) ∧ x = .ref T ∧ AtL Z M2 us ds ∧ d = .tup ds)
theorem WD.walk {J : It} {xs : List D} (w : WD Z M J xs) : Walk J xs.length (Ex M) (YD Z M xs) :=
  ⟨w.go, w.stop, fun i H x H' hi _ y M2 e1 e2 => w.yld i H x H' M2 hi e1 e2 y⟩
/-- what it gives, as a datum over a state -/
theorem YD.use {xs : List D} {i : Nat} {x : V} {M0 : Hp} (y : YD Z M0 xs i H x H') (e : Ex M0 M) (I : I3 Z B W M H σ δ) : ∃ d M2, xs[i]? = some d ∧ Ex M M2 ∧ I3 Z B W M2 H' σ δ ∧ At Z M2 x d ∧ (∀ p o, H p = some o → H' p = some o) ∧ ∀ p o, H p = some o → M p = none → M2 p = none := by
  obtain ⟨d, hd, c⟩ := y M e I.ex
  rcases c with ⟨rfl, a⟩ | ⟨T, us, ds, hT, rfl, rfl, al, rfl⟩
  · exact ⟨d, M, hd, Ex.rfl', I, a, fun _ _ h => h, fun _ _ _ h => h⟩
  · have hm := I.ex.free hT
    exact ⟨_, upd M T (.tup us), hd, Ex.new hm, I.grow hT, .tup (SqT.of upd_same) al.len (al.mono (Ex.new hm)).at', fun p o h => by rw [upd_ne (ne_of_none h hT)]; exact h, fun p o h n => by rw [upd_ne (ne_of_none h hT)]; exact n⟩
theorem xs_for {g : TG} {tb : TS} {wi : TI} (h : XI Z wi δ fun xs δ0 => ∃ J : Nat → List S → Prop, J 0 δ0 ∧
      (∀ i d δ1, xs[i]? = some d → J i δ1 → XG Z vs bs g d δ1 fun δ2 => XS Z bs tb δ2 { N := J (i + 1), R := P.R, B := P.N, C := J (i + 1), X := P.X }) ∧ ∀ δ1, J xs.length δ1 → P.N δ1) : XS Z bs (tFor wi g tb) δ P := fun B W M H σ E hb I e =>
  h B W M H σ _ I fun M' H' δ' J xs f e1 I1 wd => by
    obtain ⟨Jv, j0, js, jn⟩ := f
    refine for_it wd.walk (fun i σ H => ∃ M'' δ'', Ex M' M'' ∧ I3 Z B W M'' H σ δ'' ∧ Jv i δ'') ⟨M', δ', Ex.rfl', I1, j0⟩ (fun i σ H _ ⟨M'', _, a, b, _⟩ => a.tr b.ex) (fun i x σ1 H1 H2 hi ⟨M'', δ'', a, b, c⟩ y => ?_) (fun σ1 H1 ⟨M'', δ'', a, b, c⟩ => e.nx _ _ _ _ (jn _ c) (e1.tr a) b)
    obtain ⟨d, M2, hd, e2, I2, at2, _⟩ := y.use a b
    refine js i d δ'' hd c B W M2 H2 σ1 x _ hb I2 at2 fun M3 H3 σ3 δ3 h3 e3 I3' _ _ => ?_
    have e4 : Ex M M3 := e1.tr (a.tr (e2.tr e3))
    refine h3 B W M3 H3 σ3 _ hb I3' ⟨fun M4 H4 σ4 δ4 p q I4 => ⟨M4, δ4, a.tr (e2.tr (e3.tr q)), I4, p⟩, fun _ _ _ _ _ _ p q => e.rt _ _ _ _ _ _ p (e4.tr q), fun _ _ _ _ p q => e.nx _ _ _ _ p (e4.tr q), fun M4 H4 σ4 δ4 p q I4 => ⟨M4, δ4, a.tr (e2.tr (e3.tr q)), I4, p⟩, fun _ q => e.xc _ (e4.tr q)⟩
/-! ### comprehensions -/
def wipeS (δ : List S) : List Nat → List S
  | [] => δ
  | v :: vs => (wipeS δ vs).set v .no
theorem wipeS_len : ∀ (vs : List Nat), (wipeS δ vs).length = δ.length
  | [] => rfl
  | v :: vs => by rw [show wipeS δ (v :: vs) = (wipeS δ vs).set v .no from rfl, List.length_set, wipeS_len vs]
theorem wipeS_out {j : Nat} : ∀ {vs : List Nat}, j ∉ vs → (wipeS δ vs)[j]? = δ[j]?
  | [], _ => rfl
  | v :: vs, h => by
    rw [List.mem_cons, not_or] at h
    rw [show wipeS δ (v :: vs) = (wipeS δ vs).set v .no from rfl, List.getElem?_set_ne (fun z => h.1 z.symm), wipeS_out h.2]
theorem wipeS_in {j : Nat} (hj : j < δ.length) : ∀ {vs : List Nat}, j ∈ vs → (wipeS δ vs)[j]? = some .no
  | v :: vs, h => by
    rw [show wipeS δ (v :: vs) = (wipeS δ vs).set v .no from rfl]
    by_cases e : v = j
    · subst e; rw [List.getElem?_set_self (by rw [wipeS_len]; exact hj)]
    · rw [List.getElem?_set_ne e]
      rcases List.mem_cons.mp h with z | z
      · exact absurd z.symm e
      · exact wipeS_in hj z
theorem wipe_out {j : Nat} : ∀ {vs : List Nat}, j ∉ vs → (wipe σ vs)[j]? = σ[j]?
  | [], _ => rfl
  | v :: vs, h => by
    rw [List.mem_cons, not_or] at h
    rw [show wipe σ (v :: vs) = (wipe σ vs).set v none from rfl, List.getElem?_set_ne (fun z => h.1 z.symm), wipe_out h.2]
theorem wipe_in {j : Nat} (hj : j < σ.length) : ∀ {vs : List Nat}, j ∈ vs → (wipe σ vs)[j]? = some none
  | v :: vs, h => by
    rw [show wipe σ (v :: vs) = (wipe σ vs).set v none from rfl]
    by_cases e : v = j
    · subst e; rw [List.getElem?_set_self (by rw [wipe_length]; exact hj)]
    · rw [List.getElem?_set_ne e]
      rcases List.mem_cons.mp h with z | z
      · exact absurd z.symm e
      · exact wipe_in hj z
theorem wipe_eq (h : ∀ j, j ∉ vs → σ'[j]? = σ[j]?) (hl : σ'.length = σ.length) : wipe σ' vs = wipe σ vs := by
  apply List.ext_getElem?
  intro j
  by_cases hj : j ∈ vs
  · by_cases hlt : j < σ.length
    · rw [wipe_in (hl ▸ hlt) hj, wipe_in hlt hj]
    · rw [List.getElem?_eq_none (by rw [wipe_length, hl]; omega), List.getElem?_eq_none (by rw [wipe_length]; omega)]
  · rw [wipe_out hj, wipe_out hj, h j hj]
/-- other values in slots of which nothing is known -/
theorem I3.swap {δ' : List S} (I : I3 Z B W M H σ δ) (h : ∀ j, j ∉ vs → σ'[j]? = σ[j]?) (hl : σ'.length = σ.length) (hd : ∀ j, j ∉ vs → δ'[j]? = δ[j]?) (hn : ∀ j, j ∈ vs → j < δ'.length → δ'[j]? = some .no) (hl' : δ'.length = δ.length) (hw : ∀ i p, i ∈ vs → (i, p) ∉ W) : I3 Z B W M H σ' δ' := by
  have fw : ∀ j p, Own σ' δ' j p → j ∉ vs ∧ Own σ δ j p := fun j p o => by
    have hj : j ∉ vs := fun z => by
      obtain ⟨r, y, a, b, c⟩ := o
      rw [hn j z (List.getElem?_eq_some_iff.mp b).1] at b; cases b; exact c
    exact ⟨hj, o.same (h j hj).symm (hd j hj).symm⟩
  refine ⟨I.ex, I.mg, I.keep, by rw [hl, hl']; exact I.len, fun j s e => ?_, fun j q w => ?_, fun j q o => I.own j q (fw j q o).2, fun j k q a b => I.dis j k q (fw j q a).2 (fw k q b).2⟩
  · by_cases hj : j ∈ vs
    · have hlt := (List.getElem?_eq_some_iff.mp e).1
      rw [hn j hj hlt] at e; cases e
      have : j < σ'.length := by rw [hl, I.len, ← hl']; exact hlt
      exact ⟨σ'[j], by simp [this], trivial⟩
    · rw [hd j hj] at e
      obtain ⟨o, a, b⟩ := I.sl j s e
      exact ⟨o, by rw [h j hj]; exact a, b⟩
  · have hj : j ∉ vs := fun z => hw j q z w
    exact (I.bor j q w).same (h j hj) (hd j hj)
theorem xo_lc {g : TG} {wi : TI} (h : XI Z wi δ fun xs δ0 => (∀ v ∈ vs, δ0[v]? = some .no) ∧ xs.length ≤ 1000000 ∧ ∃ J : Nat → List D → List S → Prop, J 0 [] δ0 ∧
      (∀ i d acc δ1 bs, (∀ v ∈ vs, v ∉ bs) → xs[i]? = some d → J i acc δ1 → XG Z vs bs g d δ1 fun δ2 => XT Z tt δ2 fun b δ3 => if b = true then XE Z te δ3 fun y δ4 => J (i + 1) (acc ++ [y]) (wipeS δ4 vs) else J (i + 1) acc (wipeS δ3 vs)) ∧
      ∀ acc δ1, J xs.length acc δ1 → Ω (.lst acc) δ1) : XO Z (tLc wi g tt te vs) δ Ω := XO.mk fun B W M H σ Q I q =>
  h B W M H σ _ I fun M' H1 δ' J xs f e1 I1 wd A hA => by
    obtain ⟨hno, hxs, Jv, j0, js, jn⟩ := f
    have hAB := I1.fresh hA
    have hAm := I1.ex.free hA
    refine lc_it wd.walk (fun i H => i ≤ xs.length → ∃ M'' δ'' acc av, Ex M' M'' ∧ I3 Z B W M'' H σ δ'' ∧ Jv i acc δ'' ∧ H A = some (.lst av) ∧ AtL Z M'' av acc ∧ M'' A = none ∧ (∀ j, ¬ Own σ δ'' j A) ∧ (∀ v ∈ vs, δ''[v]? = some .no) ∧ acc.length ≤ i)
      (fun _ => ⟨M', δ', [], [], Ex.rfl', I1.other hAB hAm (I1.newOwn hA), j0, upd_same, .nil, hAm, I1.newOwn hA, hno, Nat.le_refl _⟩) (fun i H hi p => ?_) (fun i x Ha Hb hi p y => ?_) (fun H p => ?_)
    · obtain ⟨M'', _, _, _, a, b, _⟩ := p hi
      exact a.tr b.ex
    · obtain ⟨M'', δ'', acc, av, a, Ia, ja, hA1, al, hAm1, hAo, hno1, hacc⟩ := p (Nat.le_of_lt hi)
      obtain ⟨d, M2, hd, e2, I2, at2, k2, m2⟩ := y.use a Ia
      have hA2 := k2 _ _ hA1
      have hAm2 := m2 _ _ hA1 hAm1
      have hvlen : ∀ v ∈ vs, v < δ''.length := fun v hv => (List.getElem?_eq_some_iff.mp (hno1 v hv)).1
      have hWv : ∀ i p, i ∈ vs → (i, p) ∉ W := fun i p hv hw => by
        exact Own.not (hno1 i hv) hol_no (I2.bor i p hw)
      have Iw : I3 Z B W M2 Hb (wipe σ vs) δ'' := I2.swap (fun j hj => wipe_out hj) (wipe_length _ _) (fun _ _ => rfl) (fun j hj _ => hno1 j hj) rfl hWv
      have hbs : ∀ v ∈ vs, v ∉ (owns 0 (wipe σ vs) δ'').map (·.1) := fun v hv hm => by
        obtain ⟨⟨i, p⟩, hmem, rfl⟩ := List.mem_map.mp hm
        exact Own.not (hno1 _ hv) hol_no (mem_owns.mp hmem)
      have ownEq : ∀ i p, (i, p) ∈ owns 0 (wipe σ vs) δ'' ↔ Own σ δ'' i p := fun i p => by
        rw [mem_owns]
        constructor
        · intro o
          have hi' : i ∉ vs := fun hv => Own.not (hno1 i hv) hol_no o
          exact o.same (wipe_out hi').symm rfl
        · intro o
          have hi' : i ∉ vs := fun hv => Own.not (hno1 i hv) hol_no o
          exact o.same (wipe_out hi') rfl
      have fin : ∀ M4 H4 σ4 δ4, Ex M2 M4 → (∀ j, j ∉ vs → σ4[j]? = (wipe σ vs)[j]?) → σ4.length = (wipe σ vs).length → I3 Z ⟨Hb, M2⟩ (owns 0 (wipe σ vs) δ'') M4 H4 σ4 δ4 →
          I3 Z B W M4 H4 σ (wipeS δ4 vs) ∧ H4 A = some (.lst av) ∧ M4 A = none ∧ (∀ j, ¬ Own σ (wipeS δ4 vs) j A) ∧ ∀ v ∈ vs, (wipeS δ4 vs)[v]? = some .no := fun M4 H4 σ4 δ4 e4 k4 l4 J4 => by
        have hl4 : δ4.length = δ''.length := by rw [← J4.len, l4, wipe_length, Ia.len]
        have J5 : I3 Z ⟨Hb, M2⟩ (owns 0 (wipe σ vs) δ'') M4 H4 σ (wipeS δ4 vs) := J4.swap (vs := vs) (fun j hj => by rw [k4 j hj, wipe_out hj]) (by rw [l4, wipe_length]) (fun j hj => wipeS_out hj) (fun j hj hlt => wipeS_in (by rw [wipeS_len] at hlt; exact hlt) hj) (wipeS_len _) fun i p hv hw => hbs i hv (List.mem_map_of_mem (f := (·.1)) hw)
        obtain ⟨z1, z2, z3⟩ := J5.stays (a := A) hA2 hAm2 (fun i hi => hAo i ((ownEq i A).mp hi)) (fun _ e => nomatch e)
        exact ⟨I2.back ownEq J5, z1, z3, z2, fun v hv => wipeS_in (by rw [hl4]; exact hvlen v hv) hv⟩
      refine js i d acc δ'' _ hbs hd ja _ _ M2 Hb (wipe σ vs) x _ rfl Iw.rebase at2 fun M3 H3 σ3 δ3 h3 e3 J3 k3 l3 => ⟨(wipe_eq k3 l3).trans (wipe_eq (fun j hj => wipe_out hj) (wipe_length _ _)), ?_⟩
      refine h3 _ _ M3 H3 σ3 _ J3 fun M4 H4 δ4 b h4 e4 J4 => ?_
      cases b with
      | true =>
        rw [if_pos rfl] at h4 ⊢
        refine XE.run h4 J4 fun M5 H5 δ5 y' d' h5 e5 J5 at5 => ?_
        obtain ⟨z1, z2, z3, z4, z5⟩ := fin M5 H5 σ3 δ5 (e3.tr (e4.tr e5)) k3 l3 J5
        have hlen : av.length < sizeLine := Nat.lt_of_lt_of_le (by have := al.len; omega : av.length < 1000001) (by decide)
        refine ⟨av, z2, hlen, fun _ => ⟨M5, _, _, _, a.tr (e2.tr (e3.tr (e4.tr e5))), z1.other hAB z3 z4, h5, upd_same, AtL.app (al.mono (e2.tr (e3.tr (e4.tr e5)))) (.one at5), z3, z4, z5, by rw [List.length_append, List.length_singleton]; omega⟩⟩
      | false =>
        rw [if_neg Bool.false_ne_true] at h4 ⊢
        obtain ⟨z1, z2, z3, z4, z5⟩ := fin M4 H4 σ3 δ4 (e3.tr e4) k3 l3 J4
        exact fun _ => ⟨M4, _, _, _, a.tr (e2.tr (e3.tr e4)), z1, h4, z2, al.mono (e2.tr (e3.tr e4)), z3, z4, z5, Nat.le_succ_of_le hacc⟩
    · obtain ⟨M'', δ'', acc, av, a, Ia, ja, hA1, al, hAm1, hAo, hno1, _⟩ := p (Nat.le_refl _)
      exact q M'' H δ'' A _ _ (jn _ _ ja) (e1.tr a) Ia hA1 al hAm1 hAB hAo
/-! ### while -/
theorem xs_while {c : TT} {tb : TS} (J : Nat → List S → Prop) (h0 : ∃ m, J m δ) (hs : ∀ m δ1, J m δ1 → XT Z c δ1 fun b δ2 => if b = true then XS Z bs tb δ2 { N := fun δ3 => ∃ m', m' < m ∧ J m' δ3, R := P.R, B := P.N, C := fun δ3 => ∃ m', m' < m ∧ J m' δ3, X := P.X } else P.N δ2) : XS Z bs (tWhile c tb) δ P := fun B W M H σ E hb I e => by
  obtain ⟨m, hm⟩ := h0
  refine ⟨fun m σ H => ∃ M' δ', Ex M M' ∧ I3 Z B W M' H σ δ' ∧ J m δ', ⟨m, M, δ, Ex.rfl', I, hm⟩, ?_⟩
  rintro m σ H ⟨M', δ', a, I', hj⟩
  refine hs m δ' hj B W M' H σ _ I' fun M1 H1 δ1 b h1 e1 I1 => ?_
  cases b with
  | true =>
    rw [if_pos rfl] at h1 ⊢
    refine ⟨fun σ H => ∃ M' δ', Ex M M' ∧ I3 Z B W M' H σ δ' ∧ ∃ m', m' < m ∧ J m' δ', fun σ' H' ⟨M2, δ2, x, y, m', l, z⟩ => ⟨m', l, M2, δ2, x, y, z⟩, ?_⟩
    have e2 : Ex M M1 := a.tr e1
    exact h1 B W M1 H1 σ _ hb I1 ⟨fun M4 H4 σ4 δ4 p q I4 => ⟨M4, δ4, e2.tr q, I4, p⟩, fun _ _ _ _ _ _ p q => e.rt _ _ _ _ _ _ p (e2.tr q), fun _ _ _ _ p q => e.nx _ _ _ _ p (e2.tr q), fun M4 H4 σ4 δ4 p q I4 => ⟨M4, δ4, e2.tr q, I4, p⟩, fun _ q => e.xc _ (e2.tr q)⟩
  | false =>
    rw [if_neg Bool.false_ne_true] at h1 ⊢
    exact e.nx _ _ _ _ h1 (a.tr e1) I1
/-! ### sources -/
theorem wd_list {a : Addr} {us : List V} {xs : List D} (h : SqL Z.K M a us) (al : AtL Z M us xs) : WD Z M (Itl Z.K a) xs :=
  ⟨fun i H hi e => ⟨us, us[i]'(by rw [al.len]; exact hi), sqL_mono e h, by simp [al.len, hi]⟩, fun H e => ⟨us, sqL_mono e h, by rw [al.len]; exact Nat.le_refl _⟩, fun i H x H' M2 hi e1 e2 y => by
    have hx := y.2 us (sqL_mono (e1.tr e2) h)
    obtain ⟨d, hd, a⟩ := al.getV hx
    exact ⟨d, hd, .inl ⟨y.1, a.mono e1⟩⟩⟩
theorem wd_tup {a : Addr} {us : List V} {xs : List D} (h : SqT Z.K M a us) (al : AtL Z M us xs) : WD Z M (Itt Z.K a) xs :=
  ⟨fun i H hi e => ⟨us, us[i]'(by rw [al.len]; exact hi), sqT_mono e h, by simp [al.len, hi]⟩, fun H e => ⟨us, sqT_mono e h, by rw [al.len]; exact Nat.le_refl _⟩, fun i H x H' M2 hi e1 e2 y => by
    have hx := y.2 us (sqT_mono (e1.tr e2) h)
    obtain ⟨d, hd, a⟩ := al.getV hx
    exact ⟨d, hd, .inl ⟨y.1, a.mono e1⟩⟩⟩
theorem xi_list (h : XE Z te δ fun d δ1 => ∃ xs, (d = .lst xs ∨ ∃ ns, d = .scr ns ∧ xs = ns.map .int) ∧ Λ xs δ1) : XI Z (iList Z.K te) δ Λ := fun B W M H σ R I q =>
  h.run I fun M1 H1 δ1 x a h1 e1 I1 at1 => by
    obtain ⟨xs, hx, f⟩ := h1
    rcases hx with rfl | ⟨ns, rfl, rfl⟩
    · cases at1 with
      | lst k l c => exact ⟨_, rfl, ⟨_, SqL.of (I1.ex _ _ k)⟩, q M1 H1 δ1 _ _ f e1 I1 (wd_list (SqL.of k) ⟨l, c⟩)⟩
    · cases at1 with
      | scr k => exact ⟨_, rfl, ⟨_, sqL_mono I1.ex k⟩, q M1 H1 δ1 _ _ f e1 I1 (wd_list k (AtL.ofInts ns))⟩
theorem xi_tup (h : XE Z te δ fun d δ1 => ∃ xs, d = .tup xs ∧ Λ xs δ1) : XI Z (iTup Z.K te) δ Λ := fun B W M H σ R I q =>
  h.run I fun M1 H1 δ1 x a h1 e1 I1 at1 => by
    obtain ⟨xs, rfl, f⟩ := h1
    cases at1 with
    | tup k l c => exact ⟨_, rfl, ⟨_, sqT_mono I1.ex k⟩, q M1 H1 δ1 _ _ f e1 I1 (wd_tup k ⟨l, c⟩)⟩
def rng (lo : Int) (n : Nat) : List D := (List.range n).map fun (i : Nat) => D.int (lo + (i : Int))
theorem rng_len {lo : Int} {n : Nat} : (rng lo n).length = n := by simp [rng]
theorem rng_at {lo : Int} {n i : Nat} {d : D} (h : (rng lo n)[i]? = some d) : i < n ∧ d = .int (lo + i) := by
  have hi : i < n := by have := (List.getElem?_eq_some_iff.mp h).1; rwa [rng_len] at this
  refine ⟨hi, ?_⟩
  simp [rng, hi] at h
  exact h.symm
theorem wd_rng {lo : Int} {n : Nat} : WD Z M (Itr lo n) (rng lo n) :=
  ⟨fun i H hi _ => by rw [rng_len] at hi; exact hi, fun H _ => by rw [rng_len]; exact Nat.le_refl n, fun i H x H' M2 hi _ _ y => by
    rw [rng_len] at hi
    refine ⟨.int (lo + i), by simp [rng, hi], .inl ⟨y.1, ?_⟩⟩
    rw [y.2]; exact .int⟩
theorem xi_rng1 (h : XE Z te δ fun d δ1 => ∃ j : Int, d = .int j ∧ -(2 ^ 62) ≤ j ∧ j < 2 ^ 62 ∧ Λ (rng 0 j.toNat) δ1) : XI Z (iRng1 (tCons te tNil)) δ Λ := fun B W M H σ R I q =>
  h.run I fun M1 H1 δ1 x a h1 e1 I1 at1 => by
    obtain ⟨j, rfl, b1, b2, f⟩ := h1
    cases at1
    exact ⟨j, rfl, b1, b2, q M1 H1 δ1 _ _ f e1 I1 wd_rng⟩
def enumD (xs : List D) : List D := xs.zipIdx.map fun (x, i) => D.tup [.int (i : Nat), x]
theorem enumD_len {xs : List D} : (enumD xs).length = xs.length := by simp [enumD]
theorem enumD_at {xs : List D} {i : Nat} {d : D} (h : (enumD xs)[i]? = some d) : ∃ x, xs[i]? = some x ∧ d = .tup [.int (i : Nat), x] := by
  simp only [enumD, List.getElem?_map, List.getElem?_zipIdx] at h
  cases e : xs[i]? with
  | none => rw [e] at h; simp at h
  | some x => rw [e] at h; simp at h; exact ⟨x, rfl, h.symm⟩
theorem xi_enum (h : XE Z te δ fun d δ1 => ∃ xs, d = .lst xs ∧ Λ (enumD xs) δ1) : XI Z (iEnum Z.K (tCons te tNil)) δ Λ := fun B W M H σ R I q =>
  h.run I fun M1 H1 δ1 x a h1 e1 I1 at1 => by
    obtain ⟨xs, rfl, f⟩ := h1
    cases at1 with
    | lst k l c =>
      rename_i p us
      refine ⟨p, us, rfl, SqL.of (I1.ex _ _ k), q M1 H1 δ1 _ _ f e1 I1 ⟨fun i H hi e => ?_, fun H e => ?_, fun i H x H' M2 hi ea eb y => ?_⟩⟩
      · rw [enumD_len] at hi
        exact ⟨us, us[i]'(by rw [l]; exact hi), SqL.of (e _ _ k), by simp [l, hi]⟩
      · exact ⟨us, SqL.of (e _ _ k), by rw [enumD_len, l]; exact Nat.le_refl _⟩
      · obtain ⟨T, z, h1, h2, h3, h4⟩ := y
        have hz := h4 us (SqL.of ((ea.tr eb) _ _ k))
        obtain ⟨d, hd, ad⟩ := AtL.getV (Z := Z) (M := M1) ⟨l, c⟩ hz
        refine ⟨_, ?_, .inr ⟨T, _, [.int (i : Nat), d], h2, h3, h1, .cons .int (.one (ad.mono ea)), rfl⟩⟩
        simp only [enumD, List.getElem?_map, List.getElem?_zipIdx, hd]; simp
theorem xi_str (h : XE Z te δ fun d δ1 => ∃ s, d = .str s ∧ Λ (s.cps.toList.map fun c => D.str ⟨#[c]⟩) δ1) : XI Z (iStr te) δ Λ := fun B W M H σ R I q =>
  h.run I fun M1 H1 δ1 x a h1 e1 I1 at1 => by
    obtain ⟨s, rfl, f⟩ := h1
    cases at1
    refine ⟨s, rfl, q M1 H1 δ1 _ _ f e1 I1 ⟨fun i H hi _ => ?_, fun H _ => ?_, fun i H x H' M2 hi _ _ y => ?_⟩⟩
    · simpa using (walk_str (z := s)).goes i H (by simpa using hi) trivial
    · simpa using (walk_str (z := s)).stops H trivial
    · obtain ⟨e, c, hc, rfl⟩ := (walk_str (z := s)).yields i H x H' (by simpa using hi) trivial y
      refine ⟨.str ⟨#[c]⟩, ?_, .inl ⟨e, .str⟩⟩
      rw [List.getElem?_map, Array.getElem?_toList, hc]; rfl
end
end G
set_option Elab.async false
set_option linter.all false
set_option maxRecDepth 100000
set_option maxHeartbeats 4000000
/-! sets of texts made of a list, and sorted -/
namespace GS
open PySem PySem.Spec PyProof.Rows L2
open PySem.Froz (SD sObj tailTx addTx TxOk)
/-- the set's table can be walked -/
def Led (w : World) (D : SD) : Prop := Ris D.2.2.place.toList ∧ (w.params.followText "set-order" = true ∨ D.2.2.led = true)
theorem led_tail {w : World} {n : Nat} {xs : Array (Int × Value)} {tb : SetTable} {b : Bool} (r : Ris tb.place.toList) (l : w.params.followText "set-order" = true ∨ tb.led = true) : Led w (tailTx n xs tb b) := by
  unfold tailTx
  split
  · exact ⟨relayAll_ris tb xs _, l.imp id fun z => (relayAll_led tb xs _).trans z⟩
  · exact ⟨r, l⟩
theorem led_add {w : World} {D : SD} {n : Int} {v : Value} (L : Led w D) : Led w (addTx n v D) := by
  have r1 := layNew_ris D.2.2 D.1 n v L.1
  have l1 := L.2.imp id fun z => (layNew_led D.2.2 D.1 n v).trans z
  unfold addTx
  apply led_tail
  · split <;> exact r1
  · split <;> exact l1
section
variable {P : Program} {w : World} {A : Around} {E : Value → Shared → Prop} {s : Shared}
theorem found_x {a : Addr} {D : SD} {l : List Str} {k : Str} {u : Tok} {Q : Bool → Shared → Prop} (ho : s.heap.get? a = some (sObj "set" D)) (F : TxOk P w D l) (hk : k ∈ l) (hb : l.length < scanBound) (h : Q false s) :
    wpAny (model P w) A (setAddHashed a (.str k u) (hashStr w k)) Q E s := by
  obtain ⟨xs, n, tb⟩ := D
  have kk : (strKind P w).is k (.str k u) = true := Froz.is_str k u
  have b0 : xs.size < scanBound := by have : xs.size = l.length := F.sz; omega
  obtain ⟨e, he, hz⟩ := (F.mem k).mp hk
  have some_ : ∃ j, List.findIdx? (fun e => (strKind P w).is k e.2) xs.toList = some j := by
    cases q : List.findIdx? (fun e => (strKind P w).is k e.2) xs.toList with
    | some j => exact ⟨j, rfl⟩
    | none => have := List.findIdx?_eq_none_iff.mp q e he; rw [hz] at this; cases this
  obtain ⟨j, hj⟩ := some_
  have el : ElemsOf (strKind P w) xs.toList := F.el
  unfold setAddHashed setAddHashedIn
  refine wpAny_holding (wpAny_bind (wpAny_setState_of ho rfl F.fit ?_))
  dsimp only
  rw [byScan_of rfl b0 el]
  simp only [↓reduceIte]
  unfold setAddByScan
  refine wpAny_bind (wpAny_bind (wpAny_rule (wpAny_bind (wpAny_setScan_of (knd := strKind P w) (k := k) kk ho rfl F.fit el ?_))))
  rw [hj]
  exact wpAny_pure (wpAny_pure h)
/-- the set at a holds just the texts l, each once -/
def Holds (P : Program) (w : World) (h : Heap) (a : Addr) (l : List Str) : Prop := ∃ D, h.get? a = some (sObj "set" D) ∧ TxOk P w D l ∧ Led w D ∧ l.Nodup
theorem Holds.stay {h h' : Heap} {a : Addr} {l : List Str} (x : Holds P w h a l) (k : ∀ o, h.get? a = some o → h'.get? a = some o) : Holds P w h' a l := by
  obtain ⟨D, e, r⟩ := x
  exact ⟨D, k _ e, r⟩
def Upto (xs l : List Str) (i : Nat) : Prop := l.length ≤ i ∧ ∀ x, x ∈ l ↔ x ∈ xs.take i
theorem take_get {α : Type} {l : List α} {i : Nat} {x : α} (h : l[i]? = some x) : l.take (i + 1) = l.take i ++ [x] := by
  have hi := (List.getElem?_eq_some_iff.mp h)
  obtain ⟨hi, rfl⟩ := hi
  exact (List.take_append_getElem hi).symm
/-- one text more -/
theorem add_one {a : Addr} {l xs : List Str} {i : Nat} {k : Str} {u : Tok} {Q : Bool → Shared → Prop} (H : Holds P w s.heap a l) (U : Upto xs l i) (hx : xs[i]? = some k) (hb : i + 1 < scanBound)
    (h : ∀ b h' l', (∀ c o, c ≠ a → s.heap.get? c = some o → h'.get? c = some o) → Holds P w h' a l' → Upto xs l' (i + 1) → Q b { s with heap := h' }) : wpAny (model P w) A (setAddHashed a (.str k u) (hashStr w k)) Q E s := by
  obtain ⟨D, ho, F, L, nd⟩ := H
  obtain ⟨U1, U2⟩ := U
  have tk := take_get hx
  by_cases hk : k ∈ l
  · refine found_x ho F hk (by omega) (h false s.heap l (fun _ _ _ e => e) ⟨D, ho, F, L, nd⟩ ⟨by omega, fun x => ?_⟩)
    rw [tk, List.mem_append, List.mem_singleton, ← U2]
    exact ⟨.inl, fun z => z.elim id fun e => e ▸ hk⟩
  · refine Froz.add_x ho F hk (by omega) (h true _ (k :: l) (fun c o hc e => (Heap.get?_update_other _ _ (Ne.symm hc)).trans e) ⟨_, Froz.get_upd _ ho rfl, Froz.add_ok u F, led_add L, List.nodup_cons.mpr ⟨hk, nd⟩⟩ ⟨by rw [List.length_cons]; omega, fun x => ?_⟩)
    rw [tk, List.mem_append, List.mem_singleton, ← U2, List.mem_cons]
    exact ⟨fun z => z.elim .inr .inl, fun z => z.elim .inr .inl⟩
end
section
variable {P : Program} {w : World} {A : Around} {R : Result → Shared → Prop} {I : Addr} {fp wr : List Addr} {g : Array GenState → Array GenState → Prop} {n : Nat} {Pv : Nat → Value → Prop} {St : Nat → Shared → Prop}
theorem update_loop (K : WalksS P w A.in1 I fp wr g n Pv St) (a : Addr) (ha : a ∉ fp) (xs : List Str) (hn : xs.length = n) (hb : n + 1 < scanBound) (hv : ∀ i v, Pv i v → ∃ x t, xs[i]? = some x ∧ v = .str x t) :
    ∀ (m i : Nat) (s : Shared), n - i = m → i ≤ n → St i s → (∃ l, Holds P w s.heap a l ∧ Upto xs l i) →
      (∀ s' l, Moved (a :: wr) g s s' → Holds P w s'.heap a l → Upto xs l n → R (.ok (.ret .none)) s') → codeAny (model P w) A (.builtin "set.update.loop" ⟨[.ref a, .ref I], []⟩) R s
  | 0, i, s, hm, hi, st, ⟨l, Hl, U⟩, fin => by
    obtain rfl : i = n := by omega
    refine codeAny_builtin PyProof.Rows.F.entry_set_update_loop ?_
    rw [Around.under_plainId PyProof.Rows.F.plain_set_update_loop]
    refine wpAny_bind (K.done s (fun r s1 => wpAny (model P w) A.in1 _ _ _ s1) _ st fun s1 mv => ?_)
    have aw : a ∉ wr := fun z => ha (K.sub _ z)
    exact wpAny_pure (fin s1 l (mv.mono fun b z => List.mem_cons_of_mem _ z) (Hl.stay fun o e => mv.heap a o aw e) U)
  | m + 1, i, s, hm, hi, st, ⟨l, Hl, U⟩, fin => by
    have lt : i < n := by omega
    have aw : a ∉ wr := fun z => ha (K.sub _ z)
    have cons : ∀ b ∈ wr, b ∈ a :: wr := fun b z => List.mem_cons_of_mem _ z
    refine codeAny_builtin PyProof.Rows.F.entry_set_update_loop ?_
    rw [Around.under_plainId PyProof.Rows.F.plain_set_update_loop]
    refine wpAny_bind (K.item i s (fun r s1 => wpAny (model P w) A.in1 _ _ _ s1) _ lt st fun v s1 pv st1 mv => ?_)
    obtain ⟨x, t, hx, rfl⟩ := hv i v pv
    have H1 : Holds P w s1.heap a l := Hl.stay fun o e => mv.heap a o aw e
    show wpAny _ A.in1 (holding [Value.str x t] (setAdd a (.str x t)) >>= _) _ _ s1
    refine wpAny_bind (wpAny_holding ?_)
    unfold setAdd
    refine wpAny_holding (wpAny_bind ((PySem.strKind P w).pyHash (k := x) (strKind_is _ _ _ _) ?_))
    refine add_one (s := { s1 with toks := s1.toks + 1 }) H1 U hx (by omega) fun b h2 l2 k2 H2 U2 => ?_
    refine wpAny_pure ⟨plainId_quiet PyProof.Rows.F.plain_set_update_loop _, update_loop K a ha xs hn hb hv m (i + 1) _ (by omega) lt (K.frame _ s1 _ _ st1 (Nat.le_succ _) fun b hb o e => k2 b o (fun z => ha (z ▸ hb)) e) ⟨l2, H2, U2⟩ fun s3 l3 mv3 H3 U3 => ?_⟩
    exact fin s3 l3 (Moved.trans K.gtrans ((mv.mono cons).then_heap (Nat.le_succ _) fun b o hb e => k2 b o (fun z => hb (by rw [z]; exact List.mem_cons_self)) e) mv3) H3 U3
end
end GS
set_option Elab.async false
set_option linter.all false
set_option maxRecDepth 100000
set_option maxHeartbeats 8000000
namespace GS
open PySem PySem.Spec PyProof.Rows L2
open PySem.Froz (SD sObj tailTx addTx TxOk)
/-- a set as set() makes it -/
def new0 (w : World) : Obj := { cls := .type "set", dict := none, data := .set #[] 0 (.fresh 0 0 (!w.params.followText "set-order")) }
section
variable {P : Program} {w : World} {A : Around} {E : Value → Shared → Prop} {s : Shared}
theorem holds_new {h : Heap} {a : Addr} (e : h.get? a = some (new0 w)) : Holds P w h a [] := by
  refine ⟨(#[], 0, .fresh 0 0 (!w.params.followText "set-order")), e, Froz.TxOk.nil rfl, ⟨List.Pairwise.nil, ?_⟩, List.nodup_nil⟩
  show _ ∨ (!w.params.followText "set-order") = true
  cases w.params.followText "set-order" <;> simp
theorem strs_get : ∀ {us : List Value} {xs : List Str}, StrsAre us xs → ∀ (i : Nat) v, us[i]? = some v → ∃ x t, xs[i]? = some x ∧ v = Value.str x t
  | _, _, .nil, i, v, h => by simp at h
  | _, _, .cons n t r, 0, v, h => ⟨n, t, rfl, by simpa using h.symm⟩
  | _, _, .cons n t r, i + 1, v, h => by simpa using strs_get r i v (by simpa using h)
/-- set(xs), xs a list of texts -/
theorem call_set {l : Addr} {us : Array Value} {xs : List Str} {Q : Value → Shared → Prop} (hh : A.handled = none) (hl : s.heap.IsList l us) (hx : StrsAre us.toList xs) (hb : us.size + 1 < scanBound)
    (q : ∀ h' tk ys, (∀ b o, b < s.heap.objs.size → s.heap.get? b = some o → h'.get? b = some o) → Holds P w h' s.heap.objs.size ys → (∀ x, x ∈ ys ↔ x ∈ xs) → ys.length ≤ xs.length → Q (.ref s.heap.objs.size) { s with heap := h', toks := tk }) :
    wpAny (model P w) A (call (.type "set") [.ref l]) Q E s := by
  have hsz : xs.length = us.size := by
    have : us.toList.length = xs.length := by
      clear q hb hl
      generalize us.toList = z at hx
      induction hx with
      | nil => rfl
      | cons _ _ _ ih => simp [ih]
    rw [← this, Array.length_toList]
  obtain ⟨c, tl, hmro⟩ := PySem.F.called_set.mro
  have made := PySem.F.called_set.made
  have sub := PySem.F.called_set.sub
  have nt := PySem.F.called_set.notType
  have cc := PySem.F.called_set.canCreate
  have tc := PySem.F.typeCall_set_1 (.ref l)
  refine wpAny_call (codeAny_of_tree (M := model P w) ?_)
  refine wpAny_pure (A := A.in1) ⟨Code.quiet_builtin _ (by decide +kernel), codeAny_builtin PySem.F.entry_type_call ?_⟩
  rw [Around.under_plain (weight_type_call_type "set" [.ref l] []) rfl]
  repeat (any_goals (first | assumption | wp_step))
  refine codeAny_mono (code_set_led1 (.ref l) (E := E) (Q₁ := fun v t => v = .ref s.heap.objs.size ∧ t = { s with heap := s.heap.push (new0 w) }) ⟨rfl, rfl⟩) fun r t hr => ?_
  match r, hr with
  | .error e, hr => exact hr
  | .ok (.ret v), hr =>
    obtain ⟨rfl, rfl⟩ := hr
    have h0 : (s.heap.push (new0 w)).get? s.heap.objs.size = some (new0 w) := Heap.get?_push_size _ rfl
    have ty : Shared.TypeIs { s with heap := s.heap.push (new0 w) } (.ref s.heap.objs.size) "set" := ⟨_, h0, rfl⟩
    have il := PySem.F.called_set.init.lookup
    have ib := PySem.F.called_set.init.bind (.ref s.heap.objs.size)
    repeat (any_goals (first | assumption | wp_step))
    refine codeAny_mono (codeAny_call_builtin (R := wants (fun r t => r = .none ∧ ∃ h' tk ys, t = { s with heap := h', toks := tk } ∧ (∀ b o, b < s.heap.objs.size → s.heap.get? b = some o → h'.get? b = some o) ∧ Holds P w h' s.heap.objs.size ys ∧ (∀ x, x ∈ ys ↔ x ∈ xs) ∧ ys.length ≤ xs.length) E)
      PySem.F.called_set.init.plain PySem.F.entry_set_init (check_set_init_1 ty ?_)) fun r2 t2 hr2 => ?_
    · obtain ⟨⟨oc, od, odt, osl⟩, hol, hcl, nl, hdl⟩ := hl
      simp only at hcl hdl
      subst hcl hdl
      have hlt : l < s.heap.objs.size := Heap.lt_size hol
      have il1 : (s.heap.push (new0 w)).IsList l us := ⟨_, Heap.get?_push_of_some _ hol, rfl, nl, rfl⟩
      have ol := Heap.get?_push_of_some (new0 w) hol
      have sb1 := PySem.F.sub_list_set
      have sb2 := PySem.F.sub_list_frozenset
      have nd : (Value.type "list" == Value.type "dict") = false := by decide
      unfold Builtin.«set.__init__» noKeywords Builtin.Frozenset.updateFrom
      generalize hPI : pyIter = PI
      wp_walk
      subst hPI
      refine wpAny_pyIter_list il1 (wpAny_bind (wpAny_runValue ?_))
      have hh3 : A.in1.in1.in1.handled = none := by simp [hh]
      have z1 : (s.heap.push (new0 w)).objs.size = s.heap.objs.size + 1 := Heap.size_push ..
      have ne1 : l ≠ (s.heap.push (new0 w)).objs.size := by rw [z1]; exact Nat.ne_of_lt (Nat.lt_succ_of_lt hlt)
      have out : s.heap.objs.size ∉ [(s.heap.push (new0 w)).objs.size, l] := by
        rw [z1]
        intro h
        rcases List.mem_cons.mp h with h | h
        · exact Nat.ne_of_lt (Nat.lt_succ_self _) h
        · exact Nat.ne_of_gt hlt (List.mem_singleton.mp h)
      refine update_loop ((Walks.list hh3 _ l ne1 us).toS) s.heap.objs.size out xs hsz hb (fun i v hv => strs_get hx i v (by rw [Array.getElem?_toList]; exact hv)) (us.size - 0) 0 _ (by omega) (Nat.zero_le _)
        ⟨⟨_, Heap.get?_push_size _ rfl, rfl, rfl⟩, il1.push _⟩ ⟨[], holds_new (Heap.get?_push_of_some _ h0), Nat.le_refl _, fun x => by simp⟩ fun t ys mv Hy U => ?_
      obtain ⟨h', g', d', tk', os'⟩ := t
      obtain rfl : g' = s.gens := mv.gens
      obtain rfl : d' = s.drawn := mv.drawn
      obtain rfl : os' = s.os := mv.os
      have fin : ∀ b o, b < s.heap.objs.size → s.heap.get? b = some o → h'.get? b = some o := fun b o hb e => ?fin
      case fin =>
        refine mv.heap b o (fun z => ?_) (Heap.get?_push_of_some _ (Heap.get?_push_of_some _ e))
        rcases List.mem_cons.mp z with z | z
        · exact Nat.ne_of_lt hb z
        · have z := List.mem_singleton.mp z
          rw [z1] at z
          exact Nat.ne_of_lt (Nat.lt_succ_of_lt hb) z
      show wpAny _ _ _ _ _ _
      refine wpAny_pure ?_
      show wpAny _ _ (ret Value.none) _ _ _
      exact wpAny_pure ⟨rfl, h', tk', ys, rfl, fin, Hy, fun x => by rw [U.2, ← hsz, List.take_length], by rw [hsz]; exact U.1⟩
    · match r2, hr2 with
      | .error e, hr2 => exact hr2
      | .ok (.ret v2), hr2 =>
        obtain ⟨rfl, h', tk, ys, rfl, k1, k2, k3, k4⟩ := hr2
        repeat (any_goals (first | assumption | wp_step))
        exact q _ _ _ k1 k2 k3 k4
end
end GS
set_option Elab.async false
set_option linter.all false
set_option maxRecDepth 100000
set_option maxHeartbeats 8000000
namespace GS
open PySem PySem.Spec PyProof.Rows L2
open PySem.Froz (SD sObj tailTx addTx TxOk)
section
variable {P : Program} {w : World} {A : Around} {E : Value → Shared → Prop} {s : Shared}
/-- set(xs), xs a tuple of texts -/
theorem call_setT {l : Addr} {us : Array Value} {xs : List Str} {Q : Value → Shared → Prop} (hh : A.handled = none) (hl : s.heap.IsTuple l us) (hx : StrsAre us.toList xs) (hb : us.size + 1 < scanBound)
    (q : ∀ h' tk ys, (∀ b o, b < s.heap.objs.size → s.heap.get? b = some o → h'.get? b = some o) → Holds P w h' s.heap.objs.size ys → (∀ x, x ∈ ys ↔ x ∈ xs) → ys.length ≤ xs.length → Q (.ref s.heap.objs.size) { s with heap := h', toks := tk }) :
    wpAny (model P w) A (call (.type "set") [.ref l]) Q E s := by
  have hsz : xs.length = us.size := by
    have : us.toList.length = xs.length := by
      clear q hb hl
      generalize us.toList = z at hx
      induction hx with
      | nil => rfl
      | cons _ _ _ ih => simp [ih]
    rw [← this, Array.length_toList]
  obtain ⟨c, tl, hmro⟩ := PySem.F.called_set.mro
  have made := PySem.F.called_set.made
  have sub := PySem.F.called_set.sub
  have nt := PySem.F.called_set.notType
  have cc := PySem.F.called_set.canCreate
  have tc := PySem.F.typeCall_set_1 (.ref l)
  refine wpAny_call (codeAny_of_tree (M := model P w) ?_)
  refine wpAny_pure (A := A.in1) ⟨Code.quiet_builtin _ (by decide +kernel), codeAny_builtin PySem.F.entry_type_call ?_⟩
  rw [Around.under_plain (weight_type_call_type "set" [.ref l] []) rfl]
  repeat (any_goals (first | assumption | wp_step))
  refine codeAny_mono (code_set_led1 (.ref l) (E := E) (Q₁ := fun v t => v = .ref s.heap.objs.size ∧ t = { s with heap := s.heap.push (new0 w) }) ⟨rfl, rfl⟩) fun r t hr => ?_
  match r, hr with
  | .error e, hr => exact hr
  | .ok (.ret v), hr =>
    obtain ⟨rfl, rfl⟩ := hr
    have h0 : (s.heap.push (new0 w)).get? s.heap.objs.size = some (new0 w) := Heap.get?_push_size _ rfl
    have ty : Shared.TypeIs { s with heap := s.heap.push (new0 w) } (.ref s.heap.objs.size) "set" := ⟨_, h0, rfl⟩
    have il := PySem.F.called_set.init.lookup
    have ib := PySem.F.called_set.init.bind (.ref s.heap.objs.size)
    repeat (any_goals (first | assumption | wp_step))
    refine codeAny_mono (codeAny_call_builtin (R := wants (fun r t => r = .none ∧ ∃ h' tk ys, t = { s with heap := h', toks := tk } ∧ (∀ b o, b < s.heap.objs.size → s.heap.get? b = some o → h'.get? b = some o) ∧ Holds P w h' s.heap.objs.size ys ∧ (∀ x, x ∈ ys ↔ x ∈ xs) ∧ ys.length ≤ xs.length) E)
      PySem.F.called_set.init.plain PySem.F.entry_set_init (check_set_init_1 ty ?_)) fun r2 t2 hr2 => ?_
    · obtain ⟨⟨oc, od, odt, osl⟩, hol, hcl, nl, hdl⟩ := hl
      simp only at hcl hdl
      subst hcl hdl
      have hlt : l < s.heap.objs.size := Heap.lt_size hol
      have il1 : (s.heap.push (new0 w)).IsTuple l us := ⟨_, Heap.get?_push_of_some _ hol, rfl, nl, rfl⟩
      have ol := Heap.get?_push_of_some (new0 w) hol
      have sb1 := PySem.F.sub_tuple_set
      have sb2 := PySem.F.sub_tuple_frozenset
      have nd : (Value.type "tuple" == Value.type "dict") = false := by decide
      unfold Builtin.«set.__init__» noKeywords Builtin.Frozenset.updateFrom
      generalize hPI : pyIter = PI
      wp_walk
      subst hPI
      refine wpAny_pyIter_tuple il1 (wpAny_bind (wpAny_runValue ?_))
      have hh3 : A.in1.in1.in1.handled = none := by simp [hh]
      have z1 : (s.heap.push (new0 w)).objs.size = s.heap.objs.size + 1 := Heap.size_push ..
      have ne1 : l ≠ (s.heap.push (new0 w)).objs.size := by rw [z1]; exact Nat.ne_of_lt (Nat.lt_succ_of_lt hlt)
      have out : s.heap.objs.size ∉ [(s.heap.push (new0 w)).objs.size, l] := by
        rw [z1]
        intro h
        rcases List.mem_cons.mp h with h | h
        · exact Nat.ne_of_lt (Nat.lt_succ_self _) h
        · exact Nat.ne_of_gt hlt (List.mem_singleton.mp h)
      refine update_loop ((Walks.tuple hh3 _ l ne1 us).toS) s.heap.objs.size out xs hsz hb (fun i v hv => strs_get hx i v (by rw [Array.getElem?_toList]; exact hv)) (us.size - 0) 0 _ (by omega) (Nat.zero_le _)
        ⟨⟨_, Heap.get?_push_size _ rfl, rfl, rfl⟩, il1.push _⟩ ⟨[], holds_new (Heap.get?_push_of_some _ h0), Nat.le_refl _, fun x => by simp⟩ fun t ys mv Hy U => ?_
      obtain ⟨h', g', d', tk', os'⟩ := t
      obtain rfl : g' = s.gens := mv.gens
      obtain rfl : d' = s.drawn := mv.drawn
      obtain rfl : os' = s.os := mv.os
      have fin : ∀ b o, b < s.heap.objs.size → s.heap.get? b = some o → h'.get? b = some o := fun b o hb e => ?fin
      case fin =>
        refine mv.heap b o (fun z => ?_) (Heap.get?_push_of_some _ (Heap.get?_push_of_some _ e))
        rcases List.mem_cons.mp z with z | z
        · exact Nat.ne_of_lt hb z
        · have z := List.mem_singleton.mp z
          rw [z1] at z
          exact Nat.ne_of_lt (Nat.lt_succ_of_lt hb) z
      show wpAny _ _ _ _ _ _
      refine wpAny_pure ?_
      show wpAny _ _ (ret Value.none) _ _ _
      exact wpAny_pure ⟨rfl, h', tk', ys, rfl, fin, Hy, fun x => by rw [U.2, ← hsz, List.take_length], by rw [hsz]; exact U.1⟩
    · match r2, hr2 with
      | .error e, hr2 => exact hr2
      | .ok (.ret v2), hr2 =>
        obtain ⟨rfl, h', tk, ys, rfl, k1, k2, k3, k4⟩ := hr2
        repeat (any_goals (first | assumption | wp_step))
        exact q _ _ _ k1 k2 k3 k4
end
end GS
set_option Elab.async false
set_option linter.all false
set_option maxRecDepth 100000
set_option maxHeartbeats 4000000
/-! lots of texts: in order, each once -/
namespace GS
open PySem PySem.Spec PyProof.Rows
theorem ltc_irr : ∀ a : List Nat, ltCps a a = false
  | [] => rfl
  | x :: a => by simp [ltCps, ltc_irr a]
theorem ltc_tr : ∀ {a b c : List Nat}, ltCps a b = true → ltCps b c = true → ltCps a c = true
  | [], _ :: _, [], _, h => by simp [ltCps] at h
  | [], _, _ :: _, _, _ => rfl
  | [], [], [], h, _ => by simp [ltCps] at h
  | _ :: _, [], _, h, _ => by simp [ltCps] at h
  | _ :: _, _ :: _, [], _, h => by simp [ltCps] at h
  | x :: a, y :: b, z :: c, h1, h2 => by
    simp only [ltCps, Bool.or_eq_true, decide_eq_true_eq, Bool.and_eq_true, beq_iff_eq] at h1 h2 ⊢
    rcases h1 with h1 | ⟨rfl, h1⟩
    · rcases h2 with h2 | ⟨rfl, _⟩
      · exact .inl (Nat.lt_trans h1 h2)
      · exact .inl h1
    · rcases h2 with h2 | ⟨rfl, h2⟩
      · exact .inl h2
      · exact .inr ⟨rfl, ltc_tr h1 h2⟩
theorem ltc_tri : ∀ {a b : List Nat}, ltCps a b = false → ltCps b a = false → a = b
  | [], [], _, _ => rfl
  | [], _ :: _, h, _ => by simp [ltCps] at h
  | _ :: _, [], _, h => by simp [ltCps] at h
  | x :: a, y :: b, h1, h2 => by
    simp only [ltCps, Bool.or_eq_false_iff, decide_eq_false_iff_not, Bool.and_eq_false_iff, beq_eq_false_iff_ne] at h1 h2
    obtain ⟨p1, p2⟩ := h1
    obtain ⟨q1, q2⟩ := h2
    obtain rfl : x = y := by omega
    rcases p2 with p2 | p2
    · exact absurd rfl p2
    · rcases q2 with q2 | q2
      · exact absurd rfl q2
      · rw [ltc_tri p2 q2]
theorem str_ext {x y : Str} (h : x.cps.toList = y.cps.toList) : x = y := by
  cases x; cases y
  simp only [Str.mk.injEq]
  exact Array.ext' h
/-- x stands ahead of y -/
def Lt (x y : Str) : Prop := ltCps x.cps.toList y.cps.toList = true
theorem Lt.irr {x : Str} (h : Lt x x) : False := by unfold Lt at h; rw [ltc_irr] at h; cases h
theorem Lt.tr {x y z : Str} (a : Lt x y) (b : Lt y z) : Lt x z := ltc_tr a b
theorem Lt.tri {x y : Str} (a : ¬ Lt x y) (b : ¬ Lt y x) : x = y := str_ext (ltc_tri (Bool.eq_false_iff.mpr a) (Bool.eq_false_iff.mpr b))
abbrev Asc (xs : List Str) : Prop := xs.Pairwise Lt
theorem Asc.uniq : ∀ {xs ys : List Str}, Asc xs → Asc ys → (∀ z, z ∈ xs ↔ z ∈ ys) → xs = ys
  | [], [], _, _, _ => rfl
  | [], y :: ys, _, _, h => by have := (h y).mpr List.mem_cons_self; simp at this
  | x :: xs, [], _, _, h => by have := (h x).mp List.mem_cons_self; simp at this
  | x :: xs, y :: ys, hx, hy, h => by
    obtain ⟨x1, x2⟩ := List.pairwise_cons.mp hx
    obtain ⟨y1, y2⟩ := List.pairwise_cons.mp hy
    have e : x = y := by
      have a := (h x).mp List.mem_cons_self
      have b := (h y).mpr List.mem_cons_self
      rcases List.mem_cons.mp a with a | a
      · exact a
      · rcases List.mem_cons.mp b with b | b
        · exact b.symm
        · exact ((x1 y b).tr (y1 x a)).irr.elim
    subst e
    rw [Asc.uniq x2 y2 fun z => ?_]
    have hz := h z
    rw [List.mem_cons, List.mem_cons] at hz
    constructor
    · intro m
      rcases hz.mp (.inr m) with q | q
      · subst q; exact (x1 z m).irr.elim
      · exact q
    · intro m
      rcases hz.mpr (.inr m) with q | q
      · subst q; exact (y1 z m).irr.elim
      · exact q
/-- ys is the lot of xs -/
structure IsLot (ys xs : List Str) : Prop where
  asc : Asc ys
  mem : ∀ z, z ∈ ys ↔ z ∈ xs
theorem IsLot.uniq {ys zs xs xs' : List Str} (a : IsLot ys xs) (b : IsLot zs xs') (h : ∀ z, z ∈ xs ↔ z ∈ xs') : ys = zs := Asc.uniq a.asc b.asc fun z => (a.mem z).trans ((h z).trans (b.mem z).symm)
theorem Asc.nodup {xs : List Str} (h : Asc xs) : xs.Nodup := h.imp fun a e => (e ▸ a).irr
/-- sorted, equal ones may stand side by side -/
theorem pw_of_sorted : ∀ {xs : List Str}, sortedS xs = true → xs.Pairwise fun a b => ¬ Lt b a
  | [], _ => .nil
  | x :: xs, h => go x xs h
where go (x : Str) : ∀ (xs : List Str), risingS x xs = true → (x :: xs).Pairwise fun a b => ¬ Lt b a
  | [], _ => List.pairwise_singleton _ _
  | y :: xs, h => by
    have h' : (!ltCps y.cps.toList x.cps.toList && risingS y xs) = true := h
    rw [Bool.and_eq_true, Bool.not_eq_true'] at h'
    have r := go y xs h'.2
    refine List.pairwise_cons.mpr ⟨fun z hz => ?_, r⟩
    have hyx : ¬ Lt y x := by unfold Lt; rw [h'.1]; exact Bool.false_ne_true
    rcases List.mem_cons.mp hz with rfl | hz
    · exact hyx
    · intro c
      have hzy := (List.pairwise_cons.mp r).1 z hz
      by_cases e : Lt x y
      · exact hzy (Lt.tr c e)
      · rw [Lt.tri e hyx] at c; exact hzy c
theorem asc_of : ∀ {xs : List Str}, xs.Pairwise (fun a b => ¬ Lt b a) → xs.Nodup → Asc xs
  | [], _, _ => .nil
  | x :: xs, h, n => by
    obtain ⟨h1, h2⟩ := List.pairwise_cons.mp h
    obtain ⟨n1, n2⟩ := List.nodup_cons.mp n
    refine List.pairwise_cons.mpr ⟨fun y hy => ?_, asc_of h2 n2⟩
    by_cases c : Lt x y
    · exact c
    · exact absurd (Lt.tri c (h1 y hy) ▸ hy) n1
end GS
set_option Elab.async false
set_option linter.all false
set_option maxRecDepth 100000
set_option maxHeartbeats 8000000
namespace GS
open PySem PySem.Spec PyProof.Rows L2
open PySem.Froz (SD sObj tailTx addTx TxOk)
section
variable {P : Program} {w : World} {A : Around} {E : Value → Shared → Prop} {s : Shared}
theorem strs_of : ∀ (us : List Value), (∀ v ∈ us, ∃ k t, v = Value.str k t) → ∃ xs, StrsAre us xs
  | [], _ => ⟨[], .nil⟩
  | v :: us, h => by
    obtain ⟨k, t, rfl⟩ := h v List.mem_cons_self
    obtain ⟨xs, q⟩ := strs_of us fun u hu => h u (List.mem_cons_of_mem _ hu)
    exact ⟨_, .cons k t q⟩
theorem strs_mem : ∀ {us : List Value} {xs : List Str}, StrsAre us xs → ∀ x, x ∈ xs ↔ ∃ t, Value.str x t ∈ us
  | _, _, .nil, x => by simp
  | _, _, .cons n t r, x => by
    rw [List.mem_cons, strs_mem r x]
    constructor
    · rintro (rfl | ⟨t', h⟩)
      · exact ⟨t, List.mem_cons_self⟩
      · exact ⟨t', List.mem_cons_of_mem _ h⟩
    · rintro ⟨t', h⟩
      rcases List.mem_cons.mp h with h | h
      · cases h; exact .inl rfl
      · exact .inr ⟨t', h⟩
theorem strs_len : ∀ {us : List Value} {xs : List Str}, StrsAre us xs → us.length = xs.length
  | _, _, .nil => rfl
  | _, _, .cons n t r => by simp [strs_len r]
theorem perm_of_sub : ∀ {l ss : List Str}, l.Nodup → (∀ x, x ∈ l → x ∈ ss) → ss.length = l.length → ss.Perm l
  | [], ss, _, _, e => by
    have : ss = [] := List.eq_nil_of_length_eq_zero e
    rw [this]
  | x :: l, ss, n, h, e => by
    obtain ⟨n1, n2⟩ := List.nodup_cons.mp n
    have hx := h x List.mem_cons_self
    have p := List.perm_cons_erase hx
    have r := perm_of_sub (ss := ss.erase x) n2 (fun y hy => (List.mem_erase_of_ne (fun z : y = x => n1 (z ▸ hy))).mpr (h y (List.mem_cons_of_mem _ hy))) (by
      have := p.length_eq
      simp only [List.length_cons] at this e
      omega)
    exact p.trans (r.cons x)
/-- sorted(set) -/
theorem sort_set {a : Addr} {l : List Str} {Q : Value → Shared → Prop} (H : Holds P w s.heap a l) (hh : A.handled = none) (hb : l.length < scanBound)
    (q : ∀ s' p (out : Array Value) (c : Nat) ys, (∀ b o, s.heap.get? b = some o → s'.heap.get? b = some o) → s'.gens = s.gens → s'.os = s.os → s.heap.objs.size ≤ p → s'.heap.get? p = some (seqObj "list" out c) → StrsAre out.toList ys → IsLot ys l → ys.length = l.length → Q (.ref p) s') :
    wpAny (model P w) A (call (.builtin "sorted") [.ref a]) Q E s := by
  obtain ⟨⟨xs, n, tb⟩, ho, F, L, nd⟩ := H
  have hsz : xs.size = l.length := F.sz
  refine Calls.call_function_entry kind_sorted plain_sorted entry_sorted (args_sorted1 _) ?_
  unfold Builtin.«sorted»
  refine wpAny_bind (m := checkCount "sorted" 1 1 _) (wpAny_pure (wpAny_bind (collect_set (A := A.in1) hh ⟨_, ho, rfl, rfl⟩ F.fit (by rw [hsz]; exact hb) L.1 L.2 fun s1 vs k1 z1 g1 o1 pm => ?_)))
  have all : ∀ v ∈ vs, ∃ k t, v = Value.str k t := fun v hv => by
    obtain ⟨e, he, rfl⟩ := List.mem_map.mp (pm.mem_iff.mp hv)
    obtain ⟨⟨k, hk, _⟩, _⟩ := F.el e he
    obtain ⟨t, ht⟩ := Value.isStrOf_shape hk
    exact ⟨k, t, ht⟩
  obtain ⟨ss, hss⟩ := strs_of vs all
  have hlen : vs.length = l.length := by rw [pm.length_eq, List.length_map, Array.length_toList, hsz]
  have hmem : ∀ x, x ∈ ss ↔ x ∈ l := fun x => by
    rw [strs_mem hss, F.mem]
    constructor
    · rintro ⟨t, ht⟩
      obtain ⟨e, he, hz⟩ := List.mem_map.mp (pm.mem_iff.mp ht)
      exact ⟨e, he, by rw [hz]; exact Froz.is_str x t⟩
    · rintro ⟨e, he, hz⟩
      obtain ⟨t, ht⟩ := Value.isStrOf_shape (x := x) hz
      exact ⟨t, ht ▸ pm.mem_iff.mpr (List.mem_map_of_mem he)⟩
  have hle : ss.length = l.length := (strs_len hss).symm.trans hlen
  have snd : ss.Nodup := (perm_of_sub nd (fun x hx => (hmem x).mpr hx) hle).nodup_iff.mpr nd
  have fits : vs.length ≤ sizeLine := by rw [hlen]; exact fits_of_scanBound hb
  refine wpAny_bind (wpAny_newList ?_ fits)
  have hoL : (s1.heap.push (seqObj "list" vs.toArray 0)).get? s1.heap.objs.size = some (seqObj "list" vs.toArray 0) := Heap.get?_push_size _ rfl
  refine wpAny_bind (wpAny_holding (wpAny_call_entry slot_list_sort ⟨_, hoL, rfl⟩ entry_list_sort (list_sort_treeKAny strKind_oneLt hoL hss.keysOf (fun v₁ v₂ rest e => keyKind_strs (by rw [← e]; exact hss)) fits fun st' b1 b2 => ⟨_, rfl, ?_⟩) (args_list_sort _)))
  obtain ⟨ys, y1, y2, y3⟩ := sorted_out_str hss b1 b2
  obtain ⟨c, hc⟩ := sortedHeap_at (vs := vs) (out := (arrOf st').map (·.2)) hoL
  refine wpAny_pure ⟨_, rfl, q _ s1.heap.objs.size _ c ys (fun b u e => ?_) g1 o1 z1 hc y1 ⟨asc_of (pw_of_sorted y3) (y2.nodup_iff.mpr snd), fun x => (y2.mem_iff).trans (hmem x)⟩ (y2.length_eq.trans hle)⟩
  have e1 := k1 b u e
  have lt := Heap.lt_size e1
  show (sortedHeap (s1.heap.push (seqObj "list" vs.toArray 0)) s1.heap.objs.size vs ((arrOf st').map (·.2))).get? b = some u
  rw [sortedHeap_old (Nat.ne_of_lt lt) (by rw [size_push']; exact Nat.lt_succ_of_lt lt)]
  exact Heap.get?_push_of_some _ e1
end
section
variable {X : Cx}
def SetHO (P : Program) (w : World) (a : Addr) (l : List Str) : HO := .ext fun h => Holds P w h a l
/-- set(xs) -/
def rSet (X : Cx) : List V → Hp → VK → Prop := fun vs H Q => ∃ (p : Addr) (xs : List Str), vs = [.ref p] ∧ (SqL X.K H p (xs.map V.str) ∨ SqT X.K H p (xs.map V.str)) ∧ xs.length + 1 < scanBound ∧
  ∀ a l, H a = none → (∀ x, x ∈ l ↔ x ∈ xs) → l.length ≤ xs.length → l.Nodup → Q (.ref a) (upd H a (SetHO X.prog X.w a l))
theorem cr_set (hc : X.calm = true) : CallR X (.type "set") (rSet X) := by
  intro pins s σ H vs us Q I r h
  obtain ⟨p, xs, rfl, hs, hb, q⟩ := h
  have fin : ∀ h' tk ys, (∀ b o, b < s.heap.objs.size → s.heap.get? b = some o → h'.get? b = some o) → Holds X.prog X.w h' s.heap.objs.size ys → (∀ x, x ∈ ys ↔ x ∈ xs) → ys.length ≤ xs.length → EP X pins σ Q (.ref s.heap.objs.size) { s with heap := h', toks := tk } := fun h' tk ys k Hy m1 m2 => by
    have new : ObjOk X.prog X.w (upd H s.heap.objs.size (SetHO X.prog X.w s.heap.objs.size ys)) h' s.heap.objs.size (SetHO X.prog X.w s.heap.objs.size ys) := by
      obtain ⟨D, e, r⟩ := Hy
      exact ⟨⟨D, e, r⟩, ⟨_, e⟩, fun h1 h2 a b => Holds.stay a b⟩
    exact ⟨.ref _, _, I.laid (t' := tk) (fun b u e => k b u (Heap.lt_size e) e) (Nat.le_refl _) new, rfl, q _ _ (I.hok.fresh (Nat.le_refl _)) m1 m2 (by obtain ⟨D, _, _, _, nd⟩ := Hy; exact nd)⟩
  rw [Vals.ref1 r]
  rcases hs with hs | hs
  · obtain ⟨its, rv, hl, _⟩ := I.list hs
    have hlen := rv.length
    rw [List.length_map] at hlen
    exact call_set (I.ok.hd hc) hl.isList (by simpa using rv.strs) (by rw [List.size_toArray, ← hlen]; exact hb) fin
  · obtain ⟨its, rv, hl, _⟩ := I.tuple hs
    have hlen := rv.length
    rw [List.length_map] at hlen
    exact call_setT (I.ok.hd hc) hl (by simpa using rv.strs) (by rw [List.size_toArray, ← hlen]; exact hb) fin
/-- sorted(set) -/
def rSortSet (X : Cx) : List V → Hp → VK → Prop := fun vs H Q => ∃ (a : Addr) (l : List Str), vs = [V.ref a] ∧ H a = some (SetHO X.prog X.w a l) ∧ l.length < scanBound ∧
  ∀ ys p, IsLot ys l → ys.length = l.length → H p = none → Q (.ref p) (upd H p (.lst (ys.map V.str)))
theorem cr_sortSet (hc : X.calm = true) : CallR X (.builtin "sorted") (rSortSet X) := by
  intro pins s σ H vs us Q I r h
  obtain ⟨a, l, rfl, ha, hb, q⟩ := h
  have Hl : Holds X.prog X.w s.heap a l := (I.hok a _ ha).1
  rw [Vals.ref1 r]
  refine sort_set Hl (I.ok.hd hc) hb fun s' p out c ys k g o hp hg hi hs hl => ?_
  have hlen : (ys.map V.str).length ≤ sizeLine := by rw [List.length_map, hl]; exact fits_of_scanBound hb
  have hn : H p = none := I.hok.fresh hp
  have J : Inv X pins σ (upd H p (.lst (ys.map V.str))) { s with heap := s'.heap, gens := s'.gens, drawn := s'.drawn, toks := s'.toks } :=
    I.call (ch := []) (Un.laid k hp hn) (I.hok.laid k hp ⟨hlen, out.toList, c, vals_of_strs hi, hg⟩) (by rw [g]; exact I.bare) (fun _ z => nomatch z)
  have e : s' = { s with heap := s'.heap, gens := s'.gens, drawn := s'.drawn, toks := s'.toks } := by
    cases s'; cases s; cases o; rfl
  rw [e]
  exact ⟨.ref p, _, J, rfl, q ys p hs hl hn⟩
end
end GS
namespace G
open PySem L2
section
variable {Z : Wd} {δ : List S} {te : TE} {Ω : OD → List S → Prop} {X : Cx}
/-- sorted(set(xs)) -/
theorem xo_lot (hK : X.K = Z.K) (h : XE Z te δ fun d δ1 => ∃ xs : List Str, (d = .lst (xs.map .str) ∨ d = .tup (xs.map .str)) ∧ xs.length < 4000 ∧ ∀ ys, GS.IsLot ys xs → ys.length ≤ xs.length → Ω (.lst (ys.map .str)) δ1) :
    XO Z (tCB (GS.rSortSet X) (tCons (tCB (GS.rSet X) (tCons te tNil)) tNil)) δ Ω := XO.mk fun B W M H σ Q I q =>
  h.run I fun M1 H1 δ1 x a h1 e1 I1 at1 => by
    obtain ⟨xs, hd, hx, f⟩ := h1
    have sq : ∃ p, x = .ref p ∧ (SqL X.K H1 p (xs.map V.str) ∨ SqT X.K H1 p (xs.map V.str)) := by
      rcases hd with rfl | rfl
      · cases at1 with
        | lst k l c =>
          have := AtL.strs (Z := Z) (M := M1) ⟨l, c⟩
          subst this
          exact ⟨_, rfl, .inl (SqL.of (I1.ex _ _ k))⟩
      · cases at1 with
        | tup k l c =>
          have := AtL.strs (Z := Z) (M := M1) ⟨l, c⟩
          subst this
          exact ⟨_, rfl, .inr (hK ▸ sqT_mono I1.ex k)⟩
    obtain ⟨p, rfl, sq⟩ := sq
    refine ⟨p, xs, rfl, sq, Nat.lt_of_le_of_lt (Nat.succ_le_of_lt hx) (by decide), fun a l1 ha m1 m2 _ => ?_⟩
    have hm := I1.ex.free ha
    have I2 : I3 Z B W M1 (upd H1 a (GS.SetHO X.prog X.w a l1)) σ δ1 := I1.other (I1.fresh ha) hm (I1.newOwn ha)
    refine ⟨a, l1, rfl, upd_same, Nat.lt_of_le_of_lt (Nat.le_trans m2 (Nat.le_of_lt hx)) (by decide), fun ys p hy hl hp => ?_⟩
    exact newO (o := .lst _) (y := .lst _) I2 hp (AtL.ofStrs ys) (f ys ⟨hy.asc, fun z => (hy.mem z).trans (m1 z)⟩ (by omega)) e1 q
end
end G
set_option Elab.async false
set_option linter.all false
set_option maxRecDepth 100000
set_option maxHeartbeats 4000000
/-! enumerate of a tuple -/
namespace GE
open PySem PySem.Spec PyProof.Rows L2
theorem new_enum {v : Value} {o : Obj} {C : Heap → Prop} (B : Begins v o C) : Meets (Builtin.«enumerate.__new__» ⟨[.type "enumerate", v], []⟩) (fun _ R s => C s.heap ∧
    R (.ok (.ret (.ref (s.heap.push o).objs.size))) { s with heap := (s.heap.push o).push { cls := .type "enumerate", data := .fields #[.none, .bool false, .ref s.heap.objs.size, rawInt 0, .none, .none] } }) :=
  .of_wp fun prog w A R s h => by
    obtain ⟨hp, g, d, tk, os⟩ := s
    obtain ⟨c0, fin⟩ := h
    have sube := sub_enumerate
    have start : ∀ {A' : Around} {E Q : Value → Shared → Prop}, Q (.ref hp.objs.size) ⟨hp.push o, g, d, tk, os⟩ → wpAny (model prog w) A' (pyIter v) Q E ⟨hp, g, d, tk, os⟩ := fun q => B.iter prog w _ _ ⟨hp, g, d, tk, os⟩ _ c0 q
    wp_walk using start
    refine wpAny_stack_any fun st => wpAny_pure ?_
    split
    · rename_i c _ _ _ _ _
      cases (c == Value.type "enumerate") <;> (wp_walk using start; exact ⟨_, rfl, fin⟩)
    · wp_walk using start
      exact ⟨_, rfl, fin⟩
section
variable {prog : Program} {w : World} {A : Around} {E : Value → Shared → Prop} {s : Shared}
theorem call_enum {v : Value} {o : Obj} {C : Heap → Prop} {Q : Value → Shared → Prop} (B : Begins v o C) (c0 : C s.heap)
    (h : ∀ h', IsEnum h' (s.heap.objs.size + 1) s.heap.objs.size 0 .none → h'.get? s.heap.objs.size = some o → (∀ b u, s.heap.get? b = some u → h'.get? b = some u) → Q (.ref (s.heap.objs.size + 1)) { s with heap := h' }) :
    wpAny (model prog w) A (call (.type "enumerate") [v]) Q E s := by
  refine callType_new F.called_enumerate (by decide) (F.typeCall_enumerate_1 v) (F.newCall_enumerate_1 v) (fun x => F.args_object_init_2 x v) F.entry_enumerate_new (new_enum B) ⟨c0, ?_⟩
  have z : (s.heap.push o).objs.size = s.heap.objs.size + 1 := Heap.size_push ..
  have e : IsEnum ((s.heap.push o).push { cls := .type "enumerate", data := .fields #[.none, .bool false, .ref s.heap.objs.size, rawInt 0, .none, .none] }) (s.heap.objs.size + 1) s.heap.objs.size 0 .none := by
    have q := Heap.get?_push_size (s.heap.push o) (o := { cls := .type "enumerate", data := .fields #[.none, .bool false, .ref s.heap.objs.size, rawInt 0, .none, .none] }) rfl
    rwa [z] at q
  show _ ∧ _
  rw [z]
  exact ⟨⟨_, e, rfl⟩, h _ e (Heap.get?_push_of_some _ (Heap.get?_push_size _ B.free)) fun b u x => Heap.get?_push_of_some _ (Heap.get?_push_of_some _ x)⟩
end
/-- the tuple at a, each item in a new pair -/
def ItE (K : PySem.W.Frag) (a : Addr) : It :=
  ⟨fun i H => ∃ (xs : List V) (x : V), SqT K H a xs ∧ xs[i]? = some x, fun i H v H' => ∃ T x, v = .ref T ∧ H T = none ∧ H' = upd H T (.tup [.int (i : Nat), x]) ∧ ∀ xs, SqT K H a xs → xs[i]? = some x, fun i H => ∃ xs : List V, SqT K H a xs ∧ xs.length ≤ i⟩
theorem turnE {P : Program} {w : World} {K : PySem.W.Frag} {elts : List Expr} {kk : Nat} {tpos : Pos} (a e it : Addr) (hai : a ≠ it) (hea : e ≠ a) :
    Turn P w K (.Tuple elts kk tpos) (ItE K a) [e, it] e (fun i h => (∃ old, IsEnum h e it ((i : Nat) : Int) old) ∧ h.IsTupleIter it a i ∧ e ≠ it) where
  mem := by simp
  obj := fun i h st b hb => by
    obtain ⟨⟨old, he⟩, ⟨o, ho, hc, hd⟩, _⟩ := st
    have hb : b = e ∨ b = it := by simpa using hb
    rcases hb with rfl | rfl
    · exact ⟨_, he, fun v q => nomatch q⟩
    · exact ⟨o, ho, fun v q => by rw [hd] at q; cases q⟩
  keep := fun i h h' st k => let ⟨⟨old, he⟩, hi, hne⟩ := st; ⟨⟨old, k e (by simp) _ he⟩, hi.at fun o q => k it (by simp) o q, hne⟩
  item := by
    intro X hP hw hK hc i pins s σ H E I hf st hg
    subst hP hw hK
    obtain ⟨⟨old, he⟩, hit, hne⟩ := st
    obtain ⟨xs, x, hq, hx⟩ := hg
    obtain ⟨its, rv, p, hz⟩ := I.tuple hq
    obtain ⟨u, hu, ru⟩ := rv.get hx
    have elt : e < s.heap.objs.size := Heap.lt_size he
    have ilt : it < s.heap.objs.size := let ⟨_, q, _⟩ := hit; Heap.lt_size q
    have hlt : i < its.toArray.size := by simpa using (List.getElem?_eq_some_iff.mp hu).1
    refine wpAny_pyNext_enum_itemD (Draws.tuple (by simp [I.ok.hd hc]) it a hai its.toArray) he ⟨hit, p⟩ hlt hne (by simp [hne, hea]) fun y h' tk hy ho st' hT hsz hk => ?_
    obtain rfl : y = u := by
      have : its[i]? = some y := by simpa using hy
      rw [hu] at this; exact (Option.some.inj this).symm
    refine ⟨_, rfl, wpAny_letOwnedTupleGo_enum (s := { s with heap := h', toks := tk + 1 }) ho fun h'' he' sb => ?_⟩
    have hT2 : h''.get? s.heap.objs.size = some { cls := .type "tuple", data := .seq #[.int i tk, y] } := (sb.2 _ (Nat.ne_of_gt elt)).trans hT
    have new : ObjOk X.prog X.w (upd H s.heap.objs.size (.tup [.int (i : Nat), x])) h'' s.heap.objs.size (.tup [.int (i : Nat), x]) :=
      ⟨by show 2 ≤ sizeLine; decide, [.int i tk, y], .cons ⟨_, rfl⟩ (.cons ru .nil), ⟨_, hT2, rfl, _, rfl⟩⟩
    have J : Inv X pins σ (upd H s.heap.objs.size (.tup [.int (i : Nat), x])) { s with heap := h'', toks := tk + 1 } :=
      I.turnedNew (ch := [e, it]) (fun b ob hb q => (sb.2 b (fun z => hb (by simp [z]))).trans (hk b ob (fun z => hb (by simp [z])) (fun z => hb (by simp [z])) q)) hf (Nat.le_refl _) new
    refine ⟨.ref s.heap.objs.size, _, J, rfl, ⟨_, x, rfl, I.hok.fresh (Nat.le_refl _), rfl, fun ys hy => by rw [I.tuple_inj hy hq]; exact hx⟩, ⟨⟨y, ?_⟩, st'.1.at fun o q => (sb.2 it (Ne.symm hne)).trans q, hne⟩, fun b hb => ?_⟩
    · rw [show ((i + 1 : Nat) : Int) = (i : Int) + 1 by omega]; exact he'
    · have blt : b < s.heap.objs.size := by
        have hb : b = e ∨ b = it := by simpa using hb
        rcases hb with z | z
        · rw [z]; exact elt
        · rw [z]; exact ilt
      rw [upd_ne (Nat.ne_of_lt blt)]
      exact (hf b hb).1
  done := by
    intro X hP hw hK hc i pins s σ H E I hf st hg
    subst hP hw hK
    obtain ⟨⟨old, he⟩, hit, hne⟩ := st
    obtain ⟨xs, hq, hx⟩ := hg
    obtain ⟨its, rv, p, hz⟩ := I.tuple hq
    obtain ⟨f0, f1, f2, f3, f4, f5⟩ := hf it (by simp)
    have len := rv.length
    have gone : its.toArray[i]? = none := by simp; omega
    have hh : X.A.in1.handled = none := by simp [I.ok.hd hc]
    have D : Draws X.prog X.w X.A.in1 it [it, a] 0 (fun _ _ => True) (fun _ h => h.IsTupleIter it a i ∧ h.IsTuple a its.toArray) := {
      live := fun _ _ st => let ⟨o, ho, _⟩ := st.1; ⟨o, ho⟩
      frame := fun _ _ _ st k => ⟨st.1.at fun o q => k it (by simp) o q, st.2.at fun o q => k a (by simp) o q⟩
      item := fun j s Q E hj => absurd hj (Nat.not_lt_zero j)
      done := fun s Q E st q => wpAny_nextOf_tuple_end hh st.1 st.2 gone q }
    exact wpAny_pyNext_enum_endD D he ⟨hit, p⟩ fun h' eb => ⟨rfl, I.turned (t' := s.toks) (fun b o hb q => eb b o hb q) f0 f1 f3 f4 f5⟩
  self := fun A i s Q E st h => let ⟨⟨_, he⟩, _⟩ := st; wpAny_pyIter_enum he h
def iEnumT (K : PySem.W.Frag) (ta : TA) : TI := fun σ H R => ta σ H fun vs H1 => ∃ a xs, vs = [.ref a] ∧ SqT K H1 a xs ∧ R (ItE K a) H1
theorem pi_enumT {X : Cx} {e : Expr} {ta : TA} {p pos tpos : Pos} {elts : List Expr} {kk : Nat} (hg : Gl X "enumerate") (hm : X.mg "enumerate" = none) (ha : PA X [e] ta) (hs : starEach [e] X.env = [(false, eval e X.env)] := by rfl) :
    PI X (.Tuple elts kk tpos) (.Call (.Name "enumerate" p) [e] [] pos) (iEnumT X.K ta) := by
  refine ⟨fun pins s σ H R I h => Call_ (ld_blt I hg hm boot_enumerate (PyProof.Rows.callWith_type1 (thn (ha.run pos pins s σ H _ I h) fun us s1 ⟨vs, H1, I1, r1, q1⟩ => ?_) hs rfl))⟩
  obtain ⟨a, xs, rfl, hq, q⟩ := q1
  obtain ⟨u, rfl, r⟩ := vals1 r1
  cases r
  obtain ⟨its, rv, p', hz⟩ := I1.tuple hq
  have alt : a < s1.heap.objs.size := let ⟨_, q, _⟩ := p'; Heap.lt_size q
  refine call_enum (begins_tuple a its.toArray) p' fun h' he hit hk => wpAny_pyIter_enum he ?_
  have I2 : Inv X pins σ H1 { s1 with heap := h' } := I1.kept (t' := s1.toks) hk
  refine ⟨s1.heap.objs.size + 1, [s1.heap.objs.size + 1, s1.heap.objs.size], _, _, H1, rfl, I2, turnE a (s1.heap.objs.size + 1) s1.heap.objs.size (Nat.ne_of_lt alt) (Nat.ne_of_gt (Nat.lt_succ_of_lt alt)), ⟨⟨.none, he⟩, ⟨_, hit, rfl, rfl⟩, Nat.succ_ne_self _⟩, fun b hb => ?_, q⟩
  have hle : s1.heap.objs.size ≤ b := by
    have hb : b = s1.heap.objs.size + 1 ∨ b = s1.heap.objs.size := by simpa using hb
    rcases hb with z | z
    · rw [z]; exact Nat.le_succ _
    · rw [z]; exact Nat.le_refl _
  exact I1.fpOk hle (I1.hok.fresh hle)
end GE
namespace G
open PySem L2
section
variable {Z : Wd} {M H M' H' : Hp} {B : Bas} {W : List (Nat × Addr)} {σ σ' : St} {δ : List S} {te : TE} {Λ : List D → List S → Prop}
theorem xi_enumT (h : XE Z te δ fun d δ1 => ∃ xs, d = .tup xs ∧ Λ (enumD xs) δ1) : XI Z (GE.iEnumT Z.K (tCons te tNil)) δ Λ := fun B W M H σ R I q =>
  h.run I fun M1 H1 δ1 x a h1 e1 I1 at1 => by
    obtain ⟨xs, rfl, f⟩ := h1
    cases at1 with
    | tup k l c =>
      rename_i p us
      refine ⟨p, us, rfl, sqT_mono I1.ex k, q M1 H1 δ1 _ _ f e1 I1 ⟨fun i H hi e => ?_, fun H e => ?_, fun i H x H' M2 hi ea eb y => ?_⟩⟩
      · rw [enumD_len] at hi
        exact ⟨us, us[i]'(by rw [l]; exact hi), sqT_mono e k, by simp [l, hi]⟩
      · exact ⟨us, sqT_mono e k, by rw [enumD_len, l]; exact Nat.le_refl _⟩
      · obtain ⟨T, z, h1, h2, h3, h4⟩ := y
        have hz := h4 us (sqT_mono (ea.tr eb) k)
        obtain ⟨d, hd, ad⟩ := AtL.getV (Z := Z) (M := M1) ⟨l, c⟩ hz
        refine ⟨_, ?_, .inr ⟨T, _, [.int (i : Nat), d], h2, h3, h1, .cons .int (.one (ad.mono ea)), rfl⟩⟩
        simp only [enumD, List.getElem?_map, List.getElem?_zipIdx, hd]; simp
/-- a walk in one of two ways -/
theorem pi_or {X : Cx} {tg e : Expr} {w1 w2 : TI} (a : PI X tg e w1) (b : PI X tg e w2) : PI X tg e (fun σ H R => w1 σ H R ∨ w2 σ H R) :=
  ⟨fun pins s σ H R I h => h.elim (a.run pins s σ H R I) (b.run pins s σ H R I)⟩
theorem xi_l {w1 w2 : TI} (h : XI Z w1 δ Λ) : XI Z (fun σ H R => w1 σ H R ∨ w2 σ H R) δ Λ := fun B W M H σ R I q => .inl (h B W M H σ R I q)
theorem xi_r {w1 w2 : TI} (h : XI Z w2 δ Λ) : XI Z (fun σ H R => w1 σ H R ∨ w2 σ H R) δ Λ := fun B W M H σ R I q => .inr (h B W M H σ R I q)
end
end G
set_option Elab.async false
set_option linter.all false
set_option maxRecDepth 100000
set_option maxHeartbeats 4000000
namespace G
open PySem L2
section
variable {Z : Wd} {M H M' H' : Hp} {B : Bas} {W : List (Nat × Addr)} {σ σ' : St} {δ : List S}
variable {te ta tb tc tv : TE} {tt t u : TT} {Φ : D → List S → Prop} {Ψ : S → List S → Prop} {Ω : OD → List S → Prop} {Λ : List D → List S → Prop} {ts : TA}
variable {bs vs : List Nat} {P : Po}
/-! ### isinstance -/
def tyD : D → Option String
  | .non => some "NoneType" | .bl _ => some "bool" | .int _ => some "int" | .str _ => some "str" | .lst _ => some "list" | .tup _ => some "tuple"
  | _ => none
theorem At.tyx {v : V} {d : D} {n : String} (a : At Z M v d) (e : Ex M H) (h : tyD d = some n) : TyX Z.K H v (.type n) := by
  cases a with
  | non => cases h; exact .base .non
  | bl => cases h; exact .base (.bl _)
  | int => cases h; exact .base (.int _)
  | str => cases h; exact .base (.str _)
  | lst k l c => cases h; exact .base (.lst (e _ _ k))
  | tup k l c =>
    cases h
    rcases sqT_mono e k with k | ⟨o, its, n, k1, k2, _⟩
    · rcases k with k | ⟨o, k⟩
      · exact .base (.tup k)
      · exact .fTuple k
    · exact .kTuple k1 k2
  | _ => cases h
theorem xe_isi {m : String} (h : XE Z te δ fun d δ1 => ∃ n b, tyD d = some n ∧ kitB n m = some b ∧ Φ (.bl b) δ1) : XE Z (tCB (rIsi Z.K) (tCons te (tCons (tC (.ty m)) tNil))) δ Φ := XE.mk fun B W M H σ Q I q =>
  h.run I fun M1 H1 δ1 x a h1 e1 I1 at1 => by
    obtain ⟨n, b, e, k, f⟩ := h1
    exact ⟨x, .ty m, .type n, .type m, b, rfl, .ty m, at1.tyx I1.ex e, kit_ty k, q M1 H1 δ1 _ _ f e1 I1 .bl⟩
theorem kit_seq {K : PySem.W.Frag} {n : String} (h : n ∈ ["NoneType", "bool", "int", "str", "list", "tuple"]) : PySem.W.kitAny K (.type n) [.type "list", .type "tuple"] = some (n == "list" || n == "tuple") := by
  have two : ∀ {x y : Bool}, kitB n "list" = some x → kitB n "tuple" = some y → PySem.W.kitAny K (.type n) [.type "list", .type "tuple"] = some (x || y) := fun {x y} h1 h2 => by
    have h1 : PySem.W.kitOne K (.type n) (.type "list") = some x := kit_ty h1
    have h2 : PySem.W.kitOne K (.type n) (.type "tuple") = some y := kit_ty h2
    unfold PySem.W.kitAny
    rw [h1]
    cases x with
    | true => rfl
    | false =>
      show PySem.W.kitAny K (.type n) [.type "tuple"] = _
      unfold PySem.W.kitAny
      rw [h2]
      cases y <;> rfl
  simp only [List.mem_cons, List.not_mem_nil, or_false] at h
  rcases h with rfl | rfl | rfl | rfl | rfl | rfl
  · exact two (x := false) (y := false) (by decide +kernel) (by decide +kernel)
  · exact two (x := false) (y := false) (by decide +kernel) (by decide +kernel)
  · exact two (x := false) (y := false) (by decide +kernel) (by decide +kernel)
  · exact two (x := false) (y := false) (by decide +kernel) (by decide +kernel)
  · exact two (x := true) (y := false) (by decide +kernel) (by decide +kernel)
  · exact two (x := false) (y := true) (by decide +kernel) (by decide +kernel)
theorem xe_isiSeq (h : XE Z te δ fun d δ1 => ∃ n, tyD d = some n ∧ Φ (.bl (n == "list" || n == "tuple")) δ1) : XE Z (tCB (rIsiT Z.K) (tCons te (tCons (tTup (tCons (tC (.ty "list")) (tCons (tC (.ty "tuple")) tNil))) tNil))) δ Φ := XE.mk fun B W M H σ Q I q =>
  h.run I fun M1 H1 δ1 x a h1 e1 I1 at1 => by
    obtain ⟨n, e, f⟩ := h1
    have hn : n ∈ ["NoneType", "bool", "int", "str", "list", "tuple"] := by
      cases a <;> first | cases e | skip
      all_goals decide
    refine ⟨by show 2 ≤ sizeLine; decide, fun p hp => ?_⟩
    refine ⟨x, p, [.ty "list", .ty "tuple"], .type n, [.type "list", .type "tuple"], _, rfl, upd_same, .cons (.ty _) (.cons (.ty _) .nil), at1.tyx (I1.ex.tr (Ex.new hp)) e, kit_seq hn, ?_⟩
    exact q M1 _ δ1 _ _ f e1 (I1.other (I1.fresh hp) (I1.ex.free hp) (I1.newOwn hp)) .bl
theorem xe_isiC {C : Addr} (h : XE Z te δ fun d δ1 => ∃ c ds, d = .obj c ds ∧ (Z.cl c).C = C ∧ Φ (.bl true) δ1) : XE Z (tCB (fun xs H Q => ∃ a dx fs, xs = [.ref a, .ref C] ∧ H a = some (.ins C dx fs) ∧ Q (.bl true) H) (tCons te (tCons (tC (.ref C)) tNil))) δ Φ := XE.mk fun B W M H σ Q I q =>
  h.run I fun M1 H1 δ1 x a h1 e1 I1 at1 => by
    obtain ⟨c, ds, rfl, hC, f⟩ := h1
    subst hC
    cases at1 with
    | obj k l l2 c => exact ⟨_, _, _, rfl, I1.ex _ _ k, q M1 H1 δ1 _ _ f e1 I1 .bl⟩
/-! ### a < b < c -/
theorem xe_chain {g g' : Int → Int → Bool} (h : XE Z ta δ fun a δ1 => XE Z tb δ1 fun b δ2 => ∃ i j, a = .int i ∧ b = .int j ∧ if g i j = true then XE Z tc δ2 (fun c δ3 => ∃ k, c = .int k ∧ Φ (.bl (g' j k)) δ3) else Φ (.bl false) δ2) :
    XE Z (tChain (rI0 fun i j => .bl (g i j)) (rI0 fun i j => .bl (g' i j)) ta tb tc) δ Φ := XE.mk fun B W M H σ Q I q =>
  h.run I fun M1 H1 δ1 x a h1 e1 I1 at1 => XE.run h1 I1 fun M2 H2 δ2 y b h2 e2 I2 at2 => by
    obtain ⟨i, j, rfl, rfl, f⟩ := h2
    cases at1; cases at2
    refine ⟨i, j, rfl, rfl, g i j, rfl, ?_⟩
    cases e : g i j with
    | true =>
      rw [e, if_pos rfl] at f
      rw [if_pos rfl]
      exact XE.run f I2 fun M3 H3 δ3 z c h3 e3 I3' at3 => by
        obtain ⟨k, rfl, f⟩ := h3
        cases at3
        exact ⟨j, k, rfl, rfl, q M3 H3 δ3 _ _ f (e1.tr (e2.tr e3)) I3' .bl⟩
    | false =>
      rw [e, if_neg Bool.false_ne_true] at f
      rw [if_neg Bool.false_ne_true]
      exact q M2 H2 δ2 _ _ f (e1.tr e2) I2 .bl
/-! ### an own list compared -/
/-- equal texts in a row -/
theorem eqv_strs : ∀ (xs ys : List Str), PyData.eqvAll (pyL (xs.map .str)) (pyL (ys.map .str)) = decide (xs = ys)
  | [], [] => rfl
  | [], y :: ys => by simp [pyL, PyData.eqvAll]
  | x :: xs, [] => by simp [pyL, PyData.eqvAll]
  | x :: xs, y :: ys => by
    show (PyData.eqv (.str x) (.str y) && PyData.eqvAll (pyL (xs.map .str)) (pyL (ys.map .str))) = _
    rw [eqv_strs xs ys, show PyData.eqv (.str x) (.str y) = (x == y) from by simp [PyData.eqv]]
    rw [Bool.eq_iff_iff]
    simp
theorem pla_strs : ∀ (xs : List Str), plaL (xs.map .str) = true
  | [] => rfl
  | x :: xs => by show (true && plaL (xs.map .str)) = true; rw [pla_strs xs]; rfl
end
end G
set_option Elab.async false
set_option linter.all false
set_option maxRecDepth 100000
set_option maxHeartbeats 4000000
namespace G
open PySem L2
section
variable {Z : Wd} {M H M' H' : Hp} {B : Bas} {W : List (Nat × Addr)} {σ σ' : St} {δ : List S}
variable {te ta tb tc tv : TE} {tt tt1 t u : TT} {Φ : D → List S → Prop} {Ψ : S → List S → Prop} {Ω : OD → List S → Prop} {Λ : List D → List S → Prop} {ts : TA}
variable {bs vs vs1 : List Nat} {P : Po}
/-- a turn of a comprehension: from where it starts, and back -/
theorem I3.turn {A : Addr} {av : List V} (I : I3 Z B W M H σ δ) (hA : H A = some (.lst av)) (hAm : M A = none) (hAo : ∀ j, ¬ Own σ δ j A) (hno : ∀ v ∈ vs, δ[v]? = some .no) :
    ∃ W2 : List (Nat × Addr), (∀ v ∈ vs, v ∉ W2.map (·.1)) ∧ I3 Z ⟨H, M⟩ W2 M H (wipe σ vs) δ ∧ ∀ M4 H4 σ4 δ4, Ex M M4 → (∀ j, j ∉ vs → σ4[j]? = (wipe σ vs)[j]?) → σ4.length = (wipe σ vs).length → I3 Z ⟨H, M⟩ W2 M4 H4 σ4 δ4 →
      (I3 Z B W M4 H4 σ (wipeS δ4 vs) ∧ H4 A = some (.lst av) ∧ M4 A = none ∧ (∀ j, ¬ Own σ (wipeS δ4 vs) j A) ∧ ∀ v ∈ vs, (wipeS δ4 vs)[v]? = some .no) ∧ I3 Z B W M4 H4 σ4 δ4 ∧ (∀ j, ¬ Own σ4 δ4 j A) ∧ ∀ v p, v ∈ vs → (v, p) ∉ W := by
  have hvlen : ∀ v ∈ vs, v < δ.length := fun v hv => (List.getElem?_eq_some_iff.mp (hno v hv)).1
  have hWv : ∀ i p, i ∈ vs → (i, p) ∉ W := fun i p hv hw => by
    exact Own.not (hno i hv) hol_no (I.bor i p hw)
  have Iw : I3 Z B W M H (wipe σ vs) δ := I.swap (fun j hj => wipe_out hj) (wipe_length _ _) (fun _ _ => rfl) (fun j hj _ => hno j hj) rfl hWv
  have hbs : ∀ v ∈ vs, v ∉ (owns 0 (wipe σ vs) δ).map (·.1) := fun v hv hm => by
    obtain ⟨⟨i, p⟩, hmem, rfl⟩ := List.mem_map.mp hm
    exact Own.not (hno _ hv) hol_no (mem_owns.mp hmem)
  have ownEq : ∀ i p, (i, p) ∈ owns 0 (wipe σ vs) δ ↔ Own σ δ i p := fun i p => by
    rw [mem_owns]
    constructor
    · intro o
      have hi' : i ∉ vs := fun hv => Own.not (hno i hv) hol_no o
      exact o.same (wipe_out hi').symm rfl
    · intro o
      have hi' : i ∉ vs := fun hv => Own.not (hno i hv) hol_no o
      exact o.same (wipe_out hi') rfl
  refine ⟨_, hbs, Iw.rebase, fun M4 H4 σ4 δ4 e4 k4 l4 J4 => ?_⟩
  have hl4 : δ4.length = δ.length := by rw [← J4.len, l4, wipe_length, I.len]
  have J5 : I3 Z ⟨H, M⟩ (owns 0 (wipe σ vs) δ) M4 H4 σ (wipeS δ4 vs) := J4.swap (vs := vs) (fun j hj => by rw [k4 j hj, wipe_out hj]) (by rw [l4, wipe_length]) (fun j hj => wipeS_out hj) (fun j hj hlt => wipeS_in (by rw [wipeS_len] at hlt; exact hlt) hj) (wipeS_len _) fun i p hv hw => hbs i hv (List.mem_map_of_mem (f := (·.1)) hw)
  obtain ⟨z1, z2, z3⟩ := J5.stays (a := A) hA hAm (fun i hi => hAo i ((ownEq i A).mp hi)) (fun _ e => nomatch e)
  obtain ⟨_, y2, _⟩ := J4.stays (a := A) hA hAm (fun i hi => hAo i ((ownEq i A).mp hi)) (fun _ e => nomatch e)
  exact ⟨⟨I.back ownEq J5, z1, z3, z2, fun v hv => wipeS_in (by rw [hl4]; exact hvlen v hv) hv⟩, I.back ownEq J4, y2, hWv⟩
/-- a comprehension of two clauses -/
theorem xo_lc2 {g g1 : TG} {wi wi1 : TI} (h : XI Z wi δ fun xs δ0 => (∀ v ∈ vs, δ0[v]? = some .no) ∧ (∀ v ∈ vs1, v ∈ vs) ∧ xs.length ≤ 1000 ∧ ∃ J : Nat → List D → List S → Prop, J 0 [] δ0 ∧
      (∀ i d acc δ1 bs, (∀ v ∈ vs, v ∉ bs) → xs[i]? = some d → J i acc δ1 → XG Z vs bs g d δ1 fun δ2 => XT Z tt δ2 fun b δ3 => if b = true then XI Z wi1 δ3 fun zs δ4 => zs.length ≤ 1000 ∧ (∀ v ∈ vs1, δ4[v]? = some .no) ∧ ∃ Jn : Nat → List D → List S → Prop, Jn 0 acc δ4 ∧
        (∀ j e acc δ5 bs, (∀ v ∈ vs1, v ∉ bs) → zs[j]? = some e → Jn j acc δ5 → XG Z vs1 bs g1 e δ5 fun δ6 => XT Z tt1 δ6 fun b δ7 => if b = true then XE Z te δ7 fun y δ8 => Jn (j + 1) (acc ++ [y]) (wipeS δ8 vs1) else Jn (j + 1) acc (wipeS δ7 vs1)) ∧
        ∀ acc δ5, Jn zs.length acc δ5 → J (i + 1) acc (wipeS δ5 vs)
        else J (i + 1) acc (wipeS δ3 vs)) ∧
      ∀ acc δ1, J xs.length acc δ1 → Ω (.lst acc) δ1) : XO Z (tLc2 wi g tt wi1 g1 tt1 te vs vs1) δ Ω := XO.mk fun B W M H σ Q I q =>
  h B W M H σ _ I fun M' H1 δ' J xs f e1 I1 wd A hA => by
    obtain ⟨hno, hsub, hxs, Jv, j0, js, jn⟩ := f
    have hAB := I1.fresh hA
    have hAm := I1.ex.free hA
    refine ⟨fun i m H => m = xs.length - i ∧ i ≤ xs.length ∧ ∃ M'' δ'' acc av, Ex M' M'' ∧ I3 Z B W M'' H σ δ'' ∧ Jv i acc δ'' ∧ H A = some (.lst av) ∧ AtL Z M'' av acc ∧ M'' A = none ∧ (∀ j, ¬ Own σ δ'' j A) ∧ (∀ v ∈ vs, δ''[v]? = some .no) ∧ acc.length ≤ 1000 * i,
      ⟨_, rfl, Nat.zero_le _, M', δ', [], [], Ex.rfl', I1.other hAB hAm (I1.newOwn hA), j0, upd_same, .nil, hAm, I1.newOwn hA, hno, Nat.le_refl _⟩, ?_⟩
    rintro i m Ha ⟨rfl, hi, M'', δ'', acc, av, a, Ia, ja, hA1, al, hAm1, hAo, hno1, hacc⟩
    by_cases lt : i < xs.length
    · refine .inr ⟨wd.go i Ha lt (a.tr Ia.ex), fun Hn => i + 1 ≤ xs.length ∧ ∃ M'' δ'' acc av, Ex M' M'' ∧ I3 Z B W M'' Hn σ δ'' ∧ Jv (i + 1) acc δ'' ∧ Hn A = some (.lst av) ∧ AtL Z M'' av acc ∧ M'' A = none ∧ (∀ j, ¬ Own σ δ'' j A) ∧ (∀ v ∈ vs, δ''[v]? = some .no) ∧ acc.length ≤ 1000 * (i + 1),
        fun H' z => ⟨xs.length - (i + 1), by omega, rfl, z⟩, fun x Hb yl => ?_⟩
      obtain ⟨d, M2, hd, e2, I2, at2, k2, m2⟩ := YD.use (wd.walk.yields i Ha x Hb lt (a.tr Ia.ex) yl) a Ia
      obtain ⟨W2, hbs, Iw, fin⟩ := I2.turn (vs := vs) (k2 _ _ hA1) (m2 _ _ hA1 hAm1) hAo hno1
      refine js i d acc δ'' _ hbs hd ja _ _ M2 Hb (wipe σ vs) x _ rfl Iw at2 fun M3 H3 σ3 δ3 h3 e3 J3 k3 l3 => ⟨(wipe_eq k3 l3).trans (wipe_eq (fun j hj => wipe_out hj) (wipe_length _ _)), ?_⟩
      refine h3 _ _ M3 H3 σ3 _ J3 fun M4 H4 δ4 b h4 e4 J4 => ?_
      cases b with
      | false =>
        rw [if_neg Bool.false_ne_true] at h4 ⊢
        obtain ⟨⟨z1, z2, z3, z4, z5⟩, _⟩ := fin M4 H4 σ3 δ4 (e3.tr e4) k3 l3 J4
        exact ⟨lt, M4, _, _, _, a.tr (e2.tr (e3.tr e4)), z1, h4, z2, al.mono (e2.tr (e3.tr e4)), z3, z4, z5, by omega⟩
      | true =>
        rw [if_pos rfl] at h4 ⊢
        refine h4 _ _ M4 H4 σ3 _ J4 fun M5 H5 δ5 J1 zs h5 e5 J5 wd1 => ?_
        obtain ⟨hzs, hno5, Jn, n0, ns, nn⟩ := h5
        have ex5 : Ex M2 M5 := e3.tr (e4.tr e5)
        obtain ⟨⟨_, y2, y3, _, _⟩, yI, yO, hWv⟩ := fin M5 H5 σ3 δ5 ex5 k3 l3 J5
        refine ⟨fun j m H => m = zs.length - j ∧ j ≤ zs.length ∧ ∃ M6 δ6 acc6 av6, Ex M5 M6 ∧ I3 Z B W M6 H σ3 δ6 ∧ Jn j acc6 δ6 ∧ H A = some (.lst av6) ∧ AtL Z M6 av6 acc6 ∧ M6 A = none ∧ (∀ j, ¬ Own σ3 δ6 j A) ∧ (∀ v ∈ vs1, δ6[v]? = some .no) ∧ acc6.length ≤ 1000 * i + j ∧ δ6.length = δ''.length,
          ⟨_, rfl, Nat.zero_le _, M5, δ5, acc, av, Ex.rfl', yI, n0, y2, al.mono (e2.tr ex5), y3, yO, hno5, by omega, by rw [← yI.len, l3, wipe_length, I2.len]⟩, ?_⟩
        rintro j m Hc ⟨rfl, hj, M6, δ6, acc6, av6, a6, I6, j6, hA6, al6, hAm6, hAo6, hno6, hacc6, hlen6⟩
        by_cases ltj : j < zs.length
        · refine .inr ⟨wd1.go j Hc ltj (a6.tr I6.ex), fun Hn => j + 1 ≤ zs.length ∧ ∃ M6 δ6 acc6 av6, Ex M5 M6 ∧ I3 Z B W M6 Hn σ3 δ6 ∧ Jn (j + 1) acc6 δ6 ∧ Hn A = some (.lst av6) ∧ AtL Z M6 av6 acc6 ∧ M6 A = none ∧ (∀ j, ¬ Own σ3 δ6 j A) ∧ (∀ v ∈ vs1, δ6[v]? = some .no) ∧ acc6.length ≤ 1000 * i + (j + 1) ∧ δ6.length = δ''.length,
            fun H' z => ⟨zs.length - (j + 1), by omega, rfl, z⟩, fun x1 Hd yl1 => ?_⟩
          obtain ⟨d7, M7, hd7, e7, I7, at7, k7, m7⟩ := YD.use (wd1.walk.yields j Hc x1 Hd ltj (a6.tr I6.ex) yl1) a6 I6
          obtain ⟨W7, hbs7, Iw7, fin7⟩ := I7.turn (vs := vs1) (k7 _ _ hA6) (m7 _ _ hA6 hAm6) hAo6 hno6
          refine ns j d7 acc6 δ6 _ hbs7 hd7 j6 _ _ M7 Hd (wipe σ3 vs1) x1 _ rfl Iw7 at7 fun M8 H8 σ8 δ8 h8 e8 J8 k8 l8 => ⟨(wipe_eq k8 l8).trans (wipe_eq (fun j hj => wipe_out hj) (wipe_length _ _)), ?_⟩
          refine h8 _ _ M8 H8 σ8 _ J8 fun M9 H9 δ9 b h9 e9 J9 => ?_
          cases b with
          | false =>
            rw [if_neg Bool.false_ne_true] at h9 ⊢
            obtain ⟨⟨z1, z2, z3, z4, z5⟩, _⟩ := fin7 M9 H9 σ8 δ9 (e8.tr e9) k8 l8 J9
            exact ⟨ltj, M9, _, _, _, a6.tr (e7.tr (e8.tr e9)), z1, h9, z2, al6.mono (e7.tr (e8.tr e9)), z3, z4, z5, by omega, by rw [← z1.len, I7.len, hlen6]⟩
          | true =>
            rw [if_pos rfl] at h9 ⊢
            refine XE.run h9 J9 fun M0 H0 δ0 y' d' h0 e0 J0 at0 => ?_
            have ex0 : Ex M7 M0 := e8.tr (e9.tr e0)
            obtain ⟨⟨z1, z2, z3, z4, z5⟩, _⟩ := fin7 M0 H0 σ8 δ0 ex0 k8 l8 J0
            have hlen : av6.length < sizeLine := by
              have h1 := al6.len
              have h2 : av6.length < 1001001 := by
                have : 1000 * i ≤ 1000 * 1000 := Nat.mul_le_mul_left _ (by omega)
                omega
              exact Nat.lt_of_lt_of_le h2 (by decide)
            exact ⟨av6, z2, hlen, ltj, M0, _, _, _, a6.tr (e7.tr ex0), z1.other hAB z3 z4, h0, upd_same, AtL.app (al6.mono (e7.tr ex0)) (.one at0), z3, z4, z5, by rw [List.length_append, List.length_singleton]; omega, by rw [← z1.len, I7.len, hlen6]⟩
        · obtain rfl : j = zs.length := by omega
          have hvlen : ∀ v ∈ vs, v < δ6.length := fun v hv => by rw [hlen6]; exact (List.getElem?_eq_some_iff.mp (hno1 v hv)).1
          have Jb : I3 Z B W M6 Hc σ (wipeS δ6 vs) := I6.swap (vs := vs) (fun j hj => by rw [k3 j hj, wipe_out hj]) (by rw [l3, wipe_length]) (fun j hj => wipeS_out hj) (fun j hj hlt => wipeS_in (by rw [wipeS_len] at hlt; exact hlt) hj) (wipeS_len _) fun i p hv => hWv i p hv
          refine .inl ⟨wd1.stop Hc (a6.tr I6.ex), lt, M6, wipeS δ6 vs, acc6, av6, a.tr (e2.tr (ex5.tr a6)), Jb, nn _ _ j6, hA6, al6, hAm6, fun j o => ?_, fun v hv => wipeS_in (hvlen v hv) hv, by omega⟩
          have hj' : j ∉ vs := fun hv => Own.not (wipeS_in (hvlen j hv) hv) hol_no o
          exact hAo6 j (o.same (by rw [k3 j hj', wipe_out hj']) (wipeS_out hj').symm)
    · obtain rfl : i = xs.length := by omega
      exact .inl ⟨wd.stop Ha (a.tr Ia.ex), q M'' Ha δ'' A _ _ (jn _ _ ja) (e1.tr a) Ia hA1 al hAm1 hAB hAo⟩
/-! ### int, abs, min, max, str, a power -/
theorem xe_callInt (h : XE Z te δ fun d δ1 => ∃ i, d = .int i ∧ Φ (.int i) δ1) : XE Z (tCB (fun xs H Q => (∃ i, xs = [.int i] ∧ Q (.int i) H) ∨ ∃ k, xs = [.bl k] ∧ Q (.int (if k then 1 else 0)) H) (tCons te tNil)) δ Φ := XE.mk fun B W M H σ Q I q =>
  h.run I fun M1 H1 δ1 x a h1 e1 I1 at1 => by
    obtain ⟨i, rfl, f⟩ := h1
    cases at1
    exact .inl ⟨i, rfl, q M1 H1 δ1 _ _ f e1 I1 .int⟩
theorem xe_callIntB (h : XE Z te δ fun d δ1 => ∃ b, d = .bl b ∧ Φ (.int (if b then 1 else 0)) δ1) : XE Z (tCB (fun xs H Q => (∃ i, xs = [.int i] ∧ Q (.int i) H) ∨ ∃ k, xs = [.bl k] ∧ Q (.int (if k then 1 else 0)) H) (tCons te tNil)) δ Φ := XE.mk fun B W M H σ Q I q =>
  h.run I fun M1 H1 δ1 x a h1 e1 I1 at1 => by
    obtain ⟨i, rfl, f⟩ := h1
    cases at1
    exact .inr ⟨i, rfl, q M1 H1 δ1 _ _ f e1 I1 .int⟩
theorem xe_abs (h : XE Z te δ fun d δ1 => ∃ i : Int, d = .int i ∧ Φ (.int (if i < 0 then -i else i)) δ1) : XE Z (tCB (fun xs H Q => ∃ i : Int, xs = [.int i] ∧ Q (.int (if i < 0 then -i else i)) H) (tCons te tNil)) δ Φ := XE.mk fun B W M H σ Q I q =>
  h.run I fun M1 H1 δ1 x a h1 e1 I1 at1 => by
    obtain ⟨i, rfl, f⟩ := h1
    cases at1
    exact ⟨i, rfl, q M1 H1 δ1 _ _ f e1 I1 .int⟩
theorem xe_max2 (h : XE Z ta δ fun d δ1 => XE Z tb δ1 fun b δ2 => ∃ i j : Int, d = .int i ∧ b = .int j ∧ Φ (.int (if j > i then j else i)) δ2) : XE Z (tCB (fun xs H Q => ∃ i j : Int, xs = [.int i, .int j] ∧ Q (.int (if j > i then j else i)) H) (tCons ta (tCons tb tNil))) δ Φ := XE.mk fun B W M H σ Q I q =>
  h.run I fun M1 H1 δ1 x a h1 e1 I1 at1 => XE.run h1 I1 fun M2 H2 δ2 y b h2 e2 I2 at2 => by
    obtain ⟨i, j, rfl, rfl, f⟩ := h2
    cases at1; cases at2
    exact ⟨i, j, rfl, q M2 H2 δ2 _ _ f (e1.tr e2) I2 .int⟩
theorem xe_min2 (h : XE Z ta δ fun d δ1 => XE Z tb δ1 fun b δ2 => ∃ i j : Int, d = .int i ∧ b = .int j ∧ Φ (.int (if j < i then j else i)) δ2) : XE Z (tCB (fun xs H Q => ∃ i j : Int, xs = [.int i, .int j] ∧ Q (.int (if j < i then j else i)) H) (tCons ta (tCons tb tNil))) δ Φ := XE.mk fun B W M H σ Q I q =>
  h.run I fun M1 H1 δ1 x a h1 e1 I1 at1 => XE.run h1 I1 fun M2 H2 δ2 y b h2 e2 I2 at2 => by
    obtain ⟨i, j, rfl, rfl, f⟩ := h2
    cases at1; cases at2
    exact ⟨i, j, rfl, q M2 H2 δ2 _ _ f (e1.tr e2) I2 .int⟩
theorem xe_strS (h : XE Z te δ fun d δ1 => ∃ s, d = .str s ∧ Φ (.str s) δ1) : XE Z (tCB (fun xs H Q => ∃ a, xs = [.str a] ∧ Q (.str a) H) (tCons te tNil)) δ Φ := XE.mk fun B W M H σ Q I q =>
  h.run I fun M1 H1 δ1 x a h1 e1 I1 at1 => by
    obtain ⟨i, rfl, f⟩ := h1
    cases at1
    exact ⟨i, rfl, q M1 H1 δ1 _ _ f e1 I1 .str⟩
theorem ite_b {b : Bool} {A C : Prop} (h1 : b = true → A) (h2 : b = false → C) : if b = true then A else C := by
  cases b with
  | true => rw [if_pos rfl]; exact h1 rfl
  | false => rw [if_neg Bool.false_ne_true]; exact h2 rfl
theorem xs_item0 {i : Nat} {bs : List Nat} {P : Po} (h : XE Z te δ fun d δ1 => ∃ y, δ1[i]? = some (.own y) ∧ XE Z ta δ1 fun b δ2 => ∃ xs k, δ2[i]? = some (.own (.lst xs)) ∧ b = .int (k : Nat) ∧ k < xs.length ∧ P.N (δ2.set i (.own (.lst (xs.set k d))))) : XS Z bs (tAsg te (gSub (tVar i) ta rSetL)) δ P := fun B W M H σ E hb I e =>
  h.run I fun M1 H1 δ1 x d h1 e1 I1 at1 => by
    obtain ⟨y, hy, h1⟩ := h1
    obtain ⟨o, e0, p, ho, rfl, _⟩ := I1.sl i _ hy
    refine ⟨_, e0, XE.run h1 I1 fun M2 H2 δ2 y b h2 e2 I2 at2 => ?_⟩
    obtain ⟨xs, k, hx, rfl, hk, f⟩ := h2
    cases at2
    obtain ⟨o', e', p', ho', rfl, hp', hy', _⟩ := I2.sl i _ hx
    rw [e0] at e'; cases e'
    obtain ⟨us, rfl, a⟩ := hy'.lstI
    refine ⟨_, us, (k : Int), k, rfl, rfl, hp', ?_, e.nx _ _ _ _ f (e1.tr e2) (I2.write e0 hx (ho := .lst _) (y' := .lst _) (a.set k (at1.mono e2)))⟩
    unfold ixN
    rw [if_pos (by omega), if_pos (by rw [a.len]; omega)]; simp
end
end G
set_option Elab.async false
set_option maxRecDepth 100000
set_option maxHeartbeats 4000000
namespace G
open PySem L2
variable {Z : Wd} {B : Bas} {W : List (Nat × Addr)} {M M' H H' : Hp} {σ σ' : St} {δ δ' : List S} {te ta tb : TE} {Φ : D → List S → Prop} {bs : List Nat} {P : Po}
theorem xe_callIntC {g : Int → Int → Bool} (h : XE Z (tOp (rI0 fun i j => .bl (g i j)) ta tb) δ fun d δ1 => ∃ b, d = .bl b ∧ Φ (.int (if b then 1 else 0)) δ1) : XE Z (tCB (fun xs H Q => (∃ i, xs = [.int i] ∧ Q (.int i) H) ∨ ∃ k, xs = [.bl k] ∧ Q (.int (if k then 1 else 0)) H) (tCons (tOp (rI0 fun i j => .bl (g i j)) ta tb) tNil)) δ Φ := xe_callIntB h
theorem abs_nn (v : Int) : 0 ≤ (if v < 0 then -v else v) := by split <;> omega
theorem joinX {ts : TS} {G : Prop} {α : Type} (ok : α → Prop) (st : α → List S) (f : (∀ c, ok c → XS Z bs ts (st c) P) → G) (h : ∀ c, ok c → XS Z bs ts (st c) P) : G := f h
theorem atI_some {α : Type} {xs : List α} {k : Int} (h0 : 0 ≤ k) (h1 : k < xs.length) : ∃ v, atI xs k = some v := by
  refine ⟨xs[k.toNat]'(by omega), ?_⟩
  have := atI_nat (xs := xs) (j := k.toNat) (v := xs[k.toNat]'(by omega)) (by simp)
  rwa [show ((k.toNat : Nat) : Int) = k by omega] at this
theorem perm_erase {α : Type} : ∀ {l : List α} {k : Nat} (h : k < l.length), ([l[k]] ++ l.eraseIdx k).Perm l
  | x :: l, 0, _ => by simp
  | x :: l, k + 1, h => by
    have := perm_erase (l := l) (k := k) (by simpa using h)
    simp only [List.getElem_cons_succ, List.eraseIdx_cons_succ, List.cons_append, List.nil_append] at this ⊢
    exact (List.Perm.swap _ _ _).trans (this.cons x)
theorem XT.imp {tt : TT} {Θ Θ' : Bool → List S → Prop} (h : XT Z tt δ Θ) (k : ∀ b δ', Θ b δ' → Θ' b δ') : XT Z tt δ Θ' := fun B W M H σ Q I q => h B W M H σ Q I fun M' H' δ' b a => q M' H' δ' b (k _ _ a)
theorem wipe_set {v : Nat} {d : D} (h : δ[v]? = some .no) : wipeS (δ.set v (.d d)) [v] = δ := by
  unfold wipeS wipeS
  rw [List.set_set]
  exact List.ext_getElem? fun j => by
    rw [List.getElem?_set]
    split
    · rename_i e
      subst e
      rw [h]
      have : v < δ.length := by
        rcases Nat.lt_or_ge v δ.length with q | q
        · exact q
        · rw [List.getElem?_eq_none q] at h; cases h
      simp [this]
    · rfl
theorem xe_neg (h : XE Z te δ fun d δ1 => ∃ i, d = .int i ∧ Φ (.int (-i)) δ1) : XE Z (tUn (rU fun i => .int (-i)) te) δ Φ := XE.mk fun B W M H σ Q I q =>
  h.run I fun M1 H1 δ1 x a h1 e1 I1 at1 => by
    obtain ⟨i, rfl, f⟩ := h1
    cases at1
    exact ⟨i, rfl, q M1 H1 δ1 _ _ f e1 I1 .int⟩
theorem lay_strs : ∀ {ns : List Str}, (∀ n ∈ ns, PyData.strOk n = true) → PyData.canLayAll0 (pyL (ns.map .str)) = true ∧ PyData.depthAll (pyL (ns.map .str)) = 0
  | [], _ => ⟨rfl, rfl⟩
  | n :: ns, h => by
    have := lay_strs (ns := ns) fun m hm => h m (List.mem_cons_of_mem _ hm)
    refine ⟨?_, ?_⟩
    · show PyData.canLayAll0 (PyData.str n :: pyL (ns.map .str)) = true
      rw [PyData.canLayAll0.eq_2, PyData.canLay0.eq_4, h n (by simp), this.1]; rfl
    · show PyData.depthAll (PyData.str n :: pyL (ns.map .str)) = 0
      rw [PyData.depthAll.eq_2, this.2]; rfl
theorem shp_tup {ns : List Str} (h : ∀ n ∈ ns, PyData.strOk n = true) : SeqAt.shaped (py (.tup (ns.map .str))) = true := by
  have := lay_strs h
  show (PyData.canLay0 (PyData.tuple (pyL (ns.map .str))) && decide ((PyData.tuple (pyL (ns.map .str))).depth ≤ 64)) = true
  rw [PyData.canLay0.eq_6, this.1]
  unfold PyData.depth
  rw [this.2]; decide
theorem eqv_tup (xs ys : List Str) : PyData.eqv (py (.tup (xs.map .str))) (py (.tup (ys.map .str))) = decide (xs = ys) := by
  rw [← eqv_strs xs ys]; rfl
theorem atI_last {α : Type} (xs : List α) (x : α) : atI (xs ++ [x]) (-1) = some x := by
  unfold atI ixN
  rw [if_neg (by omega)]
  rw [if_pos (by simp; omega)]
  simp
  rw [show (-1 + ((xs.length : Int) + 1)).toNat = xs.length by omega]
  simp
theorem blk_lst {ts : TA} {i : Nat} (h : XS Z bs (tAsg (tLst ts) (gName i)) δ P) : XS Z bs (tAsg (tLst ts) (gName i)) δ P := h
theorem blk_lc {wi : TI} {g : TG} {tt : TT} {vs : List Nat} {i : Nat} (h : XS Z bs (tAsg (tLc wi g tt te vs) (gName i)) δ P) : XS Z bs (tAsg (tLc wi g tt te vs) (gName i)) δ P := h
end G
namespace G
open PySem L2
theorem perm_map {α β : Type} {f : α → β} {ys : List β} {xs : List α} (h : ys.Perm (xs.map f)) : ∃ ns : List α, ys = ns.map f ∧ ns.Perm xs := by
  generalize e : xs.map f = zs at h
  induction h generalizing xs with
  | nil => cases xs with
    | nil => exact ⟨[], rfl, .refl _⟩
    | cons x xs => cases e
  | cons x h ih => 
    cases xs with
    | nil => cases e
    | cons z xs =>
      simp only [List.map_cons, List.cons.injEq] at e
      obtain ⟨ns, h1, h2⟩ := ih e.2
      exact ⟨z :: ns, by rw [h1, ← e.1]; rfl, h2.cons z⟩
  | swap x y l =>
    rcases xs with _ | ⟨u, _ | ⟨v, xs⟩⟩
    · cases e
    · simp at e
    · simp only [List.map_cons, List.cons.injEq] at e
      obtain ⟨h1, h2, h3⟩ := e
      exact ⟨v :: u :: xs, by rw [← h1, ← h2, ← h3]; rfl, List.Perm.swap _ _ _⟩
  | trans h1 h2 ih1 ih2 =>
    obtain ⟨ms, rfl, hm⟩ := ih2 e
    obtain ⟨ns, rfl, hn⟩ := ih1 rfl
    exact ⟨ns, rfl, hn.trans hm⟩
theorem cut_to {α : Type} {xs : List α} {b : Int} (h : 0 ≤ b) : cut xs none (some b) = xs.take b.toNat := by
  unfold cut HT.sIx
  simp
  rw [if_neg (by omega)]
  omega
end G
theorem G.on_d {Φ : G.D → List G.S → Prop} {x : G.D} {δ : List G.S} (h : Φ x δ) : G.onD Φ (.d x) δ := h
theorem G.on_o {Φ : G.OD → List G.S → Prop} {x : G.OD} {δ : List G.S} (h : Φ x δ) : G.onO Φ (.own x) δ := h
theorem G.joinE {Z : G.Wd} {te : L2.TE} {δ : List G.S} {Φ : G.D → List G.S → Prop} {α : Type} (ok : α → Prop) (dd : α → G.D) (st : α → List G.S) (f : (∀ c, ok c → Φ (dd c) (st c)) → G.XE Z te δ Φ) (h : ∀ c, ok c → Φ (dd c) (st c)) : G.XE Z te δ Φ := f h
namespace G
open PySem L2
theorem xo_fg {Z : Wd} {δ : List S} {te : TE} {α : Type} {v : Nat} {wi : TI} {tt : TT} {Ω : OD → List S → Prop} {g f : α → D} {p : α → Bool} (h : XI Z wi δ fun xs δ0 => ∃ as : List α, xs = as.map g ∧ δ0[v]? = some .no ∧ as.length ≤ 1000000 ∧ (∀ d ∈ as, XT Z tt (δ0.set v (.d (g d))) fun b δ3 => b = p d ∧ δ3 = δ0.set v (.d (g d)) ∧ (b = true → XE Z te δ3 fun y δ4 => y = f d ∧ δ4 = δ3)) ∧ Ω (.lst ((as.filter p).map f)) δ0) :
    XO Z (tLc wi (gName v) tt te [v]) δ Ω := xo_lc fun B W M H σ Q I q => h B W M H σ Q I fun M' H' δ' J xs a => q M' H' δ' J xs (by
  obtain ⟨as, rfl, h1, h2, h3, h4⟩ := a
  refine ⟨fun w hw => by simp at hw; exact hw ▸ h1, by simpa using h2, fun i acc δ1 => acc = ((as.take i).filter p).map f ∧ δ1 = δ', ⟨rfl, rfl⟩, ?_, ?_⟩
  · rintro i d acc δ1 bs hb hi ⟨rfl, rfl⟩
    obtain ⟨u, hu, rfl⟩ : ∃ u, as[i]? = some u ∧ g u = d := by simpa using hi
    refine xg_name (List.mem_singleton.mpr rfl) (hb v (List.mem_singleton.mpr rfl)) ?_
    have t : as.take (i + 1) = as.take i ++ [u] := by rw [List.take_add_one, hu]; rfl
    refine XT.imp (h3 u (List.mem_of_getElem? hu)) fun b δ3 ⟨e1, e2, e3⟩ => ?_
    subst e1; subst e2
    split
    · rename_i hp
      refine XR.imp (e3 hp) fun s δ4 k => ?_
      cases s with
      | d y => exact ⟨by rw [t, k.1]; simp [hp], by rw [k.2]; exact wipe_set h1⟩
      | _ => exact k.elim
    · rename_i hp
      exact ⟨by rw [t]; simp [hp], wipe_set h1⟩
  · rintro acc δ1 ⟨rfl, rfl⟩
    rw [List.length_map, List.take_length]
    exact h4)
end G
theorem G.pe_gc {X : L2.Cx} {x : PySem.Str} {v : L2.V} {pos : PySem.Pos} (hg : L2.Gl X x) (h : ∃ u, X.mg x = some u ∧ L2.RelV v u) (hd : (x == PySem.Str.ofString "__debug__") = false := by decide) : L2.PE X (.Name x pos) (L2.tC v) := by
  obtain ⟨u, hm, r⟩ := h
  exact L2.pe_glob hg hm r hd
namespace G
open PySem L2
theorem if_tt {A C : Prop} (h : A) : if true = true then A else C := h
theorem if_ff {A C : Prop} (h : C) : if false = true then A else C := h
theorem if_nt {A C : Prop} (h : C) : if (!true) = true then A else C := h
theorem if_nf {A C : Prop} (h : A) : if (!false) = true then A else C := h
theorem scs_strs' : ∀ (ws : List Str), scs (ws.map .str) = some (ws.map V.str)
  | [] => rfl
  | w :: ws => by
    have := scs_strs' ws
    simp only [List.map_cons]
    unfold scs
    rw [this]; rfl
section
variable {Z : Wd} {ta tb : TE} {δ : List S} {Φ : D → List S → Prop}
theorem xe_inT (h : XE Z ta δ fun a δ1 => XE Z tb δ1 fun b δ2 => ∃ (n : Str) (ws : List Str), a = .str n ∧ (b = .lst (ws.map .str) ∨ b = .tup (ws.map .str)) ∧ Φ (.bl (decide (n ∈ ws))) δ2) : XE Z (tOp (rIn Z.K false) ta tb) δ Φ :=
  xe_in fun B W M H σ Q I q => h B W M H σ Q I fun M1 H1 δ1 v s a => q M1 H1 δ1 v s (by
    cases s with
    | d x => 
      intro B2 W2 M2 H2 σ2 Q2 I2 q2
      refine a B2 W2 M2 H2 σ2 Q2 I2 fun M3 H3 δ3 v3 s3 a3 => q2 M3 H3 δ3 v3 s3 ?_
      cases s3 with
      | d y =>
        obtain ⟨n, ws, rfl, hb, f⟩ := a3
        refine ⟨.str n, ws.map .str, ws.map V.str, rfl, hb, scs_strs' ws, ?_⟩
        simp only [Bool.false_eq_true, if_false, inV_strs]
        exact f
      | no => exact a3
      | own y => exact a3
      | deal _ _ _ => exact a3
    | no => exact a
    | own y => exact a
    | deal _ _ _ => exact a)
theorem xe_ninT (h : XE Z ta δ fun a δ1 => XE Z tb δ1 fun b δ2 => ∃ (n : Str) (ws : List Str), a = .str n ∧ (b = .lst (ws.map .str) ∨ b = .tup (ws.map .str)) ∧ Φ (.bl (!decide (n ∈ ws))) δ2) : XE Z (tOp (rIn Z.K true) ta tb) δ Φ :=
  xe_in fun B W M H σ Q I q => h B W M H σ Q I fun M1 H1 δ1 v s a => q M1 H1 δ1 v s (by
    cases s with
    | d x => 
      intro B2 W2 M2 H2 σ2 Q2 I2 q2
      refine a B2 W2 M2 H2 σ2 Q2 I2 fun M3 H3 δ3 v3 s3 a3 => q2 M3 H3 δ3 v3 s3 ?_
      cases s3 with
      | d y =>
        obtain ⟨n, ws, rfl, hb, f⟩ := a3
        refine ⟨.str n, ws.map .str, ws.map V.str, rfl, hb, scs_strs' ws, ?_⟩
        simp only [if_true, inV_strs]
        exact f
      | no => exact a3
      | own y => exact a3
      | deal _ _ _ => exact a3
    | no => exact a
    | own y => exact a
    | deal _ _ _ => exact a)
end
end G
theorem G.pe_fldK {X : L2.Cx} {K : PySem.W.Frag} {e : PySem.Expr} {f : PySem.Str} {pos : PySem.Pos} {ta : L2.TE} (hK : X.K = K) (h : L2.PE X e ta) (hb : PySem.attributeBase e f X.env (PySem.eval e X.env) = PySem.eval e X.env) : L2.PE X (e.Attribute f pos) (L2.tFld K ta f) := hK ▸ L2.pe_fld h hb
theorem G.pi_tupK {X : L2.Cx} {K : PySem.W.Frag} {tg l : PySem.Expr} {tl : L2.TE} (hK : X.K = K) (h : L2.PE X l tl) : L2.PI X tg l (L2.iTup K tl) := hK ▸ L2.pi_tup h
theorem G.pa_starK {X : L2.Cx} {K : PySem.W.Frag} {e : PySem.Expr} {es : List PySem.Expr} {te : L2.TE} {t : L2.TA} {p : PySem.Pos} (hK : X.K = K) (h : L2.PE X e te) (h2 : L2.PA X es t) (h3 : PySem.starEach (e.Starred p :: es) X.env = (true, PySem.eval e X.env) :: PySem.starEach es X.env := by rfl) : L2.PA X (e.Starred p :: es) (StX.tStar K te t) := hK ▸ StX.pa_star h h2 h3
namespace G
open PySem L2
section
variable {Z : Wd} {δ : List S} {Λ : List D → List S → Prop}
theorem xi_enumV {i : Nat} {d : D} {xs : List D} (h : δ[i]? = some (.d d)) (hd : d = .lst xs ∨ d = .tup xs) (k : Λ (enumD xs) δ) : XI Z (fun σ H R => iEnum Z.K (tCons (tVar i) tNil) σ H R ∨ GE.iEnumT Z.K (tCons (tVar i) tNil) σ H R) δ Λ := by
  rcases hd with rfl | rfl
  · exact xi_l (xi_enum (xe_var h ⟨_, rfl, k⟩))
  · exact xi_r (xi_enumT (xe_var h ⟨_, rfl, k⟩))
theorem xi_seqV {i : Nat} {d : D} {xs : List D} (h : δ[i]? = some (.d d)) (hd : d = .lst xs ∨ d = .tup xs) (k : Λ xs δ) : XI Z (fun σ H R => iList Z.K (tVar i) σ H R ∨ iTup Z.K (tVar i) σ H R) δ Λ := by
  rcases hd with rfl | rfl
  · exact xi_l (xi_list (xe_var h ⟨_, .inl rfl, k⟩))
  · exact xi_r (xi_tup (xe_var h ⟨_, rfl, k⟩))
end
end G
theorem G.filter_tt {α : Type} (xs : List α) : xs.filter (fun _ => true) = xs := List.filter_eq_self.mpr fun _ _ => rfl
set_option Elab.async false
set_option linter.all false
set_option maxRecDepth 100000
set_option maxHeartbeats 4000000
namespace GS
open PySem PySem.Spec PyProof.Rows L2
open PySem.Froz (SD sObj tailTx addTx TxOk)
section
variable {X : Cx}
def rIsX : R2 := fun x y H Q => y = .non ∧ Q (.bl (decide (x = .non))) H
def rNotX : R2 := fun x y H Q => y = .non ∧ Q (.bl (!decide (x = .non))) H
theorem op_isX : OpR X (compareOp .Is) rIsX := op_isN
theorem op_notX : OpR X (compareOp .IsNot) rNotX := op_notN
def rIsB : R2 := fun x y H Q => ∃ a b, x = .bl a ∧ y = .bl b ∧ Q (.bl (decide (a = b))) H
def rNotB : R2 := fun x y H Q => ∃ a b, x = .bl a ∧ y = .bl b ∧ Q (.bl (!decide (a = b))) H
theorem op_notB : OpR X (compareOp .IsNot) rNotB := op_isnot_bl
end
end GS
namespace G
open PySem L2
section
variable {Z : Wd} {δ : List S} {te ta tb : TE} {Φ : D → List S → Prop} {Ψ : S → List S → Prop} {X : Cx}
/-! ### is -/
def isNon : D → Bool | .non => true | _ => false
theorem xe_isN (h : XE Z ta δ fun a δ1 => Φ (.bl (isNon a)) δ1) : XE Z (tOp GS.rIsX ta (tC .non)) δ Φ := XE.mk fun B W M H σ Q I q =>
  h.run I fun M1 H1 δ1 x a h1 e1 I1 at1 => And.intro rfl (by
    have : decide (x = V.non) = isNon a := by cases at1 <;> simp [isNon]
    rw [this]
    exact q M1 H1 δ1 _ _ h1 e1 I1 .bl)
theorem xe_notN (h : XE Z ta δ fun a δ1 => Φ (.bl (!isNon a)) δ1) : XE Z (tOp GS.rNotX ta (tC .non)) δ Φ := XE.mk fun B W M H σ Q I q =>
  h.run I fun M1 H1 δ1 x a h1 e1 I1 at1 => And.intro rfl (by
    have : decide (x = V.non) = isNon a := by cases at1 <;> simp [isNon]
    rw [this]
    exact q M1 H1 δ1 _ _ h1 e1 I1 .bl)
theorem xe_isB (h : XE Z ta δ fun a δ1 => XE Z tb δ1 fun b δ2 => ∃ i j, a = .bl i ∧ b = .bl j ∧ Φ (.bl (decide (i = j))) δ2) : XE Z (tOp GS.rIsB ta tb) δ Φ := XE.mk fun B W M H σ Q I q =>
  h.run I fun M1 H1 δ1 x a h1 e1 I1 at1 => XE.run h1 I1 fun M2 H2 δ2 y b h2 e2 I2 at2 => by
    obtain ⟨i, j, rfl, rfl, f⟩ := h2
    cases at1; cases at2
    exact ⟨i, j, rfl, rfl, q M2 H2 δ2 _ _ f (e1.tr e2) I2 .bl⟩
theorem xe_notB (h : XE Z ta δ fun a δ1 => XE Z tb δ1 fun b δ2 => ∃ i j, a = .bl i ∧ b = .bl j ∧ Φ (.bl (!decide (i = j))) δ2) : XE Z (tOp GS.rNotB ta tb) δ Φ := XE.mk fun B W M H σ Q I q =>
  h.run I fun M1 H1 δ1 x a h1 e1 I1 at1 => XE.run h1 I1 fun M2 H2 δ2 y b h2 e2 I2 at2 => by
    obtain ⟨i, j, rfl, rfl, f⟩ := h2
    cases at1; cases at2
    exact ⟨i, j, rfl, rfl, q M2 H2 δ2 _ _ f (e1.tr e2) I2 .bl⟩
/-! ### an own list that is lent -/
def loose1 : D → Bool | .non | .bl _ | .int _ | .str _ => true | _ => false
def looseD : D → Bool | .tup xs => xs.all loose1 | d => loose1 d
def Loose : S → Prop | .d x => looseD x = true | .own (.lst xs) => xs.all loose1 = true | _ => False
def minus (M : Hp) (p : Addr) : Hp := fun a => if a = p then none else M a
theorem minus_ne {M : Hp} {p a : Addr} (h : a ≠ p) : minus M p a = M a := if_neg h
theorem minus_same {M : Hp} {p : Addr} : minus M p p = none := if_pos rfl
theorem At.loose1 {M M' : Hp} {v : V} {d : D} (h : At Z M v d) (l : loose1 d = true) : At Z M' v d := by
  cases h with
  | non => exact .non
  | bl => exact .bl
  | int => exact .int
  | str => exact .str
  | _ => cases l
theorem AtL.loose1 {M M' : Hp} {vs : List V} {ds : List D} (h : AtL Z M vs ds) (l : ds.all G.loose1 = true) : AtL Z M' vs ds := ⟨h.len, fun i v d a b => (h.at' i v d a b).loose1 (List.all_eq_true.mp l d (List.mem_of_getElem? b))⟩
theorem At.looseD {M : Hp} {p : Addr} {us : List V} {v : V} {d : D} (hp : M p = some (.lst us)) (h : At Z M v d) (l : looseD d = true) : At Z (minus M p) v d := by
  cases h with
  | non => exact .non
  | bl => exact .bl
  | int => exact .int
  | str => exact .str
  | tup h l2 c =>
    have al := AtL.loose1 (M' := minus M p) ⟨l2, c⟩ l
    refine .tup ?_ l2 al.at'
    refine h.imp (fun r => ?_) id
    rcases r with r | ⟨o, r⟩
    · exact .inl ((minus_ne fun e => by subst e; rw [hp] at r; cases r).trans r)
    · exact .inr ⟨o, (minus_ne fun e => by subst e; rw [hp] at r; cases r).trans r⟩
  | _ => cases l
theorem xr_callL2 {F : FR} {dvs : List V} {dds : List D} {E : XK} {i : Nat} (hd : ∀ M : Hp, AtL Z M dvs dds)
    (h : XE Z ta δ fun d δ1 => ∃ xs, δ1[i]? = some (.own (.lst xs)) ∧ F (d :: .lst xs :: dds) fun s => Loose s ∧ Ψ s δ1) : XR Z (tCall (spR Z F) dvs E (tCons ta (tCons (tVar i) tNil))) δ Ψ := fun B W M H σ Q I q =>
  h.run I fun M1 H1 δ1 x d h1 e1 I1 at1 => by
    obtain ⟨xs, hi, f⟩ := h1
    obtain ⟨o, e, p, ho, rfl, hp, hy, hm⟩ := I1.sl i _ hi
    obtain ⟨vs, rfl, al⟩ := hy.lstI
    have ex : Ex M1 (upd M1 p (.lst vs)) := Ex.new hm
    refine ⟨_, e, upd M1 p (.lst vs), d :: .lst xs :: dds, _, fun b u g => ?_, .cons (at1.mono ex) (.cons (.lst upd_same al.len (al.mono ex).at') (hd _)), f, fun M' H' v s ⟨lo, g⟩ a1 a2 a3 a4 r => ?_⟩
    · by_cases z : b = p
      · subst z; rw [upd_same] at g; cases g; exact hp
      · rw [upd_ne z] at g; exact I1.ex b u g
    have hp' : M' p = some (.lst vs) := a1 _ _ upd_same
    have b1 : Ex M1 (minus M' p) := fun b u g => by
      have z : b ≠ p := fun z => by subst z; rw [hm] at g; cases g
      rw [minus_ne z]; exact a1 b u (ex b u g)
    have b2 : Ex (minus M' p) H' := fun b u g => by
      by_cases z : b = p
      · subst z; rw [minus_same] at g; cases g
      · rw [minus_ne z] at g; exact a2 b u g
    have b4 : ∀ p' o, H1 p' = some o → M1 p' = none → NT o → minus M' p p' = none := fun b u g n t => by
      by_cases z : b = p
      · subst z; exact minus_same
      · rw [minus_ne z]; exact a4 b u g (by rw [upd_ne z]; exact n) t
    refine q (minus M' p) H' δ1 v s g (e1.tr b1) (I1.after b1 b2 a3 b4) (ret_res I1 (fun _ _ o => o) ?_)
    cases s with
    | no => exact r
    | d y => exact At.looseD hp' r lo
    | own y =>
      obtain ⟨p', ho', rfl, c1, c2, c3, c4⟩ := r
      have c4' : H1 p' = none := c4
      have z : p' ≠ p := fun z => by subst z; rw [hp] at c4'; cases c4'
      refine ⟨p', ho', rfl, c1, ?_, by rw [minus_ne z]; exact c3, c4⟩
      cases y with
      | lst ys =>
        obtain ⟨ws, rfl, al'⟩ := c2.lstI
        exact al'.loose1 lo
      | _ => exact lo.elim
    | deal u cs n =>
      obtain ⟨r, rfl, ⟨r', e1, c1, c2, c3, c4, c5⟩, nh⟩ := r
      cases e1
      have z : ∀ a, Hol r (.deal u cs n) a → a ≠ p := fun a ha z => by
        have : H1 a = none := nh a ha
        rw [z, hp] at this; cases this
      exact ⟨r, rfl, ⟨r, rfl, c1, c2, by rw [minus_ne (z r (.inl rfl))]; exact c3, by rw [minus_ne (z u (.inr rfl))]; exact c4, c5⟩, nh⟩
end
end G
set_option Elab.async false
set_option linter.all false
set_option maxRecDepth 100000
set_option maxHeartbeats 4000000
namespace GS
open PySem PySem.Spec PyProof.Rows L2
section
variable {X : Cx}
def trueS (b : Bool) : Str := if b then "True" else "False"
def rRepB : List V → Hp → VK → Prop := fun vs H Q => ∃ b, vs = [V.bl b] ∧ Q (.str (trueS b)) H
end
end GS
namespace G
open PySem L2
section
variable {Z : Wd} {δ : List S} {te ta tb : TE} {Φ : D → List S → Prop} {X : Cx}
theorem xe_repB (h : XE Z te δ fun a δ1 => ∃ b, a = .bl b ∧ Φ (.str (GS.trueS b)) δ1) : XE Z (tCB GS.rRepB (tCons te tNil)) δ Φ := XE.mk fun B W M H σ Q I q =>
  h.run I fun M1 H1 δ1 x a h1 e1 I1 at1 => by
    obtain ⟨b, rfl, f⟩ := h1
    cases at1
    exact ⟨b, rfl, q M1 H1 δ1 _ _ f e1 I1 .str⟩
theorem units65 {k : Nat} {A : PySem.Around} (r : Room k A) : A.units + 65 < cLine := by have := r.un; omega
/-! ### in, of data -/
theorem xs_parOD {i j : Nat} {bs : List Nat} {P : Po} (hi : i ∉ bs) (hj : j ∉ bs) (h : XO Z ta δ fun a δ1 => XE Z tb δ1 fun b δ2 => i < δ2.length ∧ P.N ((δ2.set i (.own a)).set j (.d b))) : XS Z bs (tPar i j (tCons ta (tCons tb tNil))) δ P := fun B W M H σ E hb I e =>
  XO.run h I fun M1 H1 δ1 p ho a h1 e1 I1 a1 a2 a3 a4 a5 => XE.run h1 I1.rebase fun M2 H2 δ2 y b h2 e2 J at2 => by
    obtain ⟨k1, k2, k3⟩ := J.stays a1 a3 (fun i hi => a5 i (mem_owns.mp hi)) (.own a2)
    have I2 := I1.back (fun _ _ => mem_owns) J
    have I3' := (I2.putO (i := i) (not_bor hb hi) h2.1 k1 (a2.mono e2) k3 a4 k2).put (not_bor hb hj) (hol_d _) (slotD at2)
    exact ⟨_, y, rfl, e.nx _ _ _ _ h2.2 (e1.tr e2) I3'⟩
/-! ### data that can be laid -/
def Lay (n : Nat) (d : D) : Prop := PyData.canLay0 (py d) = true ∧ (py d).depth ≤ n
theorem lay_str {n : Nat} {s : Str} (h : PyData.strOk s = true) : Lay n (.str s) := ⟨(PyData.canLay0.eq_4 s).trans h, by show (PyData.str s).depth ≤ n; unfold PyData.depth; omega⟩
theorem Lay.shaped {n : Nat} {d : D} (h : Lay n d) (k : n ≤ 64) : SeqAt.shaped (py d) = true := by
  show (PyData.canLay0 (py d) && decide ((py d).depth ≤ 64)) = true
  rw [h.1, decide_eq_true (Nat.le_trans h.2 k)]; rfl
end
end G
set_option Elab.async false
set_option linter.all false
set_option maxRecDepth 100000
set_option maxHeartbeats 4000000
/-! tuple[::-1], tuple + tuple -/
namespace G
open PySem L2
end G
set_option Elab.async false
set_option linter.all false
set_option maxRecDepth 100000
set_option maxHeartbeats 4000000
/-! slices of a list or a tuple; data of ints compared -/
namespace G
open PySem L2
section
variable {Z : Wd} {B : Bas} {W : List (Nat × Addr)} {M H : Hp} {σ : St} {δ : List S} {te tb : TE} {Φ : D → List S → Prop} {tl th : TO}
theorem cut_all {α : Type} {xs : List α} {lo hi : Option Int} (h : HT.sIx xs.length 0 lo = 0 ∧ HT.sIx xs.length xs.length hi = xs.length) : cut xs lo hi = xs := by
  unfold cut
  rw [h.1, h.2]; simp
theorem xe_slA (h : XE Z te δ fun a δ1 => XP Z tl δ1 fun lo δ2 => XP Z th δ2 fun hi δ3 => ∃ xs, a = .tup xs ∧ Φ (.tup (cut xs lo hi)) δ3) : XE Z (tSl (rSlA Z.K) te tl th) δ Φ := XE.mk fun B W M H σ Q I q =>
  h.run I fun M1 H1 δ1 x a h1 e1 I1 at1 => h1 B W M1 H1 σ _ I1 fun M2 H2 δ2 lo h2 e2 I2 => h2 B W M2 H2 σ _ I2 fun M3 H3 δ3 hi h3 e3 I3 => by
    obtain ⟨xs, rfl, f⟩ := h3
    cases at1.mono (e2.tr e3) with
    | @tup _ vs _ h l c =>
      refine ⟨_, _, rfl, sqT_mono I3.ex h, fun w => ?_, fun w p hp => newT I3 hp (AtL.cut lo hi ⟨l, c⟩) f (e1.tr (e2.tr e3)) q⟩
      rw [cut_all (by rw [← l]; exact w)] at f
      exact q M3 H3 δ3 _ _ f (e1.tr (e2.tr e3)) I3 (.tup h l c)
end
/-! ints compared -/
end G
set_option Elab.async false
set_option linter.all false
set_option maxRecDepth 100000
set_option maxHeartbeats 4000000
/-! errors: raised, let through, caught -/
namespace GX
open PySem PySem.Spec PyProof.Rows L2
end GX
namespace G
open PySem L2
end G
set_option Elab.async false
set_option linter.all false
set_option maxRecDepth 100000
set_option maxHeartbeats 4000000
/-! in, not in: signs, data in tuples; lists of data compared with none -/
namespace GX
open PySem PySem.Spec PyProof.Rows L2
def rInTup (K : PySem.W.Frag) (neg : Bool) : R2 := fun x y H Q => ∃ d ds, Dp K H x d ∧ Dp K H y (.tuple ds) ∧ SeqAt.shaped d = true ∧ SeqAt.shaped (.tuple ds) = true ∧ Q (.bl (if neg then !ds.any (fun z => PyData.eqv z d) else ds.any fun z => PyData.eqv z d)) H
section
variable {X : Cx}
theorem lay_items {ds : List PyData} (h : SeqAt.shaped (.tuple ds) = true) : PyData.canLayAll0 ds = true := by
  have := SeqAt.canLay_of_shaped h
  simpa [PyData.canLay0] using this
theorem op_ninTup (room : X.A.units + 65 < cLine) : OpR X (compareOp .NotIn) (rInTup X.K true) := fun pins s σ H x y v u Q I rx ry ⟨d, ds, hd, he, sd, se, q⟩ => by
  obtain ⟨_, read1⟩ := Dp.reads I d x v hd rx
  obtain ⟨_, read2⟩ := Dp.reads I (.tuple ds) y u he ry
  exact SeqAt.notIn_tuple_reads read2 read1 (lay_items se) (SeqAt.canLay_of_shaped sd) (room_in_shaped sd room) ⟨.bl _, H, I, rfl, q⟩
end
theorem kit_ref {K : PySem.W.Frag} {C L : Addr} {b : Bool} (h1 : PySem.W.isClsIn K L = true) (h2 : PySem.W.typeIn K (.ref L) = some (.type "type")) (h3 : PySem.W.subIn K (.ref C) (.ref L) = some b) (h4 : PySem.W.subIn K (.ref C) (.ref C) = some true) : PySem.W.kitOne K (.ref C) (.ref L) = some b := by
  have h1' : (PySem.W.clsIn K L).isSome = true := h1
  unfold PySem.W.kitOne
  by_cases e : C = L
  · subst e
    rw [h3] at h4
    cases h4
    simp
  · rw [if_neg (by simpa using e)]
    unfold PySem.W.kitCls
    simp [h1', h2, h3]
end GX
namespace G
open PySem L2
section
variable {Z : Wd} {δ : List S} {ta tb te : TE} {Φ : D → List S → Prop}
/-- any data in a tuple of data -/
theorem xe_inTup {neg : Bool} (h : XE Z ta δ fun a δ1 => XE Z tb δ1 fun b δ2 => ∃ xs, b = .tup xs ∧ pla a = true ∧ plaL xs = true ∧ SeqAt.shaped (py a) = true ∧ SeqAt.shaped (py (.tup xs)) = true ∧ Φ (.bl (if neg then !(pyL xs).any (fun z => PyData.eqv z (py a)) else (pyL xs).any fun z => PyData.eqv z (py a))) δ2) : XE Z (tOp (GX.rInTup Z.K neg) ta tb) δ Φ := XE.mk fun B W M H σ Q I q =>
  h.run I fun M1 H1 δ1 x a h1 e1 I1 at1 => XE.run h1 I1 fun M2 H2 δ2 y b h2 e2 I2 at2 => by
    obtain ⟨xs, rfl, pa, pb, sa, sb, f⟩ := h2
    exact ⟨_, _, At.dp a x (at1.mono e2) I2.ex pa, At.dp _ y at2 I2.ex pb, sa, sb, q M2 H2 δ2 _ _ f (e1.tr e2) I2 .bl⟩
end
end G
set_option Elab.async false
set_option linter.all false
set_option maxRecDepth 100000
set_option maxHeartbeats 4000000
/-! isinstance of anything; repr of ints, of None -/
namespace GX
open PySem PySem.Spec PyProof.Rows L2
theorem kit_tyref {K : PySem.W.Frag} {L : Addr} {n : String} {b : Bool} (h1 : PySem.W.isClsIn K L = true) (h2 : PySem.W.typeIn K (.ref L) = some (.type "type")) (h3 : PySem.W.subIn K (.type n) (.ref L) = some b) : PySem.W.kitOne K (.type n) (.ref L) = some b := by
  have h1' : (PySem.W.clsIn K L).isSome = true := h1
  unfold PySem.W.kitOne
  rw [if_neg (by simp)]
  unfold PySem.W.kitCls
  simp [h1', h2, h3]
section
variable {X : Cx}
/-- a def that may raise, called where it does not -/
theorem calm {P : Program} {w : World} {K : PySem.W.Frag} {mg : Str → Option Value} {base : Heap} {k : Nat} {f : Addr} {fd : FuncData} {ps : List Str} {sp sp0 : Sp} (F : FnOk P w K mg base (L2.CX P w) k f fd ps sp) (h : ∀ vs H Q E, sp0 vs H Q E → sp vs H Q fun _ _ _ => False) : FnOk P w K mg base CX0 k f fd ps sp0 :=
  ⟨fun vs H Q E x => F.len _ _ _ _ (h vs H Q E x), fun A outer s H args us vs Q E hr e0 hb r hsp => codeAny_mono (F.run A outer s H args us vs Q _ hr e0 hb r (h _ _ _ _ hsp)) fun res s' c => by
    match res, c with
    | .ok (.ret u), c => exact c
    | .ok .next, c => exact c
    | .ok .brk, c => exact c
    | .ok .cont, c => exact c
    | .error e, c =>
      obtain ⟨_, _, _, _, _, _, _, _, _, _, _, _, z⟩ := c
      exact z.elim⟩
end
end GX
namespace G
open PySem L2
end G
set_option Elab.async false
set_option linter.all false
set_option maxRecDepth 100000
set_option maxHeartbeats 4000000
/-! tuples whose objects are known to have no dict: made, joined, asked for a place -/
namespace GX
open PySem PySem.Spec PyProof.Rows L2
def Bare (o : Obj) : Prop := o.cls = .type "tuple" ∧ (o.dict = none ∧ o.slots = #[])
def rTupleF (K : PySem.W.Frag) : List V → Hp → VK → Prop := fun xs H Q => ∃ p ys, xs = [.ref p] ∧ SqL K H p ys ∧ ∀ l o, H l = none → Bare o → Q (.ref l) (upd H l (.frz o (.tup ys)))
def tTupIx (K : PySem.W.Frag) (to : TE) (t : TA) : TE := fun σ H Q => to σ H fun x H1 => (∃ (p : Addr) (o : Obj) (vs : List V), x = .ref p ∧ H1 p = some (.frz o (.tup vs)) ∧ Bare o) ∧
  t σ H1 fun xs H2 => ∃ p, ∃ ys : List Str, ∃ z j, x = .ref p ∧ xs = [.str z] ∧ SqT K H2 p (ys.map V.str) ∧ ys[j]? = some z ∧ (∀ m, m < j → ys[m]? ≠ some z) ∧ Q (.int (j : Nat)) H2
section
variable {X : Cx} {K : PySem.W.Frag} {es : List Expr} {e o : Expr} {t : TA} {to : TE} {pos apos cpos : Pos}
theorem call_tupleF : CallR X (.type "tuple") (rTupleF X.K) := fun pins s σ H xs us Q J rel ⟨p, ys, ex, sq, go⟩ => by
  subst ex
  match us, rel with
  | [_], .cons rx .nil =>
    cases rx
    obtain ⟨its, rv, pl, small⟩ := J.list sq
    have same := rv.length
    refine call_tuple_list pl.isList (fun h' kp => ?_) (by simp only [List.size_toArray]; omega)
    have J1 : Inv X pins σ H { s with heap := h' } := J.kept (t' := s.toks) kp
    have at' := Heap.get?_push_size h' (o := { cls := .type "tuple", data := .seq its.toArray }) rfl
    exact ⟨.ref _, _, J1.laid (t' := s.toks) (o := .frz _ (.tup ys)) (fun _ _ g => Heap.get?_push_of_some _ g) (Nat.le_refl _) ⟨at', small, its, rv, ⟨_, at', rfl, _, rfl⟩⟩, rfl, go _ _ (J1.hok.fresh (Nat.le_refl _)) ⟨rfl, rfl, rfl⟩⟩
theorem pe_tupIx (hK : X.K = K) (ho : PE X o to) (ha : PA X (e :: es) t) (base : attributeBase o "index" X.env (eval o X.env) = eval o X.env := by rfl)
    (few : ((backTo cpos (starEach (e :: es) X.env)).all (fun x => !x.1) && (backToKw cpos (keywordEach [] X.env)).all (fun x => x.1.isSome) && decide ((e :: es).length + ([] : List Keyword).length + (if ([] : List Keyword).isEmpty then 0 else 1) < 30)) = true := by rfl)
    (line : (apos.endLine == cpos.line) = true := by rfl) (hs : starEach (e :: es) X.env = (false, eval e X.env) :: starEach es X.env := by rfl) (plain : (backTo cpos (starEach es X.env)).any (·.1) = false := by rfl) :
    PE X (.Call (.Attribute o "index" apos) (e :: es) [] cpos) (tTupIx K to t) := ⟨fun pins s σ H Q J h => by
  subst hK
  refine wpAny_Call_method_late base few line rfl (thn (ho.run pins s σ H _ J h) fun v s1 ⟨x, H1, J1, r1, ⟨p, ob, vs, ex, hp, bare⟩, q1⟩ => ?_)
  subst ex
  cases r1
  obtain ⟨there, _⟩ := (show ObjOk X.prog X.w H1 s1.heap p (.frz ob (.tup vs)) from J1.hok p _ hp)
  refine ⟨"tuple", "tuple.index", PySem.F.plainAttrs_tuple, PySem.F.slot_tuple_index, PySem.F.type_tuple_index, ⟨ob, there, bare.1⟩, fun a ea => by cases ea; exact ⟨ob, there, bare.2.1⟩, ?_⟩
  have args := ha.run cpos pins s1 σ H1 _ J1 q1
  rw [hs] at args ⊢
  refine Calls.callWith_builtin (by show (false || (backTo cpos (starEach es X.env)).any (·.1)) = false; rw [plain]; rfl) (Calls.evalArgs_plain ?_)
  exact thn args fun us s2 ⟨ws, H2, J2, r2, q2⟩ => mt_tup_index pins s2 σ H2 (.ref p) ws _ us Q J2 rfl r2 q2⟩
end
end GX
namespace G
open PySem L2
section
variable {Z : Wd} {M H : Hp} {δ : List S} {ta tb te : TE} {ts : TA} {Φ : D → List S → Prop} {B : Bas} {W : List (Nat × Addr)} {σ : St}
theorem At.wk {v : V} {xs : List D} (a : At Z M v (.tupF xs)) : At Z M v (.tup xs) := by
  cases a with
  | tupF h _ _ l k => exact .tup (.inl (.inr ⟨_, h⟩)) l k
/-- as a plain tuple -/
theorem xe_wk (h : XE Z te δ fun d δ1 => ∃ xs, d = .tupF xs ∧ Φ (.tup xs) δ1) : XE Z te δ Φ := XE.mk fun B W M H σ Q I q =>
  h.run I fun M1 H1 δ1 x a h1 e1 I1 at1 => by
    obtain ⟨xs, rfl, f⟩ := h1
    exact q M1 H1 δ1 _ _ f e1 I1 at1.wk
theorem newF {p : Addr} {o : PySem.Obj} {vs : List V} {xs : List D} {δ1 : List S} {Q : VK} {M1 H1 : Hp} (I1 : I3 Z B W M1 H1 σ δ1) (hp : H1 p = none) (bo : GX.Bare o) (al : AtL Z M1 vs xs) (f : Φ (.tupF xs) δ1) (e : Ex M M1)
    (q : ∀ M' H' δ' v d, Φ d δ' → Ex M M' → I3 Z B W M' H' σ δ' → At Z M' v d → Q v H') : Q (.ref p) (upd H1 p (.frz o (.tup vs))) :=
  have hm := I1.ex.free hp
  q _ _ δ1 _ _ f (e.tr (Ex.new hm)) (I1.grow hp) (.tupF upd_same bo.1 bo.2 al.len (al.mono (Ex.new hm)).at')
theorem xe_tupleF (h : XE Z te δ fun d δ1 => ∃ xs, d = .lst xs ∧ Φ (.tupF xs) δ1) : XE Z (tCB (GX.rTupleF Z.K) (tCons te tNil)) δ Φ := XE.mk fun B W M H σ Q I q =>
  h.run I fun M1 H1 δ1 x a h1 e1 I1 at1 => by
    obtain ⟨xs, rfl, f⟩ := h1
    cases at1 with
    | lst k l c => exact ⟨_, _, rfl, SqL.of (I1.ex _ _ k), fun p o hp bo => newF I1 hp bo ⟨l, c⟩ f e1 q⟩
theorem idx_first : ∀ {l : List Str} {m : Nat} {x : Str}, m < l.idxOf x → l[m]? ≠ some x
  | [], m, x, h => by simp at h
  | a :: l, m, x, h => by
    rw [List.idxOf_cons] at h
    by_cases e : a == x
    · simp [e] at h
    · cases m with
      | zero => simpa using fun q => e (by simp [q])
      | succ m => simpa using idx_first (l := l) (by simpa [e] using h)
theorem xe_tupIx (h : XE Z ta δ fun d δ1 => ∃ ys : List Str, d = .tupF (ys.map .str) ∧ XE Z te δ1 fun b δ2 => ∃ z : Str, b = .str z ∧ z ∈ ys ∧ Φ (.int (ys.idxOf z : Nat)) δ2) : XE Z (GX.tTupIx Z.K ta (tCons te tNil)) δ Φ := XE.mk fun B W M H σ Q I q =>
  h.run I fun M1 H1 δ1 x a h1 e1 I1 at1 => by
    obtain ⟨ys, rfl, h2⟩ := h1
    cases at1 with
    | @tupF p o vs _ k c d l al =>
      refine ⟨⟨p, o, vs, rfl, I1.ex _ _ k, c, d⟩, h2.run I1 fun M2 H2 δ2 y b h3 e2 I2 at2 => ?_⟩
      obtain ⟨z, rfl, hz, f⟩ := h3
      cases at2
      have hv : vs = ys.map V.str := AtL.strs (Z := Z) (M := M1) ⟨l, al⟩
      subst hv
      refine ⟨p, ys, z, ys.idxOf z, rfl, rfl, sqT_mono I2.ex (.inl (.inr ⟨o, e2 _ _ k⟩)), ?_, fun m hm => idx_first hm, q M2 H2 δ2 _ _ f (e1.tr e2) I2 .int⟩
      rw [List.getElem?_eq_getElem (List.idxOf_lt_length_of_mem hz), List.getElem_idxOf]
end
end G
set_option Elab.async false
set_option linter.all false
set_option maxRecDepth 100000
/-! comparing by an own __eq__, `!=` by the default __ne__, str by an own __str__ -/
namespace GX
open PySem PySem.Spec L2
section
variable {X : Cx} {CX : CXT} {k : Nat} {C f : Addr} {fd : FuncData} {ps : List Str} {sp : Sp} {E : XK} {pins : List (Addr × Obj)} {σ : St} {H : Hp} {s : Shared}
/-- a special method of the class at C is the def at f -/
structure OwnM (K : PySem.W.Frag) (C f : Addr) (name : Str) : Prop where
  find : PySem.W.findIn K (.ref C) name = some (some (.ref f))
  fn : PySem.W.isFn K (.ref f) = true
/-- no __ne__ but the one of all objects -/
structure NoNe (K : PySem.W.Frag) (C : Addr) : Prop where
  find : PySem.W.findIn K (.ref C) "__ne__" = some (some (.builtin "object.__ne__"))
  sub : PySem.W.subIn K (.ref C) (.type "object") = some true
theorem run_at {A : Around} {Q : VK} {us : List Value} {vs : List V} (F : FnOk X.prog X.w X.K X.mg X.base CX k f fd ps sp) (hA : A.frames = X.A.frames) (room : Room k A) (bi : Binds X.K fd ps []) (pass : Passes CX X E)
    (I : Inv X pins σ H s) (rel : Vals vs us) (want : sp vs H Q E) : wpAny (model X.prog X.w) A (call (.ref f) us) (EP X pins σ Q) X.xe s := by
  have old := I.env0
  have here : Env0 X.prog X.w X.K X.mg X.base A X.stack s H := { frames := by rw [hA]; exact old.frames, mod := old.mod, bs := old.bs, bsz := old.bsz, funs := old.funs, frf := old.frf, hok := old.hok, bare := old.bare }
  have len : us.length = ps.length := by rw [← rel.length]; exact F.len _ _ _ _ want
  have bound := bi s us I.kIn (by simpa using len)
  rw [List.append_nil] at bound
  refine wpAny_call (codeAny_mono (F.run A X.stack s H ⟨us, []⟩ us vs Q E room here bound rel want) fun res s' out => ?_)
  match res, out with
  | .error e, out => exact pass pins σ H s e s' I out
  | .ok (.ret u), out => exact I.after out
section
variable {prog : Program} {w : World} {A : Around} {Er : Value → Shared → Prop} {K : PySem.W.Frag} {x : Addr} {ox : Obj} {od : Option Obj} {b tb : Value}
open PySem.W
theorem special_own {Q : Option Value → Shared → Prop} {name : Str} (kin : K.In s.heap) (at' : InstAt s.heap x ox C od) (o : OwnM K C f name) (ans : wpAny (model prog w) A (call (.ref f) [.ref x]) (fun v => Q (some v)) Er s) :
    wpAny (model prog w) A (callSpecial? (.ref x) name) Q Er s := by
  simp only [callSpecial?]
  refine wpAny_bind (wpAny_bind (at'.type.here ((looks_findIn kin o.find).here ?_)))
  refine wpAny_holding (wpAny_bind ((bind_fn kin _ (beq_iff_eq.mp o.fn)).here ?_))
  exact wpAny_bind (wpAny_mono ans (fun v s' z => wpAny_pure z) fun _ _ z => z)
end
end
end GX
namespace G
open PySem L2
def er (M : Hp) (p : Addr) : Hp := fun a => if a = p then none else M a
end G
namespace GX
open PySem L2
end GX
namespace G
open PySem L2
end G
namespace G
open PySem L2
end G
set_option Elab.async false
set_option linter.all false
set_option maxRecDepth 100000
/-! == of tuples whose items are compared by an own __eq__ -/
namespace GX
open PySem PySem.Spec PySem.SeqAt L2
open AutoSeq1 (wpAny_loadPart')
open MeetsSeq MeetsSeq2 MeetsSeq3 SeqRoads2
end GX
namespace GX
open PySem PySem.Spec L2
end GX
namespace G
open PySem L2
section
variable {Z : Wd} {M H H' : Hp} {δ : List S} {ta tb : TE} {Φ : D → List S → Prop} {E : XK} {F : FR} {σ : St} {B : Bas} {W : List (Nat × Addr)}
theorem I3.ext (I : I3 Z B W M H σ δ) (x : Ex H H') : I3 Z B W M H' σ δ := I.after Ex.rfl' (I.ex.tr x) x fun _ _ _ h _ => h
end
end G
set_option Elab.async false
set_option linter.all false
set_option maxRecDepth 100000
/-! != of tuples whose items are compared by an own __eq__; len of an instance by an own __len__ -/
namespace GX
open PySem PySem.Spec PySem.SeqAt L2
open AutoSeq1 (wpAny_loadPart')
open MeetsSeq MeetsSeq2 MeetsSeq3 SeqRoads2
end GX
namespace GX
open PySem PySem.Spec L2
end GX
namespace G
open PySem L2
end G
set_option Elab.async false
set_option linter.all false
set_option maxRecDepth 100000
/-! x[i], x + y by the own methods of a class -/
namespace GX
open PySem PySem.Spec L2
open PyProof.Rows (Subscript_)
section
variable {X : Cx} {CX : CXT} {k : Nat} {C f : Addr} {fd : FuncData} {ps : List Str} {sp : Sp} {E : XK} {a b : Expr} {ta tb : TE} {pos : Pos}
/-- len(x) by the own __len__ of the class at C -/
def rOwnLen (C : Addr) (sp : Sp) (E : XK) : List V → Hp → VK → Prop := fun vs H Q => (∃ a dx fs, vs = [.ref a] ∧ H a = some (.ins C dx fs)) ∧ sp vs H (fun v H' => ∃ n : Nat, v = .int n ∧ n < 2 ^ 62 ∧ Q (.int n) H') E
theorem call_ownLen (F : FnOk X.prog X.w X.K X.mg X.base CX k f fd ps sp) (hr : Room (k + 1) X.A) (o : OwnM X.K C f "__len__") (bi : Binds X.K fd ps []) (pass : Passes CX X E) : CallR X (.builtin "len") (rOwnLen C sp E) := by
  intro pins s σ H vs us Q I rel ⟨⟨a, dx, fs, e, ha⟩, q⟩
  subst e
  match us, rel with
  | [_], .cons ra .nil =>
    cases ra
    obtain ⟨mA, J, _⟩ := ins_get I.hok ha
    obtain ⟨od, J, _⟩ := J.look
    refine Calls.call_function_entry kind_len plain_len entry_len (args_len1 _) ?_
    unfold Builtin.«len»
    refine wpAny_bind (m := oneArg "len" _) (wpAny_pure ?_)
    refine wpAny_bind (special_own I.kIn J o (wpAny_mono (run_at F rfl hr.in1 bi pass I (vs := [.ref a]) (.cons rfl .nil) q) (fun r s' z => ?_) fun _ _ z => z))
    obtain ⟨v', H', I', r', n, e, small, q'⟩ := z
    subst e
    obtain ⟨t, rt⟩ := r'
    subst rt
    refine wpAny_bind (wpAny_holding (wpAny_pure ?_))
    refine wpAny_bind (wpAny_letGo ?_)
    show wpAny _ _ (if ((n : Nat) : Int) < 0 then _ else _) _ _ _
    rw [if_neg (by omega)]
    show wpAny _ _ (if ((n : Nat) : Int) ≥ 2 ^ 63 then _ else _) _ _ _
    rw [if_neg (by omega)]
    exact wpAny_bind (wpAny_mkInt (wpAny_pure ⟨_, rfl, .int n, H', I'.tok _, ⟨_, rfl⟩, q'⟩))
end
end GX
namespace G
open PySem L2
end G
set_option Elab.async false
set_option linter.all false
set_option maxRecDepth 100000
/-! x[i] and o.m(..) by own methods that may raise -/
namespace GX
open PySem PySem.Spec L2
open PyProof.Rows (Subscript_)
end GX
namespace G
open PySem L2
end G
set_option Elab.async false
set_option linter.all false
set_option maxRecDepth 100000
/-! x += y by an own __add__ of a class without an own __iadd__ -/
namespace GX
open PySem PySem.Spec L2
end GX
namespace G
open PySem L2
end G
set_option Elab.async false
set_option linter.all false
set_option maxRecDepth 100000
set_option maxHeartbeats 4000000
/-! a, *b = a list; split; class methods; classes held in a variable -/
namespace GX
open PySem PySem.Spec PyProof.Rows L2
end GX
namespace G
open PySem L2
end G
set_option Elab.async false
set_option linter.all false
set_option maxRecDepth 100000
set_option maxHeartbeats 4000000
/-! {e for x in xs if ..}, {e for x in xs for y in ys}: sets of ints, built while other sources are walked -/
namespace GX
open PySem PySem.Spec PyProof.Rows L2 PpSet
/-- what is left to do at the set D once the source J has come: from H on, at slots σ, until Qd -/
abbrev SetJob := It → Addr → Hp → L2.St → (Hp → Prop) → Prop
/-- y joins the set at D, then go on -/
def joins (w : World) (D : Addr) (y : V) (H : Hp) (on : Hp → Prop) : Prop := ∃ (k : Int) (S : Int → Bool) (c : Nat), y = .int k ∧ H D = some (SetO w D S c) ∧ c + 1 < scanBound ∧ on (upd H D (SetO w D (fun j => S j || decide (j = k)) (if S k = true then c else c + 1)))
/-- the source J yields n times -/
def walks (J : It) (n : Nat) (Pv : Nat → Hp → Prop) (H0 : Hp) (Qd : Hp → Prop) (turn : Nat → V → Hp → Prop) : Prop := Pv 0 H0 ∧ (∀ i H, i < n → Pv i H → J.go i H ∧ ∀ x H1, J.yld i H x H1 → turn i x H1) ∧ ∀ H, Pv n H → J.stop n H ∧ Qd H
def job1 (w : World) (g : TG) (tt : TT) (te : TE) (vs : List Nat) : SetJob := fun J D H0 σ0 Qd => ∃ (n : Nat) (Pv : Nat → Hp → Prop), walks J n Pv H0 Qd fun i x H1 => g x σ0 H1 fun σ2 H2 => wipe σ2 vs = σ0 ∧ tt σ2 H2 fun b H3 => if b = true then te σ2 H3 fun y H4 => joins w D y H4 (Pv (i + 1)) else Pv (i + 1) H3
def job2 (w : World) (g : TG) (wi1 : TI) (g1 : TG) (te : TE) (vs vs1 : List Nat) : SetJob := fun J D H0 σ0 Qd => ∃ (n : Nat) (Pv : Nat → Hp → Prop), walks J n Pv H0 Qd fun i x H1 => g x σ0 H1 fun σ2 H2 => wipe σ2 vs = σ0 ∧ wi1 σ2 H2 fun J1 H3 =>
  ∃ (n1 : Nat) (Pw : Nat → Hp → Prop), walks J1 n1 Pw H3 (Pv (i + 1)) fun j x1 H4 => g1 x1 (wipe σ2 vs1) H4 fun σ3 H5 => wipe σ3 vs1 = wipe σ2 vs1 ∧ te σ3 H5 fun y H6 => joins w D y H6 (Pw (j + 1))
/-- a set comprehension as a value -/
def tSetC (w : World) (wi : TI) (vs : List Nat) (job : SetJob) : TE := fun σ H Q => wi σ H fun J H1 => ∀ D, H1 D = none → job J D (upd H1 D (SetO w D (fun _ => false) 0)) (wipe σ vs) fun H2 => Q (.ref D) H2
/-- the block's own loop does the job -/
def Does (X : Cx) (tg e : Expr) (scope : Scope) (job : SetJob) : Prop := ∀ (s3 : Shared) (H3 : Hp) (C : Addr) (cl : List (PySem.Str × Addr)) (fp : List Addr) (it D : Addr) (J : It) (tn : Nat → Heap → Prop) (s4 : Shared) (σ4 : L2.St) (H4 : Hp) (Qd : Hp → Prop) (post : Result → Shared → Prop),
  X.calm = true → Turn X.prog X.w X.K tg J fp it tn → (∀ (σ' : L2.St) (H' : Hp) (s' : Shared), Inv (X.blk s3 H3 scope (compEnvC scope cl C X.env) fp) [] σ' H' s' → (∀ b ∈ fp, H' b = none) → ∀ b ∈ fp, FpOk (X.blk s3 H3 scope (compEnvC scope cl C X.env) fp) [] H' b) →
  Inv (X.blk s3 H3 scope (compEnvC scope cl C X.env) fp) [] σ4 H4 s4 → tn 0 s4.heap → (∀ b ∈ fp, H4 b = none) → job J D H4 σ4 Qd → (∀ s' H', Inv (X.blk s3 H3 scope (compEnvC scope cl C X.env) fp) [] σ4 H' s' → Qd H' → post (.ok .next) s') →
  codeAny (model X.prog X.w) X.A (.compLoop e 0 (.ref it) (.ref D) (compEnvC scope cl C X.env)) post s4
section
variable {X : Cx}
theorem join_set {pins : List (Addr × Obj)} {s : Shared} {σ : L2.St} {H : Hp} {D : Addr} {y : V} {u : Value} {on : Hp → Prop} {E : Value → Shared → Prop} (I : Inv X pins σ H s) (r : RelV y u) (h : joins X.w D y H on) :
    wpAny (model X.prog X.w) X.A (call (.builtin "set.add") [.ref D, u]) (fun _ s' => ∃ H', Inv X pins σ H' s' ∧ on H') E s := by
  obtain ⟨k, S, c, rfl, hD, room, next⟩ := h
  obtain ⟨tk, rfl⟩ := r
  have here := setO_get I hD
  refine setR_add here room fun h' only new => ?_
  obtain ⟨o, _, _, _, ho, _⟩ := id new
  exact ⟨_, I.write (e := D) (t' := s.toks + 1) (by rw [hD]; trivial) (.inl rfl) (fun b v ne hv => (only.2 b ne).trans hv) ⟨o, ho⟩ (setO_new new), next⟩
theorem blk_here {s3 : Shared} {H3 : Hp} {scope : Scope} {C : Addr} {cl : List (PySem.Str × Addr)} {fp : List Addr} (σ' : L2.St) (H' : Hp) (s' : Shared) (J' : Inv (X.blk s3 H3 scope (compEnvC scope cl C X.env) fp) [] σ' H' s') (none' : ∀ b ∈ fp, H' b = none) :
    ∀ b ∈ fp, FpOk (X.blk s3 H3 scope (compEnvC scope cl C X.env) fp) [] H' b := fun b hb =>
  ⟨none' b hb, (J'.ok.exf b hb).1, J'.ok.exfs b hb, .inl hb, fun x c e => (J'.ok.exf b hb).2 x c e, fun p hp => absurd (show p ∈ ([] : List (Addr × Obj)) ++ [] from hp) (by simp)⟩
theorem pe_setC {elt tg iter : Expr} {ifs : List Expr} {more : List Comprehension} {scope : Scope} {own : List (PySem.Str × Nat)} {pos : Pos} {wi : TI} {job : SetJob} (calm : X.calm = true) (nd : X.N.Nodup) (src : PI X tg iter wi) (blk : BlkOk X.N X.env.scope scope own)
    (does : Does X tg (.SetComp elt (⟨tg, iter, ifs, 0⟩ :: more) scope pos) scope job) (plain : ∀ x, foldedSetIterable iter X.env x = pure x := by intro _; rfl) : PE X (.SetComp elt (⟨tg, iter, ifs, 0⟩ :: more) scope pos) (tSetC X.w wi (own.map (·.2)) job) := by
  refine ⟨fun pins s σ H Q I want => ?_⟩
  have frees : ∀ y ∈ scope.names, y.2 = .free → ∃ c, X.env.cells.lookup y.1 = some c := fun y hy e => (blk.free y hy e).elim (fun k => I.ok.has _ (.inl k)) fun k => I.ok.has _ (.inr k)
  show wpAny _ _ (comprehension _ scope X.env (firstIterPos _ pos) (newSet (.type "set")) false (eval iter X.env) none) _ _ s
  refine wpAny_comprehension_free (use := none) rfl plain (closure_ok frees) blk.kind (fun y hy e => by rw [blk.uniq y hy, e]) (thn (src.run pins s σ H _ I want) fun _ _ first => thn first fun _ s2 came => ?_)
  obtain ⟨it, fp, tn, J, H2, rfl, I2, T, t0, clear, job⟩ := came
  refine newSet_ok (newEnv_comp ?_)
  have dn : H2 s2.heap.objs.size = none := I2.hok.fresh (Nat.le_refl _)
  have job := job _ dn
  have I3 := I2.laid (h' := s2.heap.push { cls := .type "set", dict := none, data := .set #[] 0 (.fresh 0 0 (!X.w.params.followText "set-order")) }) (t' := s2.toks) (fun _ _ e => Heap.get?_push_of_some _ e) (Nat.le_refl _) (setO_new (P := X.prog) (H := upd H2 s2.heap.objs.size (SetO X.w s2.heap.objs.size (fun _ => false) 0)) (setR_fresh X.w))
  have old : ∀ b ∈ fp, b < s2.heap.objs.size := fun b hb => by obtain ⟨o, e, _⟩ := T.obj _ _ t0 b hb; exact Heap.lt_size e
  have clear3 : ∀ b ∈ fp, FpOk X pins (upd H2 s2.heap.objs.size (SetO X.w s2.heap.objs.size (fun _ => false) 0)) b ∧ b < (s2.heap.push { cls := .type "set", dict := none, data := .set #[] 0 (.fresh 0 0 (!X.w.params.followText "set-order")) }).objs.size := fun b hb =>
    ⟨⟨by rw [upd_ne (Nat.ne_of_lt (old b hb))]; exact (clear b hb).1, (clear b hb).2⟩, by rw [Heap.size_push]; exact Nat.lt_succ_of_lt (old b hb)⟩
  have t3 : tn 0 (s2.heap.push { cls := .type "set", dict := none, data := .set #[] 0 (.fresh 0 0 (!X.w.params.followText "set-order")) }) := T.keep _ _ _ t0 fun b _ o e => Heap.get?_push_of_some _ e
  have I4 := block_start I3 blk nd clear3
  have t4 : tn 0 (pushCells ((s2.heap.push { cls := .type "set", dict := none, data := .set #[] 0 (.fresh 0 0 (!X.w.params.followText "set-order")) }).push { cls := .type "dict", data := .dict #[] }) scope.names) := T.keep _ _ _ t3 fun b _ o e => pushCells_keeps _ _ _ _ (Heap.get?_push_of_some _ e)
  refine codeAny_compStart_set ?run (T.self X.A 0 _ _ _ t4 ?run)
  refine does _ _ _ _ fp it _ J tn _ _ _ _ _ calm T blk_here I4 t4 (fun b hb => (clear3 b hb).1.1) job fun s' H' J' done => ?_
  -- the block ends
  have I7 : Inv X pins σ H' s' := I3.call' (ch := fp) J'.os J'.base J'.hok J'.bare fun b hb => ⟨(clear3 b hb).1.2.2.2.1, (clear3 b hb).1.2.1, (clear3 b hb).1.2.2.2.2.1, (clear3 b hb).1.2.2.2.2.2⟩
  obtain ⟨m, ns, _⟩ := J'.loc
  have gap : H' (s2.heap.push { cls := .type "set", dict := none, data := .set #[] 0 (.fresh 0 0 (!X.w.params.followText "set-order")) }).objs.size = none := J'.free
  obtain ⟨f0, f1, f2, f3, f4, f5⟩ := I3.fpOk (Nat.le_refl _) gap
  exact ⟨m, ns, fun h'' sb => ⟨.ref s2.heap.objs.size, H', I7.turned (t' := s'.toks) (fun b o hb e => (sb.2 b hb).trans e) f0 f1 f3 f4 f5, rfl, done⟩⟩
section
variable {elt tg iter : Expr} {scope : Scope} {pos : Pos} {g : TG} {tt : TT} {te : TE} {vs : List Nat}
theorem does1 {ifs : List Expr} (pg : ∀ (s : Shared) (H : Hp) (C : Addr) (cl : List (PySem.Str × Addr)) (fp : List Addr), PG (X.blk s H scope (compEnvC scope cl C X.env) fp) tg g) (pt : ∀ (s : Shared) (H : Hp) (C : Addr) (cl : List (PySem.Str × Addr)) (fp : List Addr), PTs (X.blk s H scope (compEnvC scope cl C X.env) fp) ifs tt)
    (pe : ∀ (s : Shared) (H : Hp) (C : Addr) (cl : List (PySem.Str × Addr)) (fp : List Addr), PE (X.blk s H scope (compEnvC scope cl C X.env) fp) elt te) : Does X tg (.SetComp elt [⟨tg, iter, ifs, 0⟩] scope pos) scope (job1 X.w g tt te vs) := by
  rintro s3 H3 C cl fp it D J tn s4 σ4 H4 Qd post calm T here I4 t4 none4 ⟨n, Pv, p0, turn, stop⟩ fin
  refine compLoopS_any (fun k s' => ∃ i H', k = n - i ∧ i ≤ n ∧ Inv (X.blk s3 H3 scope (compEnvC scope cl C X.env) fp) [] σ4 H' s' ∧ tn i s'.heap ∧ (∀ b ∈ fp, H' b = none) ∧ Pv i H') ?_ n ⟨0, H4, rfl, Nat.zero_le _, I4, t4, none4, p0⟩
  rintro k s5 ⟨i, H5, rfl, le, I5, t5, none5, p5⟩
  rcases Nat.eq_or_lt_of_le le with rfl | lt
  · obtain ⟨st, qd⟩ := stop H5 p5
    exact thnF (T.done (X.blk s3 H3 scope (compEnvC scope cl C X.env) fp) rfl rfl rfl calm i [] s5 _ H5 (fun _ _ => False) I5 (here _ _ _ I5 none5) t5 st) fun r s6 ⟨hr, I6⟩ => by subst hr; exact fin _ _ I6 qd
  · obtain ⟨go, step⟩ := turn i H5 lt p5
    refine thnF (T.item (X.blk s3 H3 scope (compEnvC scope cl C X.env) fp) rfl rfl rfl calm i [] s5 _ H5 (fun _ _ => False) I5 (here _ _ _ I5 none5) t5 go) fun r s6 ⟨u, hr, came⟩ => ?_
    subst hr
    refine thnF came fun _ s7 ⟨x, H7, I7, r7, y7, t7, none7⟩ => ?_
    refine thnF ((pg s3 H3 C cl fp).run _ s7 _ H7 x u _ (I7.pinned (here _ _ _ I7 none7) (T.obj _ _ t7)) r7 (step x H7 y7)) fun _ s8 ⟨σ8, H8, I8, same, q8⟩ => ?_
    -- the turn ends
    have next : ∀ {s' : Shared} {H' : Hp}, Inv (X.blk s3 H3 scope (compEnvC scope cl C X.env) fp) ([] ++ pinsAt fp s7.heap) σ8 H' s' → Pv (i + 1) H' → ∃ m, m < n - i ∧ ∃ i' H', m = n - i' ∧ i' ≤ n ∧ Inv (X.blk s3 H3 scope (compEnvC scope cl C X.env) fp) [] σ4 H' s' ∧ tn i' s'.heap ∧ (∀ b ∈ fp, H' b = none) ∧ Pv i' H' := fun {s' H'} J' p' => by
      have stay : ∀ b ∈ fp, ∀ o, s7.heap.get? b = some o → s'.heap.get? b = some o ∧ H' b = none := fun b hb o e => let z := J'.pin (b, o) (List.mem_append_right _ (List.mem_append_right _ (mem_pinsAt hb e))); ⟨z.1, z.2.1⟩
      refine ⟨n - (i + 1), by omega, i + 1, H', rfl, lt, (J'.unpinned (pins := [])).weak (by rw [← same, wipe_length]) (fun j v e => by rw [← same] at e; exact (wipe_some e).1), T.keep _ _ _ t7 fun b hb o e => (stay b hb o e).1, fun b hb => ?_, p'⟩
      obtain ⟨o, e, _⟩ := T.obj _ _ t7 b hb
      exact (stay b hb o e).2
    refine thnF ((pt s3 H3 C cl fp).run _ s8 σ8 H8 _ I8 q8) fun b s9 ⟨H9, I9, q9⟩ => ?_
    cases b with
    | false => exact next I9 q9
    | true => exact thnF ((pe s3 H3 C cl fp).run _ s9 σ8 H9 _ I9 q9) fun z s10 ⟨y, H10, I10, r10, jn⟩ => join_set (X := X.blk s3 H3 scope (compEnvC scope cl C X.env) fp) (E := fun _ _ => False) I10 r10 jn |> fun w => thnF w fun _ s11 ⟨H11, I11, p11⟩ => next I11 p11
end
end
end GX
set_option Elab.async false
set_option linter.all false
set_option maxRecDepth 100000
set_option maxHeartbeats 4000000
/-! {e for x in xs for y in ys} -/
namespace GX
open PySem PySem.Spec PyProof.Rows L2 PpSet
section
variable {prog : Program} {w : World} {A : Around} {R : Result → Shared → Prop} {s : Shared} {elt t0 i0 t1 i1 : Expr} {scope : Scope} {pos : Pos} {it acc : Value} {env : Env}
/-- {elt for t0 in i0 for t1 in i1} -/
abbrev twice (elt t0 i0 t1 i1 : Expr) (scope : Scope) (pos : Pos) : Expr := .SetComp elt [⟨t0, i0, [], 0⟩, ⟨t1, i1, [], 0⟩] scope pos
theorem outer_turn : compTurn (twice elt t0 i0 t1 i1 scope pos) 0 it acc env = (do
      standAt i0.pos; match ← pyNext it with
      | none => pure (.done .next)
      | some v => letOwnedTupleGo t0 it v; assign t0 env v; let mut ok := true
                  for c in ([] : List Expr) do if ok then ok ← isTrue c env (eval c env)
                  if ok then let x ← eval i1 env; standAt i1.pos; let x ← foldedSetIterable i1 env x; let _ ← runOwn (.compStart (twice elt t0 i0 t1 i1 scope pos) 1 (← holding [x] (pyIter x)) acc env) env
                  again (.compLoop (twice elt t0 i0 t1 i1 scope pos) 0 it acc env)) := by rfl
theorem inner_turn : compTurn (twice elt t0 i0 t1 i1 scope pos) 1 it acc env = (do
      standAt i1.pos; match ← pyNext it with
      | none => pure (.done .next)
      | some v => letOwnedTupleGo t1 it v; assign t1 env v; let mut ok := true
                  for c in ([] : List Expr) do if ok then ok ← isTrue c env (eval c env)
                  if ok then (do let v ← eval elt env; standAt elt.pos; let _ ← call (.builtin "set.add") [acc, v])
                  again (.compLoop (twice elt t0 i0 t1 i1 scope pos) 1 it acc env)) := by rfl
/-- an error of the loop, noted -/
abbrev bad (M : Model) (A : Around) (env : Env) (R : Result → Shared → Prop) : Value → Shared → Prop := notedBy M A env fun e s' => R (.error e) s'
theorem outer_loop (plain : ∀ x, foldedSetIterable i1 env x = pure x) (I : Nat → Shared → Prop)
    (turn : ∀ n s, I n s → wpAny (model prog w) A (pyNext it) (fun r s1 => match r with
      | none => R (.ok .next) s1
      | some v => wpAny (model prog w) A (letOwnedTupleGo t0 it v) (fun _ s2 => wpAny (model prog w) A (assign t0 env v) (fun _ s3 => wpAny (model prog w) A (eval i1 env) (fun x s4 => wpAny (model prog w) A (pyIter x) (fun k s5 =>
          codeAny (model prog w) A (.compStart (twice elt t0 i0 t1 i1 scope pos) 1 k acc env) (fun r s' => (∃ f, r = .ok f) ∧ ∃ m, m < n ∧ I m s') s5) (bad (model prog w) A env R) s4) (bad (model prog w) A env R) s3) (bad (model prog w) A env R) s2) (bad (model prog w) A env R) s1) (bad (model prog w) A env R) s)
    (n : Nat) (h : I n s) : codeAny (model prog w) A (.compLoop (twice elt t0 i0 t1 i1 scope pos) 0 it acc env) R s := by
  refine codeAny_loop rfl I (fun n s hI => ?_) n h
  show wpAny _ A ((compTurn (twice elt t0 i0 t1 i1 scope pos) 0 it acc env).onRaise fun x => do noteFrame x env; theTreesLotGoes x) _ _ s
  refine wpAny_noted ?_
  rw [outer_turn]
  refine wpAny_bind (wpAny_standAt (wpAny_bind (wpAny_mono (turn n s hI) (fun r s1 h1 => ?_) fun _ _ z => z)))
  cases r with
  | none => exact wpAny_pure h1
  | some v =>
    refine wpAny_bind (wpAny_mono h1 (fun _ s2 h2 => wpAny_bind (wpAny_mono h2 (fun _ s3 h3 => ?_) fun _ _ z => z)) fun _ _ z => z)
    refine wpAny_bind (wpAny_pure ?_)
    refine wpAny_bind (wpAny_mono h3 (fun x s4 h4 => ?_) fun _ _ z => z)
    refine wpAny_bind (wpAny_standAt (wpAny_bind (wpAny_of_eq (plain x) (wpAny_bind (wpAny_holding (wpAny_mono h4 (fun k s5 h5 => ?_) fun _ _ z => z))))))
    refine wpAny_bind (wpAny_runOwn ?_)
    rw [Around.mark_none]
    refine codeAny_mono h5 fun r s6 hr => ?_
    obtain ⟨⟨f, rfl⟩, hr⟩ := hr
    first
    | exact wpAny_pure ⟨rfl, hr⟩
    | exact wpAny_bind (wpAny_pure (wpAny_pure ⟨rfl, hr⟩))
theorem inner_loop (I : Nat → Shared → Prop)
    (turn : ∀ n s, I n s → wpAny (model prog w) A (pyNext it) (fun r s1 => match r with
      | none => R (.ok .next) s1
      | some v => wpAny (model prog w) A (letOwnedTupleGo t1 it v) (fun _ s2 => wpAny (model prog w) A (assign t1 env v) (fun _ s3 => wpAny (model prog w) A (eval elt env) (fun x s4 =>
          wpAny (model prog w) A (call (.builtin "set.add") [acc, x]) (fun _ s5 => ∃ m, m < n ∧ I m s5) (bad (model prog w) A env R) s4) (bad (model prog w) A env R) s3) (bad (model prog w) A env R) s2) (bad (model prog w) A env R) s1) (bad (model prog w) A env R) s)
    (n : Nat) (h : I n s) : codeAny (model prog w) A (.compLoop (twice elt t0 i0 t1 i1 scope pos) 1 it acc env) R s := by
  refine codeAny_loop rfl I (fun n s hI => ?_) n h
  show wpAny _ A ((compTurn (twice elt t0 i0 t1 i1 scope pos) 1 it acc env).onRaise fun x => do noteFrame x env; theTreesLotGoes x) _ _ s
  refine wpAny_noted ?_
  rw [inner_turn]
  refine wpAny_bind (wpAny_standAt (wpAny_bind (wpAny_mono (turn n s hI) (fun r s1 h1 => ?_) fun _ _ z => z)))
  cases r with
  | none => exact wpAny_pure h1
  | some v =>
    refine wpAny_bind (wpAny_mono h1 (fun _ s2 h2 => wpAny_bind (wpAny_mono h2 (fun _ s3 h3 => ?_) fun _ _ z => z)) fun _ _ z => z)
    refine wpAny_bind (wpAny_pure ?_)
    exact wpAny_bind (wpAny_bind (wpAny_mono h3 (fun x s4 h4 => wpAny_bind (wpAny_standAt (wpAny_bind (wpAny_mono h4 (fun _ s5 h5 => wpAny_pure (wpAny_pure ⟨rfl, h5⟩)) fun _ _ z => z)))) fun _ _ z => z))
theorem inner_start (h0 : codeAny (model prog w) A (.compLoop (twice elt t0 i0 t1 i1 scope pos) 1 it acc env) R s)
    (h : wpAny (model prog w) A (pyIter it) (fun k s' => codeAny (model prog w) A (.compLoop (twice elt t0 i0 t1 i1 scope pos) 1 k acc env) R s') (bad (model prog w) A env R) s) : codeAny (model prog w) A (.compStart (twice elt t0 i0 t1 i1 scope pos) 1 it acc env) R s := by
  refine codeAny_of_tree ?_
  show wpAny _ _ ((compStart (twice elt t0 i0 t1 i1 scope pos) 1 it acc env).onRaise fun x => do noteFrame x env; standAt theWindowsPlace) _ _ s
  refine wpAny_notedAt ?_
  unfold compStart
  refine wpAny_bind (wpAny_askSetting (wpAny_ite ?_))
  split
  · first
    | exact wpAny_bind (wpAny_pure (wpAny_pure ⟨rfl, h0⟩))
    | exact wpAny_pure ⟨rfl, h0⟩
  · refine wpAny_bind (wpAny_rule ?_)
    first
    | exact wpAny_bind (wpAny_standAt (wpAny_bind (wpAny_mono h (fun k s' z => wpAny_pure ⟨rfl, z⟩) fun _ _ z => z)))
    | (show wpAny _ _ (standAt i1.pos >>= _) _ _ s; exact wpAny_bind (wpAny_standAt (wpAny_bind (wpAny_mono h (fun k s' z => wpAny_pure ⟨rfl, z⟩) fun _ _ z => z))))
end
section
variable {X : Cx} {elt t0 i0 t1 i1 : Expr} {scope : Scope} {pos : Pos} {g g1 : TG} {wi1 : TI} {te : TE} {vs vs1 : List Nat}
theorem does2 (pg : ∀ (s : Shared) (H : Hp) (C : Addr) (cl : List (PySem.Str × Addr)) (fp : List Addr), PG (X.blk s H scope (compEnvC scope cl C X.env) fp) t0 g) (pi1 : ∀ (s : Shared) (H : Hp) (C : Addr) (cl : List (PySem.Str × Addr)) (fp : List Addr), PI (X.blk s H scope (compEnvC scope cl C X.env) fp) t1 i1 wi1)
    (pg1 : ∀ (s : Shared) (H : Hp) (C : Addr) (cl : List (PySem.Str × Addr)) (fp : List Addr), PG (X.blk s H scope (compEnvC scope cl C X.env) fp) t1 g1) (pe : ∀ (s : Shared) (H : Hp) (C : Addr) (cl : List (PySem.Str × Addr)) (fp : List Addr), PE (X.blk s H scope (compEnvC scope cl C X.env) fp) elt te)
    (sub : ∀ i ∈ vs1, i ∈ vs) (plain : ∀ env x, foldedSetIterable i1 env x = pure x := by intro _ _; rfl) : Does X t0 (twice elt t0 i0 t1 i1 scope pos) scope (job2 X.w g wi1 g1 te vs vs1) := by
  rintro s3 H3 C cl fp it D J tn s4 σ4 H4 Qd post calm T here I4 t4 none4 ⟨n, Pv, p0, turn, stop⟩ fin
  refine outer_loop (plain _) (fun k s' => ∃ i H', k = n - i ∧ i ≤ n ∧ Inv (X.blk s3 H3 scope (compEnvC scope cl C X.env) fp) [] σ4 H' s' ∧ tn i s'.heap ∧ (∀ b ∈ fp, H' b = none) ∧ Pv i H') ?_ n ⟨0, H4, rfl, Nat.zero_le _, I4, t4, none4, p0⟩
  rintro k s5 ⟨i, H5, rfl, le, I5, t5, none5, p5⟩
  rcases Nat.eq_or_lt_of_le le with rfl | lt
  · obtain ⟨st, qd⟩ := stop H5 p5
    exact thnF (T.done (X.blk s3 H3 scope (compEnvC scope cl C X.env) fp) rfl rfl rfl calm i [] s5 _ H5 (fun _ _ => False) I5 (here _ _ _ I5 none5) t5 st) fun r s6 ⟨hr, I6⟩ => by subst hr; exact fin _ _ I6 qd
  · obtain ⟨go, step⟩ := turn i H5 lt p5
    refine thnF (T.item (X.blk s3 H3 scope (compEnvC scope cl C X.env) fp) rfl rfl rfl calm i [] s5 _ H5 (fun _ _ => False) I5 (here _ _ _ I5 none5) t5 go) fun r s6 ⟨u, hr, came⟩ => ?_
    subst hr
    refine thnF came fun _ s7 ⟨x, H7, I7, r7, y7, t7, none7⟩ => ?_
    refine thnF ((pg s3 H3 C cl fp).run _ s7 _ H7 x u _ (I7.pinned (here _ _ _ I7 none7) (T.obj _ _ t7)) r7 (step x H7 y7)) fun _ s8 ⟨σ8, H8, I8, same, q8⟩ => ?_
    refine thnF ((pi1 s3 H3 C cl fp).run _ s8 σ8 H8 _ I8 q8) fun _ s9 q9 => thnF q9 fun _ s10 came1 => ?_
    obtain ⟨it1, fp1, tn1, J1, H10, rfl, I10, T1, t10, clear1, n1, Pw, w0, turn1, stop1⟩ := came1
    have here1 : ∀ {H' : Hp}, (∀ b ∈ fp1, H' b = none) → ∀ b ∈ fp1, FpOk (X.blk s3 H3 scope (compEnvC scope cl C X.env) fp) ([] ++ pinsAt fp s7.heap) H' b := fun z b hb => ⟨z b hb, (clear1 b hb).2⟩
    have loop1 : codeAny (model X.prog X.w) X.A (.compLoop (twice elt t0 i0 t1 i1 scope pos) 1 (.ref it1) (.ref D) (compEnvC scope cl C X.env))
        (fun r s' => (∃ f, r = .ok f) ∧ ∃ m, m < n - i ∧ ∃ i' H', m = n - i' ∧ i' ≤ n ∧ Inv (X.blk s3 H3 scope (compEnvC scope cl C X.env) fp) [] σ4 H' s' ∧ tn i' s'.heap ∧ (∀ b ∈ fp, H' b = none) ∧ Pv i' H') s10 := by
      refine inner_loop (fun k s' => ∃ j H', k = n1 - j ∧ j ≤ n1 ∧ Inv (X.blk s3 H3 scope (compEnvC scope cl C X.env) fp) ([] ++ pinsAt fp s7.heap) (wipe σ8 vs1) H' s' ∧ tn1 j s'.heap ∧ (∀ b ∈ fp1, H' b = none) ∧ Pw j H') ?_ n1 ⟨0, H10, rfl, Nat.zero_le _, I10.weak (wipe_length _ _) fun j v e => (wipe_some e).1, t10, fun b hb => (clear1 b hb).1, w0⟩
      rintro k s12 ⟨j, H12, rfl, le1, I12, t12, none12, p12⟩
      rcases Nat.eq_or_lt_of_le le1 with rfl | lt1
      · obtain ⟨st1, p'⟩ := stop1 H12 p12
        refine thnF (T1.done (X.blk s3 H3 scope (compEnvC scope cl C X.env) fp) rfl rfl rfl calm j _ s12 (wipe σ8 vs1) H12 (fun _ _ => False) I12 (here1 none12) t12 st1) fun r s13 ⟨hr, I13⟩ => ?_
        subst hr
        have stay : ∀ b ∈ fp, ∀ o, s7.heap.get? b = some o → s13.heap.get? b = some o ∧ H12 b = none := fun b hb o e => let z := I13.pin (b, o) (List.mem_append_right _ (List.mem_append_right _ (mem_pinsAt hb e))); ⟨z.1, z.2.1⟩
        refine ⟨⟨_, rfl⟩, n - (i + 1), by omega, i + 1, H12, rfl, lt, (I13.unpinned (pins := [])).weak (by rw [← same, wipe_length, wipe_length]) (fun j v e => ?_), T.keep _ _ _ t7 fun b hb o e => (stay b hb o e).1, fun b hb => ?_, p'⟩
        · rw [← same] at e
          obtain ⟨e1, e2⟩ := wipe_some e
          rw [wipe_out fun z => e2 (sub j z)]
          exact e1
        · obtain ⟨o, e, _⟩ := T.obj _ _ t7 b hb
          exact (stay b hb o e).2
      · obtain ⟨go1, step1⟩ := turn1 j H12 lt1 p12
        refine thnF (T1.item (X.blk s3 H3 scope (compEnvC scope cl C X.env) fp) rfl rfl rfl calm j _ s12 (wipe σ8 vs1) H12 (fun _ _ => False) I12 (here1 none12) t12 go1) fun r s13 ⟨u1, hr, came2⟩ => ?_
        subst hr
        refine thnF came2 fun _ s14 ⟨x1, H14, I14, r14, y14, t14, none14⟩ => ?_
        refine thnF ((pg1 s3 H3 C cl fp).run _ s14 (wipe σ8 vs1) H14 x1 u1 _ (I14.pinned (here1 none14) (T1.obj _ _ t14)) r14 (step1 x1 H14 y14)) fun _ s15 ⟨σ15, H15, I15, same1, q15⟩ => ?_
        refine thnF ((pe s3 H3 C cl fp).run _ s15 σ15 H15 _ I15 q15) fun z s16 ⟨y, H16, I16, r16, jn⟩ => ?_
        refine thnF (join_set (X := X.blk s3 H3 scope (compEnvC scope cl C X.env) fp) (E := fun _ _ => False) I16 r16 jn) fun _ s17 ⟨H17, I17, p17⟩ => ?_
        have stay1 : ∀ b ∈ fp1, ∀ o, s14.heap.get? b = some o → s17.heap.get? b = some o ∧ H17 b = none := fun b hb o e => let z := I17.pin (b, o) (List.mem_append_right _ (List.mem_append_right _ (mem_pinsAt hb e))); ⟨z.1, z.2.1⟩
        refine ⟨n1 - (j + 1), by omega, j + 1, H17, rfl, lt1, I17.unpinned.weak (by rw [← same1, wipe_length]) (fun j v e => by rw [← same1] at e; exact (wipe_some e).1), T1.keep _ _ _ t14 fun b hb o e => (stay1 b hb o e).1, fun b hb => ?_, p17⟩
        obtain ⟨o, e, _⟩ := T1.obj _ _ t14 b hb
        exact (stay1 b hb o e).2
    exact inner_start loop1 (T1.self X.A 0 _ _ _ t10 loop1)
end
end GX
set_option Elab.async false
set_option linter.all false
set_option maxRecDepth 100000
set_option maxHeartbeats 4000000
/-! sorted({..}) over data -/
namespace G
open PySem L2
section
variable {Z : Wd} {M H M' H' : Hp} {B : Bas} {W : List (Nat × Addr)} {σ σ' : St} {δ : List S}
variable {te : TE} {tt : TT} {Ω : OD → List S → Prop} {bs vs vs1 : List Nat} {w : World}
theorem I3.turnO {A : Addr} {oA : HO} (I : I3 Z B W M H σ δ) (hA : H A = some oA) (hAm : M A = none) (hAo : ∀ j, ¬ Own σ δ j A) (hno : ∀ v ∈ vs, δ[v]? = some .no) (tA : NT oA := by exact fun _ e => nomatch e) :
    ∃ W2 : List (Nat × Addr), (∀ v ∈ vs, v ∉ W2.map (·.1)) ∧ I3 Z ⟨H, M⟩ W2 M H (wipe σ vs) δ ∧ ∀ M4 H4 σ4 δ4, Ex M M4 → (∀ j, j ∉ vs → σ4[j]? = (wipe σ vs)[j]?) → σ4.length = (wipe σ vs).length → I3 Z ⟨H, M⟩ W2 M4 H4 σ4 δ4 →
      (I3 Z B W M4 H4 σ (wipeS δ4 vs) ∧ H4 A = some oA ∧ M4 A = none ∧ (∀ j, ¬ Own σ (wipeS δ4 vs) j A) ∧ ∀ v ∈ vs, (wipeS δ4 vs)[v]? = some .no) ∧ I3 Z B W M4 H4 σ4 δ4 ∧ (∀ j, ¬ Own σ4 δ4 j A) ∧ ∀ v p, v ∈ vs → (v, p) ∉ W := by
  have hvlen : ∀ v ∈ vs, v < δ.length := fun v hv => (List.getElem?_eq_some_iff.mp (hno v hv)).1
  have hWv : ∀ i p, i ∈ vs → (i, p) ∉ W := fun i p hv hw => by
    exact Own.not (hno i hv) hol_no (I.bor i p hw)
  have Iw : I3 Z B W M H (wipe σ vs) δ := I.swap (fun j hj => wipe_out hj) (wipe_length _ _) (fun _ _ => rfl) (fun j hj _ => hno j hj) rfl hWv
  have hbs : ∀ v ∈ vs, v ∉ (owns 0 (wipe σ vs) δ).map (·.1) := fun v hv hm => by
    obtain ⟨⟨i, p⟩, hmem, rfl⟩ := List.mem_map.mp hm
    exact Own.not (hno _ hv) hol_no (mem_owns.mp hmem)
  have ownEq : ∀ i p, (i, p) ∈ owns 0 (wipe σ vs) δ ↔ Own σ δ i p := fun i p => by
    rw [mem_owns]
    constructor
    · intro o
      have hi' : i ∉ vs := fun hv => Own.not (hno i hv) hol_no o
      exact o.same (wipe_out hi').symm rfl
    · intro o
      have hi' : i ∉ vs := fun hv => Own.not (hno i hv) hol_no o
      exact o.same (wipe_out hi') rfl
  refine ⟨_, hbs, Iw.rebase, fun M4 H4 σ4 δ4 e4 k4 l4 J4 => ?_⟩
  have hl4 : δ4.length = δ.length := by rw [← J4.len, l4, wipe_length, I.len]
  have J5 : I3 Z ⟨H, M⟩ (owns 0 (wipe σ vs) δ) M4 H4 σ (wipeS δ4 vs) := J4.swap (vs := vs) (fun j hj => by rw [k4 j hj, wipe_out hj]) (by rw [l4, wipe_length]) (fun j hj => wipeS_out hj) (fun j hj hlt => wipeS_in (by rw [wipeS_len] at hlt; exact hlt) hj) (wipeS_len _) fun i p hv hw => hbs i hv (List.mem_map_of_mem (f := (·.1)) hw)
  obtain ⟨z1, z2, z3⟩ := J5.stays (a := A) hA hAm (fun i hi => hAo i ((ownEq i A).mp hi)) tA
  obtain ⟨_, y2, _⟩ := J4.stays (a := A) hA hAm (fun i hi => hAo i ((ownEq i A).mp hi)) tA
  exact ⟨⟨I.back ownEq J5, z1, z3, z2, fun v hv => wipeS_in (by rw [hl4]; exact hvlen v hv) hv⟩, I.back ownEq J4, y2, hWv⟩
/-- the set at A has just these members -/
def SetHas (w : World) (H : Hp) (A : Addr) (acc : List Int) : Prop := ∃ us : List Int, H A = some (SetO w A (fun k => decide (k ∈ acc)) us.length) ∧ us.Nodup ∧ ∀ k, k ∈ us ↔ k ∈ acc
theorem SetHas.new {A : Addr} : SetHas w (upd H A (SetO w A (fun _ => false) 0)) A [] := ⟨[], by rw [upd_same]; congr, .nil, by simp⟩
theorem nodup_le : ∀ {us l : List Int}, us.Nodup → (∀ k ∈ us, k ∈ l) → us.length ≤ l.length
  | [], _, _, _ => Nat.zero_le _
  | u :: us, l, n, h => by
    obtain ⟨n1, n2⟩ := List.nodup_cons.mp n
    have hu := h u List.mem_cons_self
    have := nodup_le (us := us) (l := l.erase u) n2 fun k hk => (List.mem_erase_of_ne (fun (e : k = u) => n1 (by rw [← e]; exact hk))).mpr (h k (List.mem_cons_of_mem _ hk))
    rw [List.length_erase_of_mem hu] at this
    have := List.length_pos_of_mem hu
    rw [List.length_cons]; omega
theorem SetHas.join {A : Addr} {acc : List Int} {k : Int} {on : Hp → Prop} (h : SetHas w H A acc) (room : acc.length < 4000) (go : ∀ o, SetHas w (upd H A o) A (acc ++ [k]) → on (upd H A o)) : GX.joins w A (.int k) H on := by
  obtain ⟨us, h1, h2, h3⟩ := h
  have l := nodup_le h2 fun k hk => (h3 k).mp hk
  have s4 : PySem.scanBound = 4096 := rfl
  refine ⟨k, _, _, rfl, h1, by rw [s4]; omega, go _ ?_⟩
  have e : (fun j => decide (j ∈ acc) || decide (j = k)) = fun j => decide (j ∈ acc ++ [k]) := by funext j; simp
  by_cases c : k ∈ acc
  · refine ⟨us, ?_, h2, fun j => ?_⟩
    · rw [upd_same, e, if_pos (by simpa using c)]
    · rw [h3, List.mem_append, List.mem_singleton]
      exact ⟨.inl, fun z => z.elim id fun z => z ▸ c⟩
  · refine ⟨us ++ [k], ?_, ?_, fun j => ?_⟩
    · rw [upd_same, e, if_neg (by simpa using c), List.length_append, List.length_singleton]
    · refine List.nodup_append.mpr ⟨h2, by simp, fun x hx y hy z => ?_⟩
      rw [List.mem_singleton.mp hy] at z
      exact c (z ▸ (h3 x).mp hx)
    · rw [List.mem_append, List.mem_append, h3]
/-- sorted of such a set -/
theorem sort_set {A : Addr} {acc few : List Int} {Q : VK} {M1 H1 : Hp} {δ1 : List S} (h : SetHas w H1 A acc) (lf : few.length < 64) (hf : ∀ k ∈ acc, k ∈ few) (I1 : I3 Z B W M1 H1 σ δ1) (e : Ex M M1) (f : ∀ ns : List Int, ns.Pairwise (· < ·) → (∀ k, k ∈ ns ↔ k ∈ acc) → Ω (.lst (ns.map .int)) δ1)
    (q : ∀ M' H' δ' p ho y, Ω y δ' → Ex M M' → I3 Z B W M' H' σ δ' → H' p = some ho → ODAt Z M' ho y → M' p = none → B.h p = none → (∀ i, ¬ Own σ δ' i p) → Q (.ref p) H') : rSortedSet w [.ref A] H1 Q := by
  obtain ⟨us, h1, h2, h3⟩ := h
  have l := nodup_le (l := few) h2 fun k hk => hf k ((h3 k).mp hk)
  exact ⟨A, _, _, rfl, h1, by omega, fun ns p asc mem _ hp => newO (o := .lst _) (y := .lst _) I1 hp (AtL.ofInts ns) (f ns asc fun k => (mem k).trans (by simp)) e q⟩
theorem xo_sort1 {g : TG} {wi : TI} (h : XI Z wi δ fun xs δ0 => (∀ v ∈ vs, δ0[v]? = some .no) ∧ xs.length ≤ 1000 ∧ ∃ J : Nat → List Int → List S → Prop, J 0 [] δ0 ∧
      (∀ i d acc δ1 bs, (∀ v ∈ vs, v ∉ bs) → xs[i]? = some d → J i acc δ1 → XG Z vs bs g d δ1 fun δ2 => XT Z tt δ2 fun b δ3 => if b = true then XE Z te δ3 fun y δ4 => ∃ k, y = .int k ∧ J (i + 1) (acc ++ [k]) (wipeS δ4 vs) else J (i + 1) acc (wipeS δ3 vs)) ∧
      ∀ acc δ1, J xs.length acc δ1 → ∃ few : List Int, few.length < 64 ∧ (∀ k ∈ acc, k ∈ few) ∧ ∀ ns : List Int, ns.Pairwise (· < ·) → (∀ k, k ∈ ns ↔ k ∈ acc) → Ω (.lst (ns.map .int)) δ1) :
    XO Z (tCB (rSortedSet w) (tCons (GX.tSetC w wi vs (GX.job1 w g tt te vs)) tNil)) δ Ω := XO.mk fun B W M H σ Q I q =>
  h B W M H σ _ I fun M' H1 δ' J xs f e1 I1 wd A hA => by
    obtain ⟨hno, hxs, Jv, j0, js, jn⟩ := f
    have hAB := I1.fresh hA
    have hAm := I1.ex.free hA
    refine ⟨xs.length, fun i H => i ≤ xs.length → ∃ M'' δ'' acc, Ex M' M'' ∧ I3 Z B W M'' H σ δ'' ∧ Jv i acc δ'' ∧ SetHas w H A acc ∧ M'' A = none ∧ (∀ j, ¬ Own σ δ'' j A) ∧ (∀ v ∈ vs, δ''[v]? = some .no) ∧ acc.length ≤ i,
      fun _ => ⟨M', δ', [], Ex.rfl', I1.other hAB hAm (I1.newOwn hA), j0, .new, hAm, I1.newOwn hA, hno, Nat.le_refl _⟩, fun i Ha hi p => ?_, fun Ha p => ?_⟩
    · obtain ⟨M'', δ'', acc, a, Ia, ja, has, hAm1, hAo, hno1, hacc⟩ := p (Nat.le_of_lt hi)
      refine ⟨wd.go i Ha hi (a.tr Ia.ex), fun x Hb yl => ?_⟩
      obtain ⟨us, hA1, nd, mem⟩ := has
      obtain ⟨d, M2, hd, e2, I2, at2, k2, m2⟩ := YD.use (wd.walk.yields i Ha x Hb hi (a.tr Ia.ex) yl) a Ia
      obtain ⟨W2, hbs, Iw, fin⟩ := I2.turnO (vs := vs) (k2 _ _ hA1) (m2 _ _ hA1 hAm1) hAo hno1
      refine js i d acc δ'' _ hbs hd ja _ _ M2 Hb (wipe σ vs) x _ rfl Iw at2 fun M3 H3 σ3 δ3 h3 e3 J3 k3 l3 => ⟨(wipe_eq k3 l3).trans (wipe_eq (fun j hj => wipe_out hj) (wipe_length _ _)), ?_⟩
      refine h3 _ _ M3 H3 σ3 _ J3 fun M4 H4 δ4 b h4 e4 J4 => ?_
      cases b with
      | false =>
        rw [if_neg Bool.false_ne_true] at h4 ⊢
        obtain ⟨⟨z1, z2, z3, z4, z5⟩, _⟩ := fin M4 H4 σ3 δ4 (e3.tr e4) k3 l3 J4
        exact fun _ => ⟨M4, _, _, a.tr (e2.tr (e3.tr e4)), z1, h4, ⟨us, z2, nd, mem⟩, z3, z4, z5, Nat.le_succ_of_le hacc⟩
      | true =>
        rw [if_pos rfl] at h4 ⊢
        refine XE.run h4 J4 fun M5 H5 δ5 y' d' h5 e5 J5 at5 => ?_
        obtain ⟨k, rfl, h5⟩ := h5
        cases at5
        obtain ⟨⟨z1, z2, z3, z4, z5⟩, _⟩ := fin M5 H5 σ3 δ5 (e3.tr (e4.tr e5)) k3 l3 J5
        exact SetHas.join ⟨us, z2, nd, mem⟩ (by omega) fun o has' _ => ⟨M5, _, _, a.tr (e2.tr (e3.tr (e4.tr e5))), z1.other hAB z3 z4, h5, has', z3, z4, z5, by rw [List.length_append, List.length_singleton]; omega⟩
    · obtain ⟨M'', δ'', acc, a, Ia, ja, has, hAm1, hAo, hno1, _⟩ := p (Nat.le_refl _)
      obtain ⟨few, lf, hf, f⟩ := jn _ _ ja
      exact ⟨wd.stop Ha (a.tr Ia.ex), sort_set has lf hf Ia (e1.tr a) f q⟩
theorem xo_sort2 {g g1 : TG} {wi wi1 : TI} (h : XI Z wi δ fun xs δ0 => (∀ v ∈ vs, δ0[v]? = some .no) ∧ xs.length ≤ 40 ∧ ∃ J : Nat → List Int → List S → Prop, J 0 [] δ0 ∧
      (∀ i d acc δ1 bs, (∀ v ∈ vs, v ∉ bs) → xs[i]? = some d → J i acc δ1 → XG Z vs bs g d δ1 fun δ2 => XI Z wi1 δ2 fun zs δ4 => zs.length ≤ 90 ∧ (∀ v ∈ vs1, δ4[v]? = some .no) ∧ ∃ Jn : Nat → List Int → List S → Prop, Jn 0 acc δ4 ∧
        (∀ j e acc δ5 bs, (∀ v ∈ vs1, v ∉ bs) → zs[j]? = some e → Jn j acc δ5 → XG Z vs1 bs g1 e δ5 fun δ6 => XE Z te δ6 fun y δ8 => ∃ k, y = .int k ∧ Jn (j + 1) (acc ++ [k]) (wipeS δ8 vs1)) ∧
        ∀ acc δ5, Jn zs.length acc δ5 → J (i + 1) acc (wipeS δ5 vs)) ∧
      ∀ acc δ1, J xs.length acc δ1 → ∃ few : List Int, few.length < 64 ∧ (∀ k ∈ acc, k ∈ few) ∧ ∀ ns : List Int, ns.Pairwise (· < ·) → (∀ k, k ∈ ns ↔ k ∈ acc) → Ω (.lst (ns.map .int)) δ1) :
    XO Z (tCB (rSortedSet w) (tCons (GX.tSetC w wi vs (GX.job2 w g wi1 g1 te vs vs1)) tNil)) δ Ω := XO.mk fun B W M H σ Q I q =>
  h B W M H σ _ I fun M' H1 δ' J xs f e1 I1 wd A hA => by
    obtain ⟨hno, hxs, Jv, j0, js, jn⟩ := f
    have hAB := I1.fresh hA
    have hAm := I1.ex.free hA
    refine ⟨xs.length, fun i H => i ≤ xs.length → ∃ M'' δ'' acc, Ex M' M'' ∧ I3 Z B W M'' H σ δ'' ∧ Jv i acc δ'' ∧ SetHas w H A acc ∧ M'' A = none ∧ (∀ j, ¬ Own σ δ'' j A) ∧ (∀ v ∈ vs, δ''[v]? = some .no) ∧ acc.length ≤ 90 * i,
      fun _ => ⟨M', δ', [], Ex.rfl', I1.other hAB hAm (I1.newOwn hA), j0, .new, hAm, I1.newOwn hA, hno, Nat.le_refl _⟩, fun i Ha hi p => ?_, fun Ha p => ?_⟩
    · obtain ⟨M'', δ'', acc, a, Ia, ja, has, hAm1, hAo, hno1, hacc⟩ := p (Nat.le_of_lt hi)
      refine ⟨wd.go i Ha hi (a.tr Ia.ex), fun x Hb yl => ?_⟩
      obtain ⟨us, hA1, nd, mem⟩ := has
      obtain ⟨d, M2, hd, e2, I2, at2, k2, m2⟩ := YD.use (wd.walk.yields i Ha x Hb hi (a.tr Ia.ex) yl) a Ia
      obtain ⟨W2, hbs, Iw, fin⟩ := I2.turnO (vs := vs) (k2 _ _ hA1) (m2 _ _ hA1 hAm1) hAo hno1
      refine js i d acc δ'' _ hbs hd ja _ _ M2 Hb (wipe σ vs) x _ rfl Iw at2 fun M3 H3 σ3 δ3 h3 e3 J3 k3 l3 => ⟨(wipe_eq k3 l3).trans (wipe_eq (fun j hj => wipe_out hj) (wipe_length _ _)), ?_⟩
      refine h3 _ _ M3 H3 σ3 _ J3 fun M5 H5 δ5 J1 zs h5 e5 J5 wd1 => ?_
      obtain ⟨hzs, hno5, Jn, n0, ns, nn⟩ := h5
      have ex5 : Ex M2 M5 := e3.tr e5
      obtain ⟨⟨_, y2, y3, _, _⟩, yI, yO, hWv⟩ := fin M5 H5 σ3 δ5 ex5 k3 l3 J5
      refine ⟨zs.length, fun j H => j ≤ zs.length → ∃ M6 δ6 acc6, Ex M5 M6 ∧ I3 Z B W M6 H σ3 δ6 ∧ Jn j acc6 δ6 ∧ SetHas w H A acc6 ∧ M6 A = none ∧ (∀ j, ¬ Own σ3 δ6 j A) ∧ (∀ v ∈ vs1, δ6[v]? = some .no) ∧ acc6.length ≤ 90 * i + j ∧ δ6.length = δ''.length,
        fun _ => ⟨M5, δ5, acc, Ex.rfl', yI, n0, ⟨us, y2, nd, mem⟩, y3, yO, hno5, by omega, by rw [← yI.len, l3, wipe_length, I2.len]⟩, fun j Hc hj p => ?_, fun Hc p => ?_⟩
      · obtain ⟨M6, δ6, acc6, a6, I6, j6, has6, hAm6, hAo6, hno6, hacc6, hlen6⟩ := p (Nat.le_of_lt hj)
        refine ⟨wd1.go j Hc hj (a6.tr I6.ex), fun x1 Hd yl1 => ?_⟩
        obtain ⟨us6, hA6, nd6, mem6⟩ := has6
        obtain ⟨d7, M7, hd7, e7, I7, at7, k7, m7⟩ := YD.use (wd1.walk.yields j Hc x1 Hd hj (a6.tr I6.ex) yl1) a6 I6
        obtain ⟨W7, hbs7, Iw7, fin7⟩ := I7.turnO (vs := vs1) (k7 _ _ hA6) (m7 _ _ hA6 hAm6) hAo6 hno6
        refine ns j d7 acc6 δ6 _ hbs7 hd7 j6 _ _ M7 Hd (wipe σ3 vs1) x1 _ rfl Iw7 at7 fun M8 H8 σ8 δ8 h8 e8 J8 k8 l8 => ⟨(wipe_eq k8 l8).trans (wipe_eq (fun j hj => wipe_out hj) (wipe_length _ _)), ?_⟩
        refine XE.run h8 J8 fun M0 H0 δ0 y' d' h0 e0 J0 at0 => ?_
        obtain ⟨k, rfl, h0⟩ := h0
        cases at0
        have ex0 : Ex M7 M0 := e8.tr e0
        obtain ⟨⟨z1, z2, z3, z4, z5⟩, _⟩ := fin7 M0 H0 σ8 δ0 ex0 k8 l8 J0
        exact SetHas.join ⟨us6, z2, nd6, mem6⟩ (by omega) fun o has' _ => ⟨M0, _, _, a6.tr (e7.tr ex0), z1.other hAB z3 z4, h0, has', z3, z4, z5, by rw [List.length_append, List.length_singleton]; omega, by rw [← z1.len, I7.len, hlen6]⟩
      · obtain ⟨M6, δ6, acc6, a6, I6, j6, has6, hAm6, hAo6, hno6, hacc6, hlen6⟩ := p (Nat.le_refl _)
        have hvlen : ∀ v ∈ vs, v < δ6.length := fun v hv => by rw [hlen6]; exact (List.getElem?_eq_some_iff.mp (hno1 v hv)).1
        have Jb : I3 Z B W M6 Hc σ (wipeS δ6 vs) := I6.swap (vs := vs) (fun j hj => by rw [k3 j hj, wipe_out hj]) (by rw [l3, wipe_length]) (fun j hj => wipeS_out hj) (fun j hj hlt => wipeS_in (by rw [wipeS_len] at hlt; exact hlt) hj) (wipeS_len _) fun i p hv => hWv i p hv
        refine ⟨wd1.stop Hc (a6.tr I6.ex), fun _ => ⟨M6, wipeS δ6 vs, acc6, a.tr (e2.tr (ex5.tr a6)), Jb, nn _ _ j6, has6, hAm6, fun j o => ?_, fun v hv => wipeS_in (hvlen v hv) hv, by omega⟩⟩
        have hj' : j ∉ vs := fun hv => Own.not (wipeS_in (hvlen j hv) hv) hol_no o
        exact hAo6 j (o.same (by rw [k3 j hj', wipe_out hj']) (wipeS_out hj').symm)
    · obtain ⟨M'', δ'', acc, a, Ia, ja, has, hAm1, hAo, hno1, _⟩ := p (Nat.le_refl _)
      obtain ⟨few, lf, hf, f⟩ := jn _ _ ja
      exact ⟨wd.stop Ha (a.tr Ia.ex), sort_set has lf hf Ia (e1.tr a) f q⟩
end
end G
set_option Elab.async false
set_option linter.all false
set_option maxRecDepth 100000
set_option maxHeartbeats 4000000
/-! own dicts with ints as keys; bits -/
namespace GX
open PySem PySem.Spec PyProof.Rows L2
section
variable {X : Cx} {elt tg iter tg1 iter1 : Expr} {scope : Scope} {own : List (PySem.Str × Nat)} {pos : Pos} {wi wi1 : TI} {g g1 : TG} {tt : TT} {te : TE} {vs1 : List Nat}
theorem pe_set1 {ifs : List Expr} (calm : X.calm = true) (nd : X.N.Nodup) (src : PI X tg iter wi) (blk : BlkOk X.N X.env.scope scope own) (pg : ∀ (s : Shared) (H : Hp) (C : Addr) (cl : List (PySem.Str × Addr)) (fp : List Addr), PG (X.blk s H scope (compEnvC scope cl C X.env) fp) tg g)
    (pt : ∀ (s : Shared) (H : Hp) (C : Addr) (cl : List (PySem.Str × Addr)) (fp : List Addr), PTs (X.blk s H scope (compEnvC scope cl C X.env) fp) ifs tt) (pe : ∀ (s : Shared) (H : Hp) (C : Addr) (cl : List (PySem.Str × Addr)) (fp : List Addr), PE (X.blk s H scope (compEnvC scope cl C X.env) fp) elt te)
    (plain : ∀ x, foldedSetIterable iter X.env x = pure x := by intro _; rfl) : PE X (.SetComp elt [⟨tg, iter, ifs, 0⟩] scope pos) (tSetC X.w wi (own.map (·.2)) (job1 X.w g tt te (own.map (·.2)))) := pe_setC calm nd src blk (does1 pg pt pe) plain
theorem pe_set2 (calm : X.calm = true) (nd : X.N.Nodup) (src : PI X tg iter wi) (blk : BlkOk X.N X.env.scope scope own) (sub : ∀ i ∈ vs1, i ∈ own.map (·.2)) (pg : ∀ (s : Shared) (H : Hp) (C : Addr) (cl : List (PySem.Str × Addr)) (fp : List Addr), PG (X.blk s H scope (compEnvC scope cl C X.env) fp) tg g)
    (pi1 : ∀ (s : Shared) (H : Hp) (C : Addr) (cl : List (PySem.Str × Addr)) (fp : List Addr), PI (X.blk s H scope (compEnvC scope cl C X.env) fp) tg1 iter1 wi1) (pg1 : ∀ (s : Shared) (H : Hp) (C : Addr) (cl : List (PySem.Str × Addr)) (fp : List Addr), PG (X.blk s H scope (compEnvC scope cl C X.env) fp) tg1 g1)
    (pe : ∀ (s : Shared) (H : Hp) (C : Addr) (cl : List (PySem.Str × Addr)) (fp : List Addr), PE (X.blk s H scope (compEnvC scope cl C X.env) fp) elt te) (plain : ∀ x, foldedSetIterable iter X.env x = pure x := by intro _; rfl) (plain1 : ∀ env x, foldedSetIterable iter1 env x = pure x := by intro _ _; rfl) :
    PE X (.SetComp elt [⟨tg, iter, [], 0⟩, ⟨tg1, iter1, [], 0⟩] scope pos) (tSetC X.w wi (own.map (·.2)) (job2 X.w g wi1 g1 te (own.map (·.2)) vs1)) := pe_setC calm nd src blk (does2 pg pi1 pg1 pe sub plain1) plain
end
end GX
namespace G
open PySem L2
theorem units1 {k : Nat} {A : PySem.Around} (r : Room k A) : A.units + 1 < cLine := by have := r.un; omega
section
variable {Z : Wd} {M H M' H' : Hp} {B : Bas} {W : List (Nat × Addr)} {σ σ' : St} {δ : List S}
variable {te ta tb ty tv : TE} {tt : TT} {s1 : TS} {Φ : D → List S → Prop} {Ω : OD → List S → Prop} {Λ : List D → List S → Prop} {bs vs : List Nat} {P : Po}
theorem I3.freezeD (I : I3 Z B W M H σ δ) {i : Nat} {kvs : List (Key × D)} (hi : ∀ p, (i, p) ∉ W) (h : δ[i]? = some (.own (.dic kvs))) : ∃ M', Ex M M' ∧ I3 Z B W M' H σ (δ.set i (.d (.dic (kvs.map (·.1)) (kvs.map (·.2))))) := by
  obtain ⟨o, e1, p, ho, rfl, e3, e4, e5⟩ := I.sl i _ h
  obtain ⟨vs, rfl, ak, a⟩ := e4.dicI
  have hO : Own σ δ i p := Own.mk e1 h
  have hl : i < δ.length := (List.getElem?_eq_some_iff.mp h).1
  have ex : Ex M (upd M p (.dK vs)) := Ex.new e5
  have es : σ.set i (some (.ref p)) = σ := by
    apply List.ext_getElem?
    intro j
    by_cases e : i = j
    · subst e; rw [List.getElem?_set_self (by rw [I.len]; exact hl), e1]
    · rw [List.getElem?_set_ne e]
  have bad : ∀ j q, Own σ (δ.set i (.d (.dic (kvs.map (·.1)) (kvs.map (·.2))))) j q → i ≠ j ∧ Own σ δ j q := fun j q o => by
    rw [← es] at o
    exact Own.setN (hol_d _) o
  refine ⟨_, ex, fun b u q => ?_, fun a u e n => ?_, I.keep, by rw [List.length_set]; exact I.len, fun j t e => ?_, fun j q w => ?_, fun j q o => I.own j q (bad j q o).2, fun j k q a b => I.dis j k q (bad j q a).2 (bad k q b).2⟩
  · by_cases z : b = p
    · subst z; rw [upd_same] at q; cases q; exact e3
    · rw [upd_ne z] at q; exact I.ex b u q
  · rcases I.own i p hO with z | z
    · exact absurd z (hi p)
    · rw [upd_ne (ne_of_none e z)]; exact I.mg a u e n
  · by_cases e' : i = j
    · subst e'
      rw [List.getElem?_set_self hl] at e; cases e
      exact ⟨_, e1, _, rfl, .dic upd_same ak a.len (a.mono ex).at'⟩
    · rw [List.getElem?_set_ne e'] at e
      obtain ⟨v, c, d⟩ := I.sl j t e
      refine ⟨v, c, ?_⟩
      cases t with
      | no => trivial
      | d x => obtain ⟨u, f, g⟩ := d; exact ⟨u, f, g.mono ex⟩
      | own z =>
        obtain ⟨q, hq, f, g, k, l⟩ := d
        subst f
        have hq' : q ≠ p := fun zz => e' (I.dis i j p hO (zz ▸ Own.mk c e))
        exact ⟨q, hq, rfl, g, k.mono ex, by rw [upd_ne hq']; exact l⟩
      | deal q cs n =>
        obtain ⟨r, f, g, k, l, m, o⟩ := d
        subst f
        have hr : r ≠ p := fun zz => e' (I.dis i j p hO (zz ▸ ⟨r, _, c, e, .inl rfl⟩))
        have hq : q ≠ p := fun zz => e' (I.dis i j p hO (zz ▸ ⟨r, _, c, e, .inr rfl⟩))
        exact ⟨r, rfl, g, k, by rw [upd_ne hr]; exact l, by rw [upd_ne hq]; exact m, o⟩
  · have e' : i ≠ j := fun e => hi q (e ▸ w)
    exact (I.bor j q w).same rfl (List.getElem?_set_ne e')
def keyD : Key → D | .inl i => .int i | .inr s => .str s
theorem key_at {v : V} {k : Key} (a : At Z M v (keyD k)) : v = kV k := by
  cases k with
  | inl i => cases (a : At Z M v (.int i)); rfl
  | inr s => cases (a : At Z M v (.str s)); rfl
theorem at_key {k : Key} : At Z M (kV k) (keyD k) := by
  cases k with
  | inl i => exact .int
  | inr s => exact .str
/-- what a dict has for a key -/
def dget (kvs : List (Key × D)) (k : Key) : Option D := (kvs.find? fun kv => decide (kv.1 = k)).map (·.2)
theorem dget_at {k : Key} : ∀ {kvs : List (Key × D)} {us : List (Key × V)}, us.map (·.1) = kvs.map (·.1) → AtL Z M (us.map (·.2)) (kvs.map (·.2)) → (dget kvs k = none → valV us k = none) ∧ ∀ d, dget kvs k = some d → ∃ v, valV us k = some v ∧ At Z M v d
  | [], [], _, _ => ⟨fun _ => rfl, nofun⟩
  | [], _ :: _, h, _ => nomatch h
  | _ :: _, [], h, _ => nomatch h
  | (k1, d1) :: kvs, (k2, v2) :: us, h, a => by
    obtain ⟨rfl, h'⟩ := List.cons.inj h
    obtain ⟨v, ws, e, a1, a2⟩ := AtL.inv (a : AtL Z M (v2 :: us.map (·.2)) (d1 :: kvs.map (·.2)))
    obtain ⟨rfl, rfl⟩ := List.cons.inj e
    have ih := dget_at (k := k) h' a2
    by_cases c : k2 = k
    · subst c
      refine ⟨fun z => by simp [dget] at z, fun d z => ⟨v2, valV_pos rfl, ?_⟩⟩
      simp [dget] at z
      exact z ▸ a1
    · have e1 : dget ((k2, d1) :: kvs) k = dget kvs k := by simp [dget, List.find?_cons, c]
      rw [e1, valV_neg c]
      exact ih
theorem xo_dnew (h : Ω (.dic []) δ) : XO Z tDNewK δ Ω := XO.mk fun B W M H σ Q I q => fun p hp => newO (o := .dK []) (y := .dic []) I hp ⟨rfl, .nil⟩ h Ex.rfl' q
/-- d[k], d an own dict -/
theorem xe_dgetO {i : Nat} (hv : ∃ y, δ[i]? = some (.own y)) (h : XE Z ty δ fun b δ2 => ∃ kvs k d, δ2[i]? = some (.own (.dic kvs)) ∧ b = keyD k ∧ dget kvs k = some d ∧ Φ d δ2) : XE Z (tDGet (tVar i) ty) δ Φ := XE.mk fun B W M H σ Q I q => by
  obtain ⟨y, hy⟩ := hv
  obtain ⟨o, e, p, ho, rfl, _⟩ := I.sl i _ hy
  refine ⟨_, e, h.run I fun M2 H2 δ2 v b h2 e2 I2 at2 => ?_⟩
  obtain ⟨kvs, k, d, hx, rfl, hd, f⟩ := h2
  obtain ⟨o', e', p', ho', rfl, hp', hy', _⟩ := I2.sl i _ hx
  rw [e] at e'; cases e'
  obtain ⟨us, rfl, ks, a⟩ := hy'.dicI
  obtain ⟨v1, hv1, a1⟩ := (dget_at ks a).2 d hd
  cases key_at at2
  exact ⟨_, v1, rfl, hv1 ▸ DGet.k hp', q M2 H2 δ2 _ _ f e2 I2 a1⟩
/-- d[k], d a datum -/
theorem xe_dget (h : XE Z ta δ fun a δ1 => XE Z ty δ1 fun b δ2 => ∃ kvs k d, a = .dic (kvs.map (·.1)) (kvs.map (·.2)) ∧ b = keyD k ∧ dget kvs k = some d ∧ Φ d δ2) : XE Z (tDGet ta ty) δ Φ := XE.mk fun B W M H σ Q I q =>
  h.run I fun M1 H1 δ1 x a h1 e1 I1 at1 => XE.run h1 I1 fun M2 H2 δ2 v b h2 e2 I2 at2 => by
    obtain ⟨kvs, k, d, rfl, rfl, hd, f⟩ := h2
    cases key_at at2
    cases at1.mono e2 with
    | dic m ks l c =>
      obtain ⟨v1, hv1, a1⟩ := (dget_at (M := M2) ks ⟨l, c⟩).2 d hd
      exact ⟨_, v1, rfl, hv1 ▸ DGet.k (I2.ex _ _ m), q M2 H2 δ2 _ _ f (e1.tr e2) I2 a1⟩
/-- d[k] = v, a new key of an own dict -/
theorem xs_dput {i : Nat} (h : XE Z tv δ fun d δ1 => (∃ y, δ1[i]? = some (.own y)) ∧ XE Z ty δ1 fun b δ2 => ∃ kvs k, δ2[i]? = some (.own (.dic kvs)) ∧ b = keyD k ∧ dget kvs k = none ∧ kvs.length < 1000000 ∧ P.N (δ2.set i (.own (.dic (kvs ++ [(k, d)]))))) :
    XS Z bs (sDPut (tVar i) ty tv) δ P := fun B W M H σ E hb I e => h.run I fun M1 H1 δ1 x d h1 e1 I1 at1 => by
  obtain ⟨⟨y, hy⟩, h1⟩ := h1
  obtain ⟨o, e0, p, ho, rfl, _⟩ := I1.sl i _ hy
  refine ⟨_, e0, XE.run h1 I1 fun M2 H2 δ2 v b h2 e2 I2 at2 => ?_⟩
  obtain ⟨kvs, k, hx, rfl, hd, hl, f⟩ := h2
  obtain ⟨o', e', p', ho', rfl, hp', hy', _⟩ := I2.sl i _ hx
  rw [e0] at e'; cases e'
  obtain ⟨us, rfl, ks, a⟩ := hy'.dicI
  cases key_at at2
  have no := (dget_at ks a).1 hd
  have lu : us.length = kvs.length := by simpa using congrArg List.length ks
  have put : putK us k x = us ++ [(k, x)] := by unfold putK; rw [valV_any, no]; rfl
  refine ⟨_, _, rfl, DPut.k hp' (Nat.lt_of_lt_of_le (by rw [lu]; exact hl) (by decide)), ?_⟩
  rw [put]
  refine e.nx _ _ _ _ f (e1.tr e2) (I2.write e0 hx (ho := .dK _) (y' := .dic _) ⟨by simp [ks], ?_⟩)
  rw [List.map_append, List.map_append]
  exact AtL.app a (.one (at1.mono e2))
/-- from here on slot i's dict is a datum -/
theorem xs_freezeD {i : Nat} {kvs : List (Key × D)} (hi : i ∉ bs) (h : δ[i]? = some (.own (.dic kvs))) (k : XS Z bs s1 (δ.set i (.d (.dic (kvs.map (·.1)) (kvs.map (·.2))))) P) : XS Z bs s1 δ P := fun B W M H σ E hb I e => by
  obtain ⟨M', ex, J⟩ := I.freezeD (not_bor hb hi) h
  exact k B W M' H σ E hb J (e.mono ex)
/-- list(d): the keys -/
theorem xo_listD (h : XE Z te δ fun a δ1 => ∃ kvs : List (Key × D), a = .dic (kvs.map (·.1)) (kvs.map (·.2)) ∧ Ω (.lst (kvs.map fun kv => keyD kv.1)) δ1) :
    XO Z (tCB (fun xs H Q => ∃ (a : Addr) (kvs : List (Key × V)), xs = [.ref a] ∧ Rd H a (.dK kvs) ∧ ∀ p, H p = none → Q (.ref p) (upd H p (.lst (kvs.map fun kv => kV kv.1)))) (tCons te tNil)) δ Ω := XO.mk fun B W M H σ Q I q =>
  h.run I fun M1 H1 δ1 x a h1 e1 I1 at1 => by
    obtain ⟨kvs, rfl, f⟩ := h1
    cases at1 with
    | @dic a us _ _ m ks l c =>
      refine ⟨a, us, rfl, .inl (I1.ex _ _ m), fun p hp => newO (o := .lst _) (y := .lst _) I1 hp ?_ f e1 q⟩
      have e : (us.map fun kv => kV kv.1) = (kvs.map (·.1)).map kV := by rw [← ks, List.map_map]; rfl
      show AtL Z M1 (us.map fun kv => kV kv.1) (kvs.map fun kv => keyD kv.1)
      rw [e, List.map_map]
      refine ⟨by simp, fun i v d h1 h2 => ?_⟩
      rw [List.getElem?_map] at h1 h2
      cases z : kvs[i]? with
      | none => rw [z] at h1; cases h1
      | some kv => rw [z] at h1 h2; cases h1; cases h2; exact at_key
/-- reversed(xs) -/
theorem xi_rev (h : XE Z te δ fun d δ1 => ∃ xs, d = .lst xs ∧ Λ xs.reverse δ1) : XI Z (iRev Z.K (tCons te tNil)) δ Λ := fun B W M H σ R I q =>
  h.run I fun M1 H1 δ1 x a h1 e1 I1 at1 => by
    obtain ⟨xs, rfl, f⟩ := h1
    cases at1 with
    | @lst a us _ k l c =>
      have here : ∀ {H' : Hp}, Ex M1 H' → SqL Z.K H' a us := fun e => SqL.of (e _ _ k)
      refine ⟨a, us, rfl, here I1.ex, q M1 H1 δ1 _ _ f e1 I1 ⟨fun i H hi e => ?_, fun H e => ?_, fun i H x H' M2 hi e1 e2 y => ?_⟩⟩
      · rw [List.length_reverse] at hi
        exact ⟨by omega, us, us[us.length - 1 - i]'(by omega), here e, by simp⟩
      · show us.length ≤ xs.reverse.length
        rw [List.length_reverse, l]; exact Nat.le_refl _
      · rw [List.length_reverse] at hi
        have hx := y.2 us (here (e1.tr e2))
        obtain ⟨d, hd, ad⟩ := AtL.getV (⟨l, c⟩ : AtL Z M1 us xs) hx
        refine ⟨d, ?_, .inl ⟨y.1, ad.mono e1⟩⟩
        rw [List.getElem?_reverse (by omega), ← l]
        exact hd
/-- 1 << k -/
theorem xe_oneShl (h : XE Z ta δ fun a δ1 => a = .int 1 ∧ XE Z tb δ1 fun b δ2 => ∃ k : Nat, b = .int (k : Int) ∧ k ≤ 1000 ∧ Φ (.int (2 ^ k)) δ2) : XE Z (tOp (fun x y H Q => ∃ k : Nat, x = .int 1 ∧ y = .int (k : Int) ∧ k ≤ 134217727 ∧ Q (.int (2 ^ k)) H) ta tb) δ Φ := XE.mk fun B W M H σ Q I q =>
  h.run I fun M1 H1 δ1 x a h1 e1 I1 at1 => by
    obtain ⟨rfl, h1⟩ := h1
    cases at1
    exact XE.run h1 I1 fun M2 H2 δ2 y b h2 e2 I2 at2 => by
      obtain ⟨k, rfl, l, f⟩ := h2
      cases at2
      exact ⟨k, rfl, rfl, by omega, q M2 H2 δ2 _ _ f (e1.tr e2) I2 .int⟩
end
end G
namespace G
open PySem L2
theorem pi_listK {X : L2.Cx} {K : PySem.W.Frag} {tg l : PySem.Expr} {tl : L2.TE} (hK : X.K = K) (h : L2.PE X l tl) : L2.PI X tg l (L2.iList K tl) := hK ▸ L2.pi_list h
theorem pt_truthK {X : L2.Cx} {K : PySem.W.Frag} {e : PySem.Expr} {te : L2.TE} (hK : X.K = K) (h : L2.PE X e te) (he : ∀ whole, isTrue e X.env whole = (do let v ← whole; standAt e.pos; holding [v] (truthy v))) : L2.PT X e (fun σ H Q => te σ H fun x H' => ∃ k, TruV K x H' k ∧ Q k H') := by
  subst hK; exact L2.pt_truth h he
end G
namespace G
open PySem L2
section
variable {Z : Wd} {δ : List S} {te : TE} {Φ : D → List S → Prop} {bs : List Nat} {P : Po}
/-- an own dict that is handed on -/
theorem xe_ofOD (h : XO Z te δ fun y δ' => ∃ kvs : List (Key × D), y = .dic kvs ∧ Φ (.dic (kvs.map (·.1)) (kvs.map (·.2))) δ') : XE Z te δ Φ := XE.mk fun B W M H σ Q I k =>
  h.run I fun M' H' δ' p ho y f e I' a b c d g => by
    obtain ⟨kvs, rfl, f⟩ := f
    obtain ⟨vs, rfl, ak, l⟩ := b.dicI
    have ex : Ex M' (upd M' p (.dK vs)) := Ex.new c
    exact k _ _ δ' _ _ f (e.tr ex) (I'.hold a c d g) (.dic upd_same ak l.len (l.mono ex).at')
/-- x op= e, of ints -/
theorem xs_augI {i : Nat} {m : Int} {g : Int → Int → Int} (hi : i ∉ bs) (h : XE Z te δ fun b δ1 => ∃ n, b = .int n ∧ P.N (δ1.set i (.d (.int (g m n))))) (h0 : δ[i]? = some (.d (.int m))) : XS Z bs (tAug i te (ipI g)) δ P := fun B W M H σ Ed hb I e => by
  obtain ⟨o, eo, v, rfl, at0⟩ := I.sl i _ h0
  refine ⟨v, eo, XE.run h I fun M1 H1 δ1 y b h1 e1 I1 at1 => ?_⟩
  obtain ⟨n, rfl, f⟩ := h1
  cases at0
  cases at1
  exact ⟨_, _, rfl, rfl, e.nx _ _ _ _ f e1 (I1.put (not_bor hb hi) (hol_d _) (slotD .int))⟩
end
end G
set_option Elab.async false
set_option linter.all false
set_option maxRecDepth 100000
/-! list.extend by a bare tuple -/
namespace GX
open PySem PySem.Spec PyProof.Rows L2
def rExtF : V → List V → Hp → VK → Prop := fun x vs H Q => ∃ l b o xs zs, x = .ref l ∧ vs = [.ref b] ∧ H l = some (.lst xs) ∧ H b = some (.frz o (.tup zs)) ∧ Bare o ∧ xs.length + zs.length ≤ sizeLine ∧ Q .non (upd H l (.lst (xs ++ zs)))
theorem mt_extF {X : Cx} : MtM X "list.extend" rExtF := by
  intro pins s σ H x vs v us Q I rx rv h
  obtain ⟨l, b, o, xs, zs, rfl, rfl, hH, hB, ⟨c1, c2, c3⟩, hz, q⟩ := h
  cases rx
  obtain ⟨u, rfl, ru⟩ := rv.one
  cases ru
  obtain ⟨z, its, n, r, hl, e⟩ := I.lstM hH
  obtain ⟨there, small, its2, r2, o', there', _, k2, d2⟩ := (show ObjOk X.prog X.w H s.heap b (.frz o (.tup zs)) from I.hok b _ hB)
  obtain rfl : o = o' := Option.some.inj (there.symm.trans there')
  have lz : its2.length = zs.length := (Vals.length r2).symm
  have lx : its.length = xs.length := (Vals.length r).symm
  have hsz : its.toArray.size + its2.toArray.size ≤ sizeLine := by rw [List.size_toArray, List.size_toArray]; omega
  have hlong : ¬ (!its.toArray.isEmpty && Builtin.List.listTooLong (its.toArray.size + its2.toArray.size)) = true := by
    rw [notLongL hsz, Bool.and_false]
    exact Bool.false_ne_true
  have e2 : s.heap.get? b = some { cls := .type "tuple", dict := none, data := .seq its2.toArray k2, slots := #[] } := by
    rw [there]; cases o; cases c1; cases c2; cases c3; cases d2; rfl
  refine call_meets F.slot_list_extend ⟨_, e, rfl⟩ F.entry_list_extend (F.args_list_extend_2 _ _)
    (AutoSeq1.list_extend_list_tuple_0 l its.toArray n b its2.toArray k2 hlong (by rw [List.size_toArray]; omega) (by omega)) ⟨e, e2, ?_⟩
  refine ⟨.non, _, I.lset (its' := its ++ its2) hH e (by simp) (r.append r2) ?_, rfl, q⟩
  rw [List.length_append]
  omega
end GX
namespace G
open PySem L2
section
variable {Z : Wd} {δ : List S} {te : TE} {Φ : D → List S → Prop}
theorem xe_extF {i : Nat} (hv : ∃ xs, δ[i]? = some (.own (.lst xs))) (h : XE Z te δ fun d δ1 => ∃ xs ys, δ1[i]? = some (.own (.lst xs)) ∧ d = .tupF ys ∧ xs.length + ys.length ≤ 1000000 ∧ Φ .non (δ1.set i (.own (.lst (xs ++ ys))))) : XE Z (tBM Z.K "list" GX.rExtF (tVar i) (tCons te tNil)) δ Φ := XE.mk fun B W M H σ Q I q => by
  obtain ⟨x0, hy⟩ := hv
  obtain ⟨o, e, p, ho, rfl, h0, h0', _⟩ := I.sl i _ hy
  obtain ⟨vs0, rfl, _⟩ := h0'.lstI
  refine ⟨_, e, .inl ⟨rfl, vs0, SqL.of h0⟩, h.run I fun M2 H2 δ2 y b h2 e2 I2 at2 => ?_⟩
  obtain ⟨xs, ys, hx, rfl, hl, f⟩ := h2
  obtain ⟨o', e', p', ho', rfl, hp', hy', _⟩ := I2.sl i _ hx
  rw [e] at e'; cases e'
  obtain ⟨vs, rfl, a⟩ := hy'.lstI
  cases at2 with
  | tupF k2 c1 c2 l2 al => exact ⟨_, _, _, vs, _, rfl, rfl, hp', I2.ex _ _ k2, ⟨c1, c2⟩, Nat.le_trans (by rw [a.len, l2]; exact hl) (by decide), q M2 _ _ _ _ f e2 (I2.write e hx (ho := .lst _) (y' := .lst _) (AtL.app a ⟨l2, al⟩)) .non⟩
end
end G
set_option Elab.async false
set_option linter.all false
set_option maxRecDepth 100000
set_option maxHeartbeats 4000000
/-! tuples of texts: t < u, and sorted of a list of them, the first of which is empty -/
namespace GX
open PySem PySem.Spec PySem.W PySem.SeqAt PyProof.Rows L2
end GX
namespace GX
open PySem PySem.Spec PySem.W PySem.SeqAt PyProof.Rows L2
end GX
namespace G
open PySem L2
end G
set_option Elab.async false
set_option linter.all false
set_option maxRecDepth 100000
set_option maxHeartbeats 4000000
/-! calls whose arguments all have names -/
namespace GX
open PySem PySem.Spec PyProof.Rows L2 ClX
end GX
namespace G
open PySem L2
end G
set_option Elab.async false
set_option linter.all false
set_option maxRecDepth 100000
set_option maxHeartbeats 4000000
/-! where nothing is being shown: repr and str of tuples and lists, defs that use them, the law's own call -/
namespace GG
open PySem PySem.Spec PyProof.Rows L2
/-- what a def promises where nothing is being shown -/
structure FnG (P : Program) (w : World) (K : PySem.W.Frag) (mg : Str → Option Value) (base : Heap) (CX : CXT) (k : Nat) (f : Addr) (fd : FuncData) (ps : List Str) (sp : Sp) : Prop where
  wide : ∀ {vs H Q E}, sp vs H Q E → vs.length = ps.length
  go : ∀ {A outer s H args us vs Q E}, A.guards = some [] → Room k A → Env0 P w K mg base A outer s H → BindsTo s fd args (ps.zip us) → Vals vs us → sp vs H Q E →
    codeAny (model P w) A (.call (.ref f) args) (CR CX outer P w H s Q E) s
section
variable {P : Program} {w : World} {K : PySem.W.Frag} {mg : Str → Option Value} {base : Heap} {k : Nat} {f : Addr} {fd : FuncData} {ps : List Str} {sp : Sp}
theorem FnG.of {CX : CXT} (F : FnOk P w K mg base CX k f fd ps sp) : FnG P w K mg base CX k f fd ps sp :=
  ⟨fun h => F.len _ _ _ _ h, fun _ hr e0 hb r hs => F.run _ _ _ _ _ _ _ _ _ hr e0 hb r hs⟩
theorem FnG.imp {CX : CXT} {sp' : Sp} (F : FnG P w K mg base CX k f fd ps sp) (h : ∀ vs H Q E, sp' vs H Q E → sp vs H Q E) : FnG P w K mg base CX k f fd ps sp' :=
  ⟨fun q => F.wide (h _ _ _ _ q), fun g hr e0 hb r hs => F.go g hr e0 hb r (h _ _ _ _ hs)⟩
theorem FnG.made {CX : CXT} {name qual : Str} {params : Arguments} {body : List Stmt} {scope : Scope} {dV kV doc pm cdv ct oc : Value} {an od : Option Addr} {osl : Array (Option Value)} {N : List Str}
    (lk : K.lookup f = some ⟨oc, od, .func (PySem.W.fnOf name qual params body scope dV kV doc pm an cdv ct), osl⟩) (hcd : PySem.W.codeIn K cdv qual = true) (S : FnScope N ps scope) (len : ∀ vs H Q E, sp vs H Q E → vs.length = ps.length)
    (bd : ∀ (A : Around) (outer : List Env) (s : Shared) (H : Hp) (vs : List V) (Q : VK) (E : XK), A.guards = some [] → Room k (A.deeper (envOfC qual scope s.heap.objs.size f cdv)) → sp vs H Q E →
      ∃ t, PSs (cxOf CX P w K mg base N qual scope f cdv A outer s H E) body t ∧ t { nx := fun _ H' => Q .non H', rt := Q } (start N vs) H) : FnG P w K mg base CX (k + 1) f (PySem.W.fnOf name qual params body scope dV kV doc pm an cdv ct) ps sp := by
  refine ⟨fun h => len _ _ _ _ h, fun {A outer s H args us vs Q E} g hr e0 hb rv hs => ?_⟩
  have kept : ∀ b o, base.get? b = some o → s.heap.get? b = some o := fun b o e => (e0.bs b o e).1
  have kin : K.In s.heap := e0.mod.kin.keeps kept
  have hkind : ∀ y ∈ ps.zip us, scope.names.lookup y.1 = some .local ∨ (scope.names.lookup y.1 = some .cell ∧ ((cellsFrom (s.heap.objs.size + 1) scope.names []).lookup y.1).isSome = true) := by
    rintro ⟨n, v⟩ hy
    exact (S.par n (List.of_mem_zip hy).1).imp id fun q => ⟨q, PySem.W.cellsFrom_some _ _ _ (.inl q)⟩
  have body := codeAny_call_function (prog := P) (w := w) (args := args) (R := CR CX outer P w H s Q E) hr.depth (kin _ _ lk) rfl S.co S.gen rfl
    (PySem.W.codeRec_of kin hcd)
  refine body (hb _ _ _ _ (wpAny_newFunctionEnv_cells S.kind hkind fun env he s1 x => ?_))
  cases he
  refine ⟨(e0.mod.nolimit.keeps kept).keeps x.toInCall.keep, codeAny_func ?_⟩
  obtain ⟨t, ht, hq⟩ := bd A outer s H vs Q E g (hr.deeper _) hs
  refine wpAny_mono (ht.run [] s1 (start N vs) H _ (inv_start S hr.hd e0 (len _ _ _ _ hs) rv x) hq) (fun fl s' z => ?_) fun _ _ z => z
  have close : ∀ {σ2 : L2.St} {H2 : Hp} {v : V} {u : Value}, Inv (cxOf CX P w K mg base N qual scope f cdv A outer s H E) [] σ2 H2 s' → RelV v u → Q v H2 → CE outer P w H s Q u s' := fun J ru q => ⟨_, _, J.os, J.bare, J.base, J.hok, ru, q⟩
  cases fl with
  | ret u => exact let ⟨_, _, _, J, ru, q⟩ := z; close J ru q
  | next => exact let ⟨_, _, J, q⟩ := z; close (v := V.non) J rfl q
  | brk => exact let ⟨_, _, _, q⟩ := z; False.elim q
  | cont => exact let ⟨_, _, _, q⟩ := z; False.elim q
end
/-! ### repr, str -/
end GG
namespace G
open PySem L2
end G
set_option Elab.async false
set_option linter.all false
set_option maxRecDepth 100000
set_option maxHeartbeats 4000000
/-! instances that one def alone holds: made, their methods called; slices of the script -/
namespace G
open PySem L2
section
variable {Z : Wd} {B : Bas} {W : List (Nat × Addr)} {M H : Hp} {σ : St} {δ : List S} {ta te : TE} {tl th : TO} {ts : TA} {Ψ : S → List S → Prop} {Ω : OD → List S → Prop} {Φ : D → List S → Prop} {C : Addr} {c i : Nat} {m : Str}
theorem xo_make {F : FB} {dvs : List V} {dds : List D} {E : XK} (hC : (Z.cl c).C = C) (hd : ∀ M : Hp, AtL Z M dvs dds)
    (h : XA Z ts δ fun ds δ1 => F (.ins c []) (ds ++ dds) fun s y => s = .d .non ∧ Ω y δ1) : XO Z (tMake C (spB Z F) dvs E ts) δ Ω := XO.mk fun B W M H σ Q I q =>
  h B W M H σ _ I fun M1 H1 δ1 vs ds h1 e1 I1 al x dx hx hdx hne => by
    subst hC
    have hm := I1.ex.free hx
    have ex2 : Ex H1 (upd (upd H1 dx (.own x)) x (.ins (Z.cl c).C dx [])) := fun b o e => by
      rw [upd_ne (ne_of_none e hx), upd_ne (ne_of_none e hdx)]; exact e
    refine ⟨M1, x, vs ++ dvs, _, .ins c [], ds ++ dds, _, rfl, upd_same, hm, ⟨rfl, rfl, .nil⟩, I1.ex.tr ex2, al.app (hd M1), h1, fun M' H' v s ho2 y2 g a1 a2 a3 a4 a5 a6 r => ?_⟩
    obtain ⟨rfl, f⟩ := g
    have rv : At Z M' v .non := r
    cases rv
    have keep : Ex H1 H' := fun b o e => a3 b o (ne_of_none e hx) (ex2 b o e)
    exact ⟨rfl, q M' H' δ1 x ho2 y2 f (e1.tr a1) (I1.after a1 a2 keep fun p o e n => a4 p o (ex2 p o e) n) a5 a6 (a4 x _ upd_same hm (fun _ e => nomatch e)) (I1.fresh hx) (I1.newOwn hx)⟩
theorem ins_free {fs : List (Str × V)} {gs : List (Str × D)} (e : fs.map (·.1) = gs.map (·.1)) (h : m ∉ gs.map (·.1)) : fs.lookup m = none := by
  rw [List.lookup_eq_none_iff]
  rintro ⟨g, v⟩ hg
  have : g ∈ gs.map (·.1) := by rw [← e]; exact List.mem_map_of_mem (f := (·.1)) hg
  exact bne_iff_ne.mpr fun e2 => h (by rw [e2]; exact this)
/-- o.m(..), o what slot i holds alone -/
theorem xr_methO {F : FB} {dvs : List V} {dds : List D} {E : XK} (hC : (Z.cl c).C = C) (hd : ∀ M : Hp, AtL Z M dvs dds) (hv : ∃ gs, δ[i]? = some (.own (.ins c gs)) ∧ m ∉ gs.map (·.1))
    (h : XA Z ts δ fun ds δ1 => ∃ y, δ1[i]? = some (.own y) ∧ F y (ds ++ dds) fun s y' => Ψ s (δ1.set i (.own y'))) : XR Z (tMeth C m (spB Z F) dvs E (tVar i) ts) δ Ψ := fun B W M H σ Q I q => by
  obtain ⟨gs, hy, hm⟩ := hv
  obtain ⟨o, e, p, ho, rfl, h0, h0', _⟩ := I.sl i _ hy
  obtain ⟨dx, fs, rfl, k1, _⟩ := h0'.insI
  subst hC
  refine ⟨_, e, p, dx, fs, rfl, h0, ins_free k1 hm, h B W M H σ _ I fun M1 H1 δ1 vs ds h1 e1 I1 al => ?_⟩
  obtain ⟨y1, hy1, f⟩ := h1
  obtain ⟨o', e', p', ho', rfl, hp', hy', hm'⟩ := I1.sl i _ hy1
  rw [e] at e'; cases e'
  refine ⟨M1, p, vs ++ dvs, ho', y1, ds ++ dds, _, rfl, hp', hm', hy', I1.ex, al.app (hd M1), f, fun M' H' v s ho2 y2 g a1 a2 a3 a4 a5 a6 r => ?_⟩
  exact q M' H' _ v s g (e1.tr a1) (I1.afterB e hy1 a1 a2 a3 a4 a5 a6) (ret_res I1 (own_setO hy1) r)
/-- len(o), o what slot i holds alone -/
theorem xe_ownLenO {F : FB} {E : XK} (hC : (Z.cl c).C = C) {gs : List (Str × D)} (hv : δ[i]? = some (.own (.ins c gs))) (h : F (.ins c gs) [] fun s y' => ∃ n : Nat, s = .d (.int n) ∧ n < 2 ^ 62 ∧ Φ (.int n) (δ.set i (.own y'))) :
    XE Z (tCB (GX.rOwnLen C (spB Z F) E) (tCons (tVar i) tNil)) δ Φ := XE.mk fun B W M H σ Q I q => by
  obtain ⟨o, e, p, ho, rfl, h0, h0', hm⟩ := I.sl i _ hv
  obtain ⟨dx, fs, rfl, k1, _⟩ := h0'.insI
  subst hC
  refine ⟨_, e, ⟨p, dx, fs, rfl, h0⟩, M, p, [], _, _, [], _, rfl, h0, hm, h0', I.ex, .nil, h, fun M' H' v s ho2 y2 g a1 a2 a3 a4 a5 a6 r => ?_⟩
  obtain ⟨n, rfl, hn, f⟩ := g
  have rv : At Z M' v (.int n) := r
  cases rv
  exact ⟨n, rfl, hn, q M' H' _ _ _ f a1 (I.afterB e hv a1 a2 a3 a4 a5 a6) .int⟩
end
end G
set_option Elab.async false
set_option linter.all false
set_option maxRecDepth 100000
set_option maxHeartbeats 4000000
/-! calls within comprehensions within comprehensions: their rules know K -/
namespace G
open PySem L2
end G
set_option Elab.async false
set_option linter.all false
set_option maxRecDepth 100000
set_option maxHeartbeats 4000000
/-! defs that borrow their first two arguments, each an object that the caller alone holds -/
namespace G
open PySem L2
end G
set_option Elab.async false
set_option linter.all false
set_option maxRecDepth 100000
set_option maxHeartbeats 4000000
/-! tuples known to be plain ones; own dicts whose keys are such tuples -/
namespace G
open PySem L2
end G
set_option Elab.async false
set_option linter.all false
set_option maxRecDepth 100000
set_option maxHeartbeats 4000000
/-! dicts of lists that grow; dict comprehensions; dicts that are walked; sorted of any alike data -/
namespace GX
open PySem PySem.Spec PySem.W PySem.SeqAt PyProof.Rows L2
end GX
namespace G
open PySem L2
section
variable {Z : Wd} {M H M' H' : Hp} {B : Bas} {W : List (Nat × Addr)} {σ σ' : St} {δ δ' : List S}
variable {te ta tb ty tv tk : TE} {tt : TT} {s1 s2 : TS} {Φ : D → List S → Prop} {Ω : OD → List S → Prop} {Λ : List D → List S → Prop} {bs vs : List Nat} {P : Po} {wi : TI} {g : TG}
/-! ### dicts that are walked -/
/-! ### {k: v for ..} -/
/-! ### a dict of lists that grow: held loosely -/
structure Fr (B : Bas) (M : Hp) (σ : St) (δ : List S) (q : Addr) : Prop where
  m : M q = none
  b : B.h q = none
  o : ∀ i, ¬ Own σ δ i q
structure Lo (Z : Wd) (B : Bas) (M H : Hp) (σ : St) (δ : List S) (p : Addr) (gs : List (Key × List D)) (qs : List Addr) : Prop where
  hp : H p = some (.dK ((gs.map (·.1)).zip (qs.map V.ref)))
  len : qs.length = gs.length
  nd : (p :: qs).Nodup
  fr : ∀ q ∈ p :: qs, Fr B M σ δ q
  ls : ∀ (i : Nat) q x, qs[i]? = some q → gs[i]? = some x → ∃ vs, H q = some (.lst vs) ∧ AtL Z M vs x.2
  kn : (gs.map (·.1)).Nodup
variable {p : Addr} {gs : List (Key × List D)} {qs : List Addr}
theorem Lo.here (L : Lo Z B M H σ δ p gs qs) {q : Addr} (hq : q ∈ p :: qs) : ∃ o, H q = some o := by
  rcases List.mem_cons.mp hq with rfl | hq
  · exact ⟨_, L.hp⟩
  · obtain ⟨i, hi⟩ := List.mem_iff_getElem?.mp hq
    have : i < gs.length := by rw [← L.len]; exact (List.getElem?_eq_some_iff.mp hi).1
    obtain ⟨vs, e, _⟩ := L.ls i q _ hi (List.getElem?_eq_getElem this)
    exact ⟨_, e⟩
theorem Lo.nt (L : Lo Z B M H σ δ p gs qs) {q : Addr} {o : HO} (hq : q ∈ p :: qs) (e : H q = some o) : NT o := by
  rcases List.mem_cons.mp hq with rfl | hq
  · rw [L.hp] at e; cases e; exact fun _ e => nomatch e
  · obtain ⟨i, hi⟩ := List.mem_iff_getElem?.mp hq
    have : i < gs.length := by rw [← L.len]; exact (List.getElem?_eq_some_iff.mp hi).1
    obtain ⟨vs, e2, _⟩ := L.ls i q _ hi (List.getElem?_eq_getElem this)
    rw [e2] at e; cases e; exact fun _ e => nomatch e
theorem Lo.move (L : Lo Z B M H σ δ p gs qs) (ex : Ex M M') (st : ∀ q o, q ∈ p :: qs → H q = some o → H' q = some o ∧ Fr B M' σ' δ' q) : Lo Z B M' H' σ' δ' p gs qs := by
  refine ⟨(st p _ (by simp) L.hp).1, L.len, L.nd, fun q hq => ?_, fun i q x hi hx => ?_, L.kn⟩
  · obtain ⟨o, e⟩ := L.here hq
    exact (st q o hq e).2
  · obtain ⟨vs, e, a⟩ := L.ls i q x hi hx
    exact ⟨vs, (st q _ (List.mem_cons_of_mem _ (List.mem_of_getElem? hi)) e).1, a.mono ex⟩
/-- code that runs in between does not touch it -/
theorem Lo.keep {W2 : List (Nat × Addr)} (L : Lo Z B M H σ δ p gs qs) (hW : ∀ i a, (i, a) ∈ W2 ↔ Own σ δ i a) (ex : Ex M M') (J : I3 Z ⟨H, M⟩ W2 M' H' σ' δ') : Lo Z B M' H' σ' δ' p gs qs :=
  L.move ex fun q o hq e => by
    have f := L.fr q hq
    obtain ⟨a, b, c⟩ := J.stays e f.m (fun i hi => f.o i ((hW i q).mp hi)) (L.nt hq e)
    exact ⟨a, c, f.b, b⟩
theorem Lo.same (L : Lo Z B M H σ δ p gs qs) (ex : Ex M M') (k : ∀ a o, H a = some o → H' a = some o) (m : ∀ a o, H a = some o → M a = none → M' a = none) : Lo Z B M' H' σ δ p gs qs :=
  L.move ex fun q o hq e => by
    have f := L.fr q hq
    exact ⟨k q o e, m q o e f.m, f.b, f.o⟩
variable {N : List S → List (Key × List D) → Prop}
/-- the list at place i grows -/
theorem Lo.grow {i : Nat} {q : Addr} {k : Key} {xs : List D} {d : D} {vs : List V} {v : V} (L : Lo Z B M H σ δ p gs qs) (hq : qs[i]? = some q) (hg : gs[i]? = some (k, xs)) (hv : H q = some (.lst vs)) (ha : AtL Z M vs xs) (hd : At Z M v d) :
    Lo Z B M (upd H q (.lst (vs ++ [v]))) σ δ p (gs.set i (k, xs ++ [d])) qs := by
  have nd := List.nodup_cons.mp L.nd
  have hp : p ≠ q := fun e => nd.1 (e ▸ List.mem_of_getElem? hq)
  have ks : (gs.set i (k, xs ++ [d])).map (·.1) = gs.map (·.1) := by
    apply List.ext_getElem?
    intro j
    rw [List.getElem?_map, List.getElem?_map, List.getElem?_set]
    by_cases e : i = j
    · subst e
      rw [if_pos rfl, if_pos (List.getElem?_eq_some_iff.mp hg).1, hg]; rfl
    · rw [if_neg e]
  refine ⟨by rw [upd_ne hp, ks]; exact L.hp, by rw [List.length_set]; exact L.len, L.nd, L.fr, fun j r x hj hx => ?_, by rw [ks]; exact L.kn⟩
  by_cases e : i = j
  · subst e
    rw [hq] at hj; cases hj
    rw [List.getElem?_set_self (List.getElem?_eq_some_iff.mp hg).1] at hx; cases hx
    exact ⟨_, upd_same, AtL.app ha (.one hd)⟩
  · rw [List.getElem?_set_ne e] at hx
    have hr : r ≠ q := fun z => by
      subst z
      obtain ⟨l1, e1⟩ := List.getElem?_eq_some_iff.mp hq
      obtain ⟨l2, e2⟩ := List.getElem?_eq_some_iff.mp hj
      exact e ((List.getElem_inj nd.2).mp (e1.trans e2.symm))
    rw [upd_ne hr]
    exact L.ls j r x hj hx
def pairD (p : Str × List Str) : D := .tup [.str p.1, .tup (p.2.map .str)]
end
end G
set_option Elab.async false
set_option linter.all false
set_option maxRecDepth 100000
set_option maxHeartbeats 4000000
/-! min(xs, key=len, default=None) -/
namespace GX
open PySem PySem.Spec PySem.W PyProof.Rows L2
end GX
namespace G
open PySem L2
end G
set_option Elab.async false
set_option linter.all false
set_option maxRecDepth 100000
set_option maxHeartbeats 4000000
/-! sorted of ints; lots in tuples, compared; an int in a tuple of ints -/
namespace G
open PySem L2
end G
set_option Elab.async false
set_option linter.all false
set_option maxRecDepth 100000
set_option maxHeartbeats 4000000
/-! bit_length; a dict locked where a comprehension of two clauses walks it -/
namespace G
open PySem L2
end G
set_option Elab.async false
set_option linter.all false
set_option maxRecDepth 100000
set_option maxHeartbeats 4000000
/-! min of alike data -/
namespace GX
open PySem PySem.Spec PySem.W PySem.SeqAt PyProof.Rows L2
end GX
namespace G
open PySem L2
end G
namespace GX
open PySem PySem.Spec PySem.W PySem.SeqAt PyProof.Rows L2
end GX
namespace G
open PySem L2
end G
set_option Elab.async false
set_option linter.all false
set_option maxRecDepth 100000
set_option maxHeartbeats 4000000
/-! {k: v} with a tuple as its key -/
namespace GX
open PySem PySem.Spec PyProof.Rows L2
end GX
namespace G
open PySem L2
end G
set_option Elab.async false
set_option linter.all false
set_option maxRecDepth 100000
set_option maxHeartbeats 4000000
/-! deals: a list of a list of ints and an int, which one slot alone holds -/
namespace G
open PySem L2
end G
set_option Elab.async false
set_option linter.all false
set_option maxRecDepth 100000
set_option maxHeartbeats 4000000
namespace GX
open PySem PySem.Spec PySem.W PyProof.Rows L2
end GX
namespace G
open PySem L2
end G
set_option Elab.async false
set_option linter.all false
set_option maxRecDepth 100000
set_option maxHeartbeats 4000000
namespace G
open PySem L2
end G
set_option Elab.async false
set_option linter.all false
set_option maxRecDepth 100000
set_option maxHeartbeats 4000000
namespace GX
open PySem PySem.Spec PySem.W PySem.SeqAt PyProof.Rows L2
end GX
namespace G
open PySem L2
end G
set_option Elab.async false
set_option linter.all false
set_option maxRecDepth 100000
set_option maxHeartbeats 4000000
namespace G
open PySem L2
end G
set_option Elab.async false
set_option linter.all false
set_option maxRecDepth 100000
set_option maxHeartbeats 4000000
/-! a comprehension that walks an own list, which stays as it is -/
namespace G
open PySem L2
end G
set_option Elab.async false
set_option linter.all false
set_option maxRecDepth 100000
set_option maxHeartbeats 4000000
/-! dict(list of pairs) whose keys are tuples of texts and whole numbers -/
namespace GX
open PySem PySem.Spec PyProof.Rows L2
end GX
namespace G
open PySem L2
end G
set_option Elab.async false
set_option linter.all false
set_option maxRecDepth 100000
set_option maxHeartbeats 4000000
/-! sorted lots that are keys afterwards -/
namespace G
open PySem L2
end G
set_option Elab.async false
set_option linter.all false
set_option maxRecDepth 100000
set_option maxHeartbeats 4000000
/-! dicts as data: d.get(k), isinstance, dict(pairs); max of ints -/
namespace G
open PySem L2
end G
set_option Elab.async false
set_option linter.all false
set_option maxRecDepth 100000
set_option maxHeartbeats 4000000
/-! list(d.values()); dicts looked at, changed, popped, handed on -/
namespace GX
open PySem PySem.Spec PySem.W PySem.SeqAt PyProof.Rows L2
end GX
set_option Elab.async false
set_option linter.all false
set_option maxRecDepth 100000
set_option maxHeartbeats 4000000
/-! own dicts: looked at, changed, popped, lent, locked where they are returned -/
namespace G
open PySem L2
end G
set_option Elab.async false
set_option linter.all false
set_option maxRecDepth 100000
set_option maxHeartbeats 4000000
/-! list(d) of an own dict keyed by tuples: tuples of the heap become known -/
namespace GX
open PySem L2
end GX
namespace G
open PySem L2
end G
set_option Elab.async false
set_option linter.all false
set_option maxRecDepth 100000
set_option maxHeartbeats 4000000
/-! sets whose members are tuples of texts and of such tuples: adding, and sorted of them -/
namespace GN
open PySem PySem.Spec PyProof.Rows L2
section
variable {P : Program} {w : World} {A : Around} {E : Value → Shared → Prop} {s : Shared}
/-! ### what a search asks of a key -/
/-- the tuple at a is the key k -/
abbrev Nk (P : Program) (w : World) (h : Heap) (k : NestedKey) (a : Addr) : Prop := (nestedKind P w).is h k a
/-! ### the set as it stands -/
def ent (w : World) (L : List (Addr × NestedKey)) : List (Int × Value) := L.map fun p => (p.2.hash w, Value.ref p.1)
theorem ent_get {L : List (Addr × NestedKey)} {i : Nat} {p : Addr × NestedKey} (h : L[i]? = some p) : (ent w L)[i]? = some (p.2.hash w, Value.ref p.1) := by
  unfold ent; rw [List.getElem?_map, h]; rfl
structure Ns (P : Program) (w : World) (h : Heap) (a : Addr) (L : List (Addr × NestedKey)) (es : Array (Int × Value)) (ep : Nat) (t : SetTable) : Prop where
  ob : ∃ o, h.get? a = some o ∧ o.ExactSet ∧ o.data = .set es ep t
  row : es.toList = ent w L
  tab : TabOk t (L.map fun p => p.2.hash w)
  nd : (L.map (·.2)).Nodup
  key : ∀ p ∈ L, Nk P w h p.2 p.1
  led : w.params.followText "set-order" = true ∨ t.led = true
  room : L.length * 5 < t.mask * 3
  few : L.length < 64
variable {a : Addr} {L : List (Addr × NestedKey)} {es : Array (Int × Value)} {ep : Nat} {t : SetTable}
theorem Ns.at (R : Ns P w s.heap a L es ep t) {i : Nat} {p : Addr × NestedKey} (h : L[i]? = some p) : es[i]? = some (p.2.hash w, Value.ref p.1) := by
  rw [← Array.getElem?_toList, R.row]; exact ent_get h
theorem Ns.sz (R : Ns P w s.heap a L es ep t) : es.size = L.length := by
  rw [← Array.length_toList, R.row]; exact List.length_map _
theorem fit_of {n : Nat} (dm : t.dummies = #[]) (h : t.place.size = n) (l : n ≤ t.mask) : t.fits n = true := by
  unfold SetTable.fits SetTable.fill
  rw [dm]
  simp only [Bool.and_eq_true, beq_iff_eq, decide_eq_true_eq]
  exact ⟨h, by simp; omega⟩
theorem Ns.fit (R : Ns P w s.heap a L es ep t) : t.fits es.size = true := by
  have h1 := R.tab.sz
  rw [List.length_map] at h1
  have h2 := R.room
  exact fit_of R.tab.dm (h1.trans R.sz.symm) (by rw [R.sz]; omega)
/-! ### one more member -/
theorem Nk.same {h h' : Heap} {k : NestedKey} {b : Addr} {o : Obj} (hk : Nk P w h k b) (ho : h.get? a = some o) (hd : o.data = .set es ep t) (sb : Heap.SameBut a h h') : Nk P w h' k b :=
  nestedKind_stays.stays (knd := nestedKind P w) (fun c u vs n hc hu => by
    have ne : c ≠ a := fun e => by
      subst e
      rw [ho] at hc; cases hc
      rw [hd] at hu; cases hu
    exact (sb.2 c ne).trans hc) hk
theorem fm_all {α β : Type} {f : α → Option β} {g : α → β} : ∀ {l : List α}, (∀ x ∈ l, f x = some (g x)) → l.filterMap f = l.map g
  | [], _ => rfl
  | x :: l, h => by rw [List.filterMap_cons_some (h x (by simp)), List.map_cons, fm_all fun y hy => h y (List.mem_cons_of_mem _ hy)]
theorem fm_range {α : Type} (xs : List α) : (List.range xs.length).filterMap (fun i => xs[i]?) = xs := by
  have e : (List.range xs.length).map (fun i => xs[i]?) = xs.map some := by
    refine List.ext_getElem? fun i => ?_
    rw [List.getElem?_map, List.getElem?_map]
    rcases Nat.lt_or_ge i xs.length with c | c
    · rw [List.getElem?_range c]
      show some xs[i]? = _
      rw [List.getElem?_eq_getElem c]; rfl
    · rw [List.getElem?_eq_none (by simpa using c), List.getElem?_eq_none c]; rfl
  have := congrArg (List.filterMap id) e
  rw [List.filterMap_map, List.filterMap_map] at this
  simpa [Function.comp_def] using this
theorem laid (row : es.toList = ent w L) {order : Array Nat} (hp : order.toList.Perm (List.range L.length)) :
    ∃ L2, (order.filterMap (es[·]?)).toList = ent w L2 ∧ L2.Perm L ∧ (L2.map fun p => p.2.hash w) = order.toList.map fun i => (es.map (·.1)).getD i 0 := by
  have lt : ∀ i ∈ order.toList, i < L.length := fun i hi => List.mem_range.mp (hp.mem_iff.mp hi)
  have get : ∀ i, es[i]? = (L[i]?).map fun p : Addr × NestedKey => (p.2.hash w, Value.ref p.1) := fun i => by
    rw [← Array.getElem?_toList, row, ent, List.getElem?_map]
  refine ⟨order.toList.filterMap fun i => L[i]?, ?_, ?_, ?_⟩
  · rw [Array.toList_filterMap, ent, List.map_filterMap]
    congr 1
    funext i
    exact get i
  · have := hp.filterMap fun i => L[i]?
    rwa [fm_range] at this
  · rw [List.map_filterMap]
    refine fm_all fun i hi => ?_
    have il := lt i hi
    have e1 : (es.map (·.1))[i]? = some ((L[i]).2.hash w) := by
      rw [Array.getElem?_map, get, List.getElem?_eq_getElem il]; rfl
    rw [List.getElem?_eq_getElem il, Array.getD_eq_getD_getElem?, e1]; rfl
end
end GN
set_option Elab.async false
set_option linter.all false
set_option maxRecDepth 100000
set_option maxHeartbeats 4000000
/-! sets of pairs of a name and a lot -/
namespace GN
open PySem PySem.Spec PySem.W PySem.SeqAt PyProof.Rows L2 GX
/-- a name and a lot -/
abbrev Pr := Str × List Str
def kP (p : Pr) : NestedKey := .tup [.text p.1, .tup (p.2.map .text)]
/-! ### the set's own object -/
/-- what the set's own object tells -/
def Nw (w : World) (h : Heap) (a : Addr) (L : List (Addr × NestedKey)) : Prop := ∃ (es : Array (Int × Value)) (ep : Nat) (t : SetTable), (∃ o, h.get? a = some o ∧ o.ExactSet ∧ o.data = .set es ep t) ∧ es.toList = ent w L ∧ TabOk t (L.map fun p => p.2.hash w) ∧ (L.map (·.2)).Nodup ∧
  (w.params.followText "set-order" = true ∨ t.led = true) ∧ L.length * 5 < t.mask * 3 ∧ L.length < 64
section
variable {P : Program} {w : World} {A : Around} {E : Value → Shared → Prop} {s : Shared} {a : Addr} {L : List (Addr × NestedKey)}
theorem Nw.ns (R : Nw w s.heap a L) (k : ∀ p ∈ L, Nk P w s.heap p.2 p.1) : ∃ es ep t, Ns P w s.heap a L es ep t := by
  obtain ⟨es, ep, t, ob, row, tab, nd, led, room, few⟩ := R
  exact ⟨es, ep, t, ob, row, tab, nd, k, led, room, few⟩
end
end GN
set_option Elab.async false
set_option linter.all false
set_option maxRecDepth 100000
set_option maxHeartbeats 4000000
/-! {(x, lot) for xs in .. for x in ..}, and sorted of it -/
namespace GN
open PySem PySem.Spec PySem.SeqAt PyProof.Rows L2 GX PpSet
def laidK (Lp : List (Addr × Pr)) : List (Addr × NestedKey) := Lp.map fun x => (x.1, kP x.2)
/-- a set of pairs in the layer: who its members are and where they stand -/
def SetPO (w : World) (a : Addr) (Lp : List (Addr × Pr)) : HO := .ext fun h => Nw w h a (laidK Lp)
theorem Nw.at {w : World} {h h' : Heap} {a : Addr} {L : List (Addr × NestedKey)} (R : Nw w h a L) (k : ∀ o, h.get? a = some o → h'.get? a = some o) : Nw w h' a L := by
  obtain ⟨es, ep, t, ⟨o, ho, r⟩, q⟩ := R
  exact ⟨es, ep, t, ⟨o, k o ho, r⟩, q⟩
end GN
set_option Elab.async false
set_option linter.all false
set_option maxRecDepth 100000
set_option maxHeartbeats 4000000
/-! sorted({(x, lot) for xs in .. for x in ..}) -/
set_option Elab.async false
set_option linter.all false
set_option maxRecDepth 100000
set_option maxHeartbeats 4000000
namespace G
open PySem L2
section
variable {Z : Wd} {M H M' H' : Hp} {B : Bas} {W : List (Nat × Addr)} {σ σ' : St} {δ : List S}
variable {te : TE} {tt : TT} {Ω : OD → List S → Prop} {bs vs vs1 : List Nat} {w : World}
/-- the set at A has just these members -/
def SetHasP (Z : Wd) (w : World) (M H : Hp) (A : Addr) (acc : List GN.Pr) : Prop := ∃ Lp : List (Addr × GN.Pr), H A = some (GN.SetPO w A Lp) ∧ (Lp.map (·.2)).Nodup ∧ (∀ p, p ∈ Lp.map (·.2) ↔ p ∈ acc) ∧ ∀ x ∈ Lp, At Z M (.ref x.1) (pairD x.2)
theorem SetHasP.new {A : Addr} : SetHasP Z w M (upd H A (GN.SetPO w A [])) A [] := ⟨[], upd_same, .nil, by simp, fun x hx => nomatch hx⟩
theorem SetHasP.mono {A : Addr} {acc : List GN.Pr} (h : SetHasP Z w M H A acc) (e : Ex M M') (k : H' A = H A) : SetHasP Z w M' H' A acc := by
  obtain ⟨Lp, h1, h2, h3, h4⟩ := h
  exact ⟨Lp, k.trans h1, h2, h3, fun x hx => (h4 x hx).mono e⟩
end
end G
set_option Elab.async false
set_option linter.all false
set_option maxRecDepth 100000
set_option maxHeartbeats 4000000
/-! sets of tuples: whether two have the same members -/
set_option Elab.async false
set_option linter.all false
set_option maxRecDepth 100000
set_option maxHeartbeats 8000000
/-! set(xs), xs a list of tuples -/
set_option Elab.async false
set_option linter.all false
set_option maxRecDepth 100000
set_option maxHeartbeats 4000000
/-! sets of texts: whether two have the same members -/
set_option Elab.async false
set_option linter.all false
set_option maxRecDepth 100000
set_option maxHeartbeats 4000000
/-! set(xs) != set(ys), lists of tuples or of texts -/
namespace G
open PySem L2
end G
set_option Elab.async false
set_option linter.all false
set_option maxRecDepth 100000
set_option maxHeartbeats 4000000
/-! zip of two lists -/
namespace G
open PySem L2
end G
namespace G
open PySem L2
end G
set_option Elab.async false
set_option linter.all false
set_option maxRecDepth 100000
set_option maxHeartbeats 4000000
/-! {k: v for x in xs for y in ys} -/
namespace GX
open PySem PySem.Spec PyProof.Rows L2 PpSet
end GX
set_option Elab.async false
set_option linter.all false
set_option maxRecDepth 100000
set_option maxHeartbeats 4000000
namespace G
open PySem L2
end G
set_option Elab.async false
set_option linter.all false
set_option maxRecDepth 100000
set_option maxHeartbeats 4000000
/-! in, of a list or a tuple of data -/
namespace GX
open PySem PySem.Spec PyProof.Rows L2
end GX
namespace G
open PySem L2
end G
set_option Elab.async false
set_option linter.all false
set_option maxRecDepth 100000
set_option maxHeartbeats 4000000
/-! name = {k: v for ..}, locked at once -/
namespace GX
open PySem PySem.Spec PyProof.Rows L2 PpSet
end GX
set_option Elab.async false
set_option linter.all false
set_option maxRecDepth 100000
set_option maxHeartbeats 4000000
/-! a list within a dict (keys tuples) that grows there: held loosely until it is full -/
namespace G
open PySem L2
section
variable {Z : Wd} {M H M' H' : Hp} {B : Bas} {W : List (Nat × Addr)} {σ σ' : St} {δ δ' : List S}
variable {te ta tb ty tv tk : TE} {tt : TT} {s1 s2 : TS} {Φ : D → List S → Prop} {bs vs : List Nat} {P : Po} {wi : TI} {g : TG} {q : Addr} {xs : List D}
structure L1 (Z : Wd) (B : Bas) (M H : Hp) (σ : St) (δ : List S) (q : Addr) (xs : List D) : Prop where
  ls : ∃ vs, H q = some (.lst vs) ∧ AtL Z M vs xs
  fr : Fr B M σ δ q
theorem L1.keep {W2 : List (Nat × Addr)} (L : L1 Z B M H σ δ q xs) (hW : ∀ i a, (i, a) ∈ W2 ↔ Own σ δ i a) (ex : Ex M M') (J : I3 Z ⟨H, M⟩ W2 M' H' σ' δ') : L1 Z B M' H' σ' δ' q xs := by
  obtain ⟨vs, e, al⟩ := L.ls
  obtain ⟨a, b, c⟩ := J.stays e L.fr.m (fun i hi => L.fr.o i ((hW i q).mp hi)) (fun _ e => nomatch e)
  exact ⟨⟨vs, a, al.mono ex⟩, c, L.fr.b, b⟩
theorem L1.same (L : L1 Z B M H σ δ q xs) (ex : Ex M M') (k : ∀ a o, H a = some o → H' a = some o) (m : ∀ a o, H a = some o → M a = none → M' a = none) : L1 Z B M' H' σ δ q xs := by
  obtain ⟨vs, e, al⟩ := L.ls
  exact ⟨⟨vs, k _ _ e, al.mono ex⟩, m _ _ e L.fr.m, L.fr.b, L.fr.o⟩
variable {N : List S → List D → Prop}
end
end G
set_option Elab.async false
set_option linter.all false
set_option maxRecDepth 100000
set_option maxHeartbeats 4000000
/-! a dict keyed by tuples that is locked: a datum (D.dicT) -/
namespace GX
open PySem PySem.Spec PySem.W PySem.SeqAt PyProof.Rows L2
end GX
namespace G
open PySem L2
end G
set_option Elab.async false
set_option linter.all false
set_option maxRecDepth 100000
set_option maxHeartbeats 4000000
/-! the place of a text in a text -/
namespace GX
open PySem PySem.Spec PySem.W PySem.SeqAt PyProof.Rows L2
end GX
namespace G
open PySem L2
end G
set_option Elab.async false
set_option linter.all false
set_option maxRecDepth 100000
set_option maxHeartbeats 4000000
/-! errors without a context; an except suite that raises another error from None -/
namespace GX
open PySem PySem.Spec PyProof.Rows L2
end GX
namespace G
open PySem L2
end G
set_option Elab.async false
set_option linter.all false
set_option maxRecDepth 100000
set_option maxHeartbeats 4000000
/-! statements behind which less is known than before them: lists that were data are changed -/
namespace G
open PySem L2
end G
set_option Elab.async false
set_option linter.all false
set_option maxRecDepth 100000
set_option maxHeartbeats 4000000
/-! dicts of prices: repr, update; a dict that was a datum is changed; dicts keyed by tuples that are walked -/
namespace G
open PySem L2
end G
namespace G
open PySem L2
/-! ### a dict that was a datum is changed -/
end G
set_option Elab.async false
set_option linter.all false
set_option maxRecDepth 100000
set_option maxHeartbeats 4000000
/-! dicts keyed by tuples: locked where they are made or handed on, walked by for -/
namespace G
open PySem L2
end G
set_option Elab.async false
set_option linter.all false
set_option maxRecDepth 100000
set_option maxHeartbeats 4000000
/-! several named except clauses; an own dict lent to a test; an own dict's values replaced and taken out -/
namespace GX
open PySem PySem.Spec PyProof.Rows L2
end GX
namespace G
open PySem L2
end G
set_option Elab.async false
set_option linter.all false
set_option maxRecDepth 100000
set_option maxHeartbeats 4000000
/-! L3ka: lambdas with parameters that capture data: the call of one, from any frame. -/
namespace GL
open PySem PySem.Spec PyProof.Rows L2 G
/-- a lambda's names -/
structure LamP (S : FnS) : Prop where
  kind : S.scope.kind = .function
  co : S.scope.isCoroutine = false
  gen : S.scope.isGenerator = false
  nd : (S.ps ++ S.cap).Nodup
  loc : ∀ x ∈ S.ps, S.scope.names.lookup x = some .local
  fr : ∀ x ∈ S.cap, S.scope.names.lookup x = some .free
  nocell : ∀ y ∈ S.scope.names, y.2 ≠ .cell
  free : ∀ y ∈ S.scope.names, y.2 = .free → y.1 ∈ S.cap
  bind : ∀ (us : List Value) (cl : List (Str × Addr)) (pm cv ctv : Value), us.length = S.ps.length → bindArgs (PySem.W.kla_fn "<lambda>" S.q S.params S.body S.scope cl pm cv ctv) ⟨us, []⟩ = pure (S.ps.zip us)
abbrev lEnv (S : FnS) (cs : List Addr) (L f c' : Addr) : Env := PySem.W.envX S.q S.scope L f (.ref c') (S.cap.zip cs)
/-- the context of a lambda's body, entered at s -/
def lCx (CX : CXT) (P : Program) (w : World) (K : PySem.W.Frag) (mg : Str → Option Value) (base : Heap) (S : FnS) (cs : List Addr) (f c' : Addr) (A : Around) (outer : List Env) (s : Shared) (H : Hp) (E : XK) : Cx where
  prog := P
  w := w
  K := K
  mg := mg
  base := base
  A := A.deeper (lEnv S cs s.heap.objs.size f c')
  N := S.ps ++ S.cap
  s_0 := s
  H_0 := H
  env := lEnv S cs s.heap.objs.size f c'
  outer := outer
  stack := lEnv S cs s.heap.objs.size f c' :: outer
  ex := []
  fn := fun _ => false
  calm := true
  pn := []
  xe := fun e s' => wpAny (model P w) (A.deeper (lEnv S cs s.heap.objs.size f c')) (leaving (lEnv S cs s.heap.objs.size f c') e) (fun _ s'' => CX outer H s E e s'') (fun e' s'' => CX outer H s E e' s'') s'
/-- a cell holds the value v -/
def Holds (h : Heap) (c : Addr) (v : V) : Prop := ∃ o u, h.get? c = some o ∧ o.data = .cell (some u) ∧ RelV v u
theorem zip_lookup {ps : List Str} {cs : List Addr} {x : Str} {c : Addr} (h : (ps.zip cs).lookup x = some c) : ∃ i : Nat, ps[i]? = some x ∧ cs[i]? = some c := by
  induction ps generalizing cs with
  | nil => simp at h
  | cons p ps ih =>
    cases cs with
    | nil => simp at h
    | cons d cs =>
      rw [List.zip_cons_cons, List.lookup_cons] at h
      by_cases e : x = p
      · subst e
        rw [beq_self_eq_true] at h
        cases h
        exact ⟨0, rfl, rfl⟩
      · rw [beq_eq_false_iff_ne.mpr e] at h
        obtain ⟨i, a, b⟩ := ih h
        exact ⟨i + 1, a, b⟩
theorem lookup_zipA {ps : List Str} {cs : List Addr} {x : Str} {c : Addr} {i : Nat} (nd : ps.Nodup) (h : ps[i]? = some x) (k : cs[i]? = some c) : (ps.zip cs).lookup x = some c := by
  induction ps generalizing cs i with
  | nil => simp at h
  | cons p ps ih =>
    cases cs with
    | nil => simp at k
    | cons d cs =>
      obtain ⟨n1, n2⟩ := List.nodup_cons.mp nd
      rw [List.zip_cons_cons, List.lookup_cons]
      cases i with
      | zero =>
        cases h; cases k
        rw [beq_self_eq_true]
      | succ i =>
        have hm : x ∈ ps := List.mem_of_getElem? (i := i) (by simpa using h)
        have hne : x ≠ p := fun e => n1 (e ▸ hm)
        rw [beq_eq_false_iff_ne.mpr hne]
        exact ih n2 (by simpa using h) (by simpa using k)
section
variable {CX : CXT} {P : Program} {w : World} {K : PySem.W.Frag} {mg : Str → Option Value} {base : Heap} {S : FnS} {cs : List Addr} {f c' : Addr} {A : Around} {outer : List Env} {s : Shared} {H : Hp} {E : XK}
theorem lam_start {us : List Value} {vs cvs : List V} {h₁ : Heap} {tk : Nat} (L : LamP S) (e0 : Env0 P w K mg base A outer s H) (hd : A.handled = none)
    (hns : h₁.Ns s.heap.objs.size fun x => (S.ps.zip us).reverse.lookup x) (kp : ∀ b o, s.heap.get? b = some o → h₁.get? b = some o) (r : Vals vs us) (hl : vs.length = S.ps.length)
    (ndc : cs.Nodup) (lc : cs.length = S.cap.length) (lv : cvs.length = cs.length) (hc : ∀ (i : Nat) c v, cs[i]? = some c → cvs[i]? = some v → H c = none ∧ Holds s.heap c v) :
    Inv (lCx CX P w K mg base S cs f c' A outer s H E) [] (L2.start (S.ps ++ S.cap) (vs ++ cvs)) H { s with heap := h₁, toks := tk } := by
  have hul : us.length = S.ps.length := by rw [← r.length, hl]
  obtain ⟨nd1, nd2, ndx⟩ := List.nodup_append.mp L.nd
  have noA : ∀ b : Addr, b ∉ (lCx CX P w K mg base S cs f c' A outer s H E).ex := fun b z => absurd (show b ∈ ([] : List Addr) from z) (by simp)
  have cellAt : ∀ {x : Str} {c : Addr}, (S.cap.zip cs).lookup x = some c → ∃ (i : Nat) (v : V), S.cap[i]? = some x ∧ cs[i]? = some c ∧ cvs[i]? = some v ∧ H c = none ∧ Holds s.heap c v := fun {x c} h => by
    obtain ⟨i, a, b⟩ := zip_lookup h
    have hi : i < cvs.length := by rw [lv]; exact (List.getElem?_eq_some_iff.mp b).1
    exact ⟨i, cvs[i], a, b, by simp [hi], hc i c _ b (by simp [hi])⟩
  have freeAt : ∀ {x : Str}, S.scope.names.lookup x = some .free → ∃ c, (S.cap.zip cs).lookup x = some c := fun {x} h => by
    have hm := L.free _ (PySem.mem_of_lookup h) rfl
    obtain ⟨i, hi, e⟩ := List.getElem_of_mem hm
    have hi' : i < cs.length := by rw [lc]; exact hi
    have ex : S.cap[i]? = some x := by rw [List.getElem?_eq_getElem hi]; exact congrArg some e
    exact ⟨cs[i], lookup_zipA nd2 (i := i) ex (by simp [hi'])⟩
  refine ⟨⟨e0.mod, L.kind, rfl, rfl, Nat.le_refl _, fun x y c h1 h2 => ?_, fun y hy => ?_, fun y c z _ => ?_, fun _ => hd, Around.frames_deeper e0.frames, .inr ⟨rfl, rfl⟩, fun b z => absurd z (noA b), e0.bs, e0.bsz, fun b _ _ => noA b, fun b z => absurd z (noA b), e0.funs, e0.frf⟩,
    rfl, e0.bare, Un.kept kp, ⟨_, hns, fun i y v e1 e2 e3 => ?_⟩, fun y c e => ?_, e0.hok.fresh (Nat.le_refl _), fun y c e => ?_, fun q hq => absurd (show q ∈ ([] : List (Addr × Obj)) ++ [] from hq) (by simp), e0.hok.kept kp, ?_⟩
  · obtain ⟨i, a, b⟩ := zip_lookup h1
    obtain ⟨j, a', b'⟩ := zip_lookup h2
    obtain ⟨hi, ei⟩ := List.getElem?_eq_some_iff.mp b
    obtain ⟨hj, ej⟩ := List.getElem?_eq_some_iff.mp b'
    have : i = j := (List.getElem_inj ndc).mp (ei.trans ej.symm)
    subst this
    rw [a] at a'; cases a'; rfl
  · have hy : S.scope.names.lookup y = some .cell ∨ S.scope.names.lookup y = some .free := hy
    rcases hy with hy | hy
    · exact absurd rfl (L.nocell _ (PySem.mem_of_lookup hy))
    · exact freeAt hy
  · have z : false = true := z
    cases z
  · have e1 : (S.ps ++ S.cap)[i]? = some y := e1
    have e3 : Vis S.scope y := e3
    by_cases hi : i < S.ps.length
    · rw [List.getElem?_append_left hi] at e1
      have hm : y ∈ S.ps := List.mem_of_getElem? e1
      have hloc := L.loc y hm
      have hv : vs[i]? = some v := by
        unfold L2.start at e2
        rw [List.getElem?_append_left (by simp; omega), List.getElem?_map, List.getElem?_append_left (by omega)] at e2
        cases q : vs[i]? with
        | none => rw [q] at e2; cases e2
        | some a => rw [q] at e2; cases e2; rfl
      obtain ⟨u, hu, rv⟩ := r.get hv
      refine ⟨u, rv, .inl ⟨hloc, ?_⟩⟩
      have kl : ∀ x ∈ S.ps.zip us, (fun z => S.scope.names.lookup z) x.1 = some .local := fun ⟨n, v⟩ hx => L.loc n (List.of_mem_zip hx).1
      have := bindL_loc (kindOf := fun z => S.scope.names.lookup z) (S.ps.zip us) (fun _ => none) kl y
      rw [bindL_get nd1 e1 hu hloc] at this
      cases q : (S.ps.zip us).reverse.lookup y with
      | none => rw [q] at this; cases this
      | some z => rw [q] at this; cases this; exact q
    · rw [List.getElem?_append_right (by omega)] at e1
      have hm : y ∈ S.cap := List.mem_of_getElem? e1
      have hfr := L.fr y hm
      have hv : cvs[i - S.ps.length]? = some v := by
        have hi2 := (List.getElem?_eq_some_iff.mp e1).1
        unfold L2.start at e2
        rw [List.getElem?_append_left (by simp; omega), List.getElem?_map, List.getElem?_append_right (by omega), hl] at e2
        cases q : cvs[i - S.ps.length]? with
        | none => rw [q] at e2; cases e2
        | some a => rw [q] at e2; cases e2; rfl
      have hj : i - S.ps.length < cs.length := by rw [← lv]; exact (List.getElem?_eq_some_iff.mp hv).1
      have hcs : cs[i - S.ps.length]? = some cs[i - S.ps.length] := by simp [hj]
      obtain ⟨hn, o, u, ho, hd, rv⟩ := hc _ _ _ hcs hv
      exact ⟨u, rv, .inr ⟨.inr hfr, _, lookup_zipA nd2 e1 hcs, o, kp _ _ ho, hd⟩⟩
  · obtain ⟨i, v, a, b, d, hn, o, u, ho, hd, rv⟩ := cellAt e
    exact ⟨some u, o, kp _ _ ho, hd⟩
  · obtain ⟨i, v, a, b, d, hn, _⟩ := cellAt e
    exact hn
  · show (L2.start (S.ps ++ S.cap) (vs ++ cvs)).length = (S.ps ++ S.cap).length
    unfold L2.start
    simp only [List.length_append, List.length_map, List.length_replicate]
    omega
end
/-- a lambda's promise: told of any state in which it stands, its cells untracked -/
structure LamOk (P : Program) (w : World) (K : PySem.W.Frag) (mg : Str → Option Value) (base : Heap) (CX : CXT) (k : Nat) (S : FnS) (sp : Sp) : Prop where
  len : ∀ vs H Q E, sp vs H Q E → vs.length = S.ps.length + S.cap.length
  run : ∀ (A : Around) (outer : List Env) (s : Shared) (H : Hp) (us : List Value) (vs cvs : List V) (Q : VK) (E : XK) (f c' : Addr) (cs : List Addr) (pm ctv : Value), Room k A → Env0 P w K mg base A outer s H →
    s.heap.get? f = some (lamO S cs pm c' ctv) → (∃ (oc : Obj) (ws : Array Value) (t : Tok), s.heap.get? c' = some oc ∧ oc.data = .fields ws ∧ ws[1]? = some (.str S.q t)) → cs.Nodup → cs.length = S.cap.length → cvs.length = cs.length →
    (∀ (i : Nat) c v, cs[i]? = some c → cvs[i]? = some v → H c = none ∧ Holds s.heap c v) → Vals vs us → sp (vs ++ cvs) H Q E →
    codeAny (model P w) A (.call (.ref f) ⟨us, []⟩) (CR CX outer P w H s Q E) s
theorem lam_of {CX : CXT} {P : Program} {w : World} {K : PySem.W.Frag} {mg : Str → Option Value} {base : Heap} {k : Nat} {S : FnS} {sp : Sp} (L : LamP S) (len : ∀ vs H Q E, sp vs H Q E → vs.length = S.ps.length + S.cap.length)
    (hbody : ∀ (A : Around) (outer : List Env) (s : Shared) (H : Hp) (vs : List V) (Q : VK) (E : XK) (f c' : Addr) (cs : List Addr), Room k (A.deeper (lEnv S cs s.heap.objs.size f c')) → sp vs H Q E →
      ∃ t, PE (lCx CX P w K mg base S cs f c' A outer s H E) S.body t ∧ t (L2.start (S.ps ++ S.cap) vs) H Q) : LamOk P w K mg base CX (k + 1) S sp := by
  refine ⟨len, fun A outer s H us vs cvs Q E f c' cs pm ctv hr e0 hf hco ndc lc lv hc r hsp => ?_⟩
  have hl : vs.length = S.ps.length := by
    have := len _ _ _ _ hsp
    rw [List.length_append, lv, lc] at this
    omega
  have hul : us.length = S.ps.length := by rw [← r.length, hl]
  obtain ⟨oc, ws, t, hoc, hdc, hvc⟩ := hco
  have lim : s.heap.NoLimit := e0.mod.nolimit.keeps fun b o e => (e0.bs b o e).1
  refine PySem.W.kla_callFunE hr.depth hf rfl L.co L.gen rfl ⟨c', oc, ws, t, rfl, hoc, hdc, hvc⟩ ?_
  rw [L.bind us _ _ _ _ hul]
  refine wpAny_pure (wpAny_newFunctionEnv L.nocell (fun ⟨n, v⟩ hy => L.loc n (List.of_mem_zip hy).1) (fun h₁ hns hsb => ⟨lim.fresh _ hsb, ?_⟩) L.kind)
  show codeAny _ _ (.expr S.body (lEnv S cs s.heap.objs.size f c')) _ _
  have kp : ∀ b o, s.heap.get? b = some o → h₁.get? b = some o := fun b o e => hsb.extBut b o (Nat.ne_of_lt (Heap.lt_size e)) (Heap.get?_push_of_some _ e)
  have J : Inv (lCx CX P w K mg base S cs f c' A outer s H E) [] (L2.start (S.ps ++ S.cap) (vs ++ cvs)) H { s with heap := h₁, toks := s.toks + (S.ps.zip us).length } :=
    lam_start L e0 hr.hd hns kp r hl ndc lc lv hc
  obtain ⟨te, hte, ht⟩ := hbody A outer s H (vs ++ cvs) Q E f c' cs (hr.deeper _) hsp
  refine PySem.W.kla_codeExpr (wpAny_mono (hte.run [] _ _ H Q J ht) (fun v s' hq => ?_) fun e s' hq => hq)
  obtain ⟨w', H', J', rv, q⟩ := hq
  exact ⟨w', H', J'.os, J'.bare, J'.base, J'.hok, rv, q⟩
/-! ### the cells are known while the lambda is handed about: hidden and shown again -/
def hideA (H : Hp) (cs : List Addr) : Hp := fun b => if b ∈ cs then none else H b
theorem hideA_in {H : Hp} {cs : List Addr} {b : Addr} (h : b ∈ cs) : hideA H cs b = none := by unfold hideA; rw [if_pos h]
theorem hideA_out {H : Hp} {cs : List Addr} {b : Addr} (h : b ∉ cs) : hideA H cs b = H b := by unfold hideA; rw [if_neg h]
theorem hideA_some {H : Hp} {cs : List Addr} {b : Addr} {o : HO} (h : hideA H cs b = some o) : b ∉ cs ∧ H b = some o := by
  unfold hideA at h
  split at h
  · cases h
  · rename_i n; exact ⟨n, h⟩
/-- H' behind, with what H told of the hidden ones -/
def showA (H' H : Hp) (cs : List Addr) : Hp := fun b => if b ∈ cs then H b else H' b
theorem showA_in {H H' : Hp} {cs : List Addr} {b : Addr} (h : b ∈ cs) : showA H' H cs b = H b := by unfold showA; rw [if_pos h]
theorem showA_out {H H' : Hp} {cs : List Addr} {b : Addr} (h : b ∉ cs) : showA H' H cs b = H' b := by unfold showA; rw [if_neg h]
/-- all of cs are pinned -/
def Pins (H : Hp) (cs : List Addr) : Prop := ∀ c ∈ cs, ∃ o, H c = some (PinO c o)
theorem pin_ne_tup {c : Addr} {o : Obj} (xs : List V) : PinO c o ≠ .tup xs := fun z => by unfold PinO at z; cases z
theorem pin_ne_frz {c : Addr} {o ob : Obj} (u : HO) : PinO c o ≠ .frz ob u := fun z => by unfold PinO at z; cases z
theorem pin_ne_tbl {c : Addr} {o : Obj} (ps : Array Value) : PinO c o ≠ .tbl ps := fun z => by unfold PinO at z; cases z
theorem pin_ne_own {c : Addr} {o : Obj} (x : Addr) : PinO c o ≠ .own x := fun z => by unfold PinO at z; cases z
theorem pin_ok {P : Program} {w : World} {H : Hp} {h : Heap} {c : Addr} {o : Obj} (x : ObjOk P w H h c (PinO c o)) : h.get? c = some o := x.1
theorem pin_mk {P : Program} {w : World} {H : Hp} {h : Heap} {c : Addr} {o : Obj} (e : h.get? c = some o) : ObjOk P w H h c (PinO c o) := ⟨e, ⟨o, e⟩, fun _ _ a st => st _ a⟩
section
variable {P : Program} {w : World} {K : PySem.W.Frag} {mg : Str → Option Value} {base : Heap} {A : Around} {outer : List Env} {s s' : Shared} {H H' : Hp} {cs : List Addr} {fs : List Addr}
theorem pins_ne {o : HO} {b : Addr} (pn : Pins H cs) (h : H b = some o) (n : ∀ c ob, o ≠ PinO c ob) : b ∉ cs := fun z => by
  obtain ⟨ob, e⟩ := pn b z
  rw [h] at e; cases e
  exact n _ _ rfl
theorem hok_hide (x : HOk P w H s.heap) (pn : Pins H cs) : HOk P w (hideA H cs) s.heap := fun a o e => by
  obtain ⟨n, e⟩ := hideA_some e
  exact (x a o e).stay (fun b u _ q => q) (fun b q => by rw [hideA_out (pins_ne pn q fun c ob z => pin_ne_own _ z.symm)]; exact q) fun b xs q => by rw [hideA_out (pins_ne pn q fun c ob z => pin_ne_tup _ z.symm)]; exact q
theorem env0_hide (e : Env0 P w K mg base A outer s H) (pn : Pins H cs) : Env0 P w K mg base A outer s (hideA H cs) :=
  ⟨e.frames, e.mod, fun b o q => ⟨(e.bs b o q).1, by
    by_cases h : b ∈ cs
    · exact hideA_in h
    · rw [hideA_out h]; exact (e.bs b o q).2⟩, e.bsz, e.funs, fun b hb => by
    by_cases h : b ∈ cs
    · exact hideA_in h
    · rw [hideA_out h]; exact e.frf b hb, hok_hide e.hok pn, e.bare⟩
/-- behind a call in which the pinned ones were hidden -/
theorem un_show (u : Un fs [] (hideA H cs) H' s.heap s'.heap) (pn : Pins H cs) (hok : HOk P w H s.heap) (hok' : HOk P w H' s'.heap) (nf : ∀ c ∈ cs, c ∉ fs) :
    Un fs [] H (showA H' H cs) s.heap s'.heap ∧ HOk P w (showA H' H cs) s'.heap := by
  have at_ : ∀ c ∈ cs, ∃ o, H c = some (PinO c o) ∧ s'.heap.get? c = some o ∧ H' c = none := fun c hc => by
    obtain ⟨o, e⟩ := pn c hc
    have g := pin_ok (hok c _ e)
    exact ⟨o, e, u.keep c o g (hideA_in hc) (nf c hc) (by simp), u.free c o g (hideA_in hc) (by simp)⟩
  have out : ∀ b, H b = none → b ∉ cs := fun b n z => by
    obtain ⟨o, e⟩ := pn b z
    rw [n] at e; cases e
  refine ⟨⟨fun b o e n hb hx => ?_, fun b o e n hb hx => ?_, fun b o e n hx => ?_, u.there, fun b xs q => ?_, fun b o v q => ?_, fun b ps q => ?_⟩, fun b o e => ?_⟩
  · exact u.keep b o e (by rw [hideA_out (out b n)]; exact n) hb hx
  · exact u.slot b o e (by rw [hideA_out (out b n)]; exact n) hb hx
  · rw [showA_out (out b n)]
    exact u.free b o e (by rw [hideA_out (out b n)]; exact n) hx
  · have nb := pins_ne pn q fun c ob z => pin_ne_tup _ z.symm
    rw [showA_out nb]
    exact u.tups b xs (by rw [hideA_out nb]; exact q)
  · have nb := pins_ne pn q fun c ob z => pin_ne_frz _ z.symm
    rw [showA_out nb]
    exact u.frzs b o v (by rw [hideA_out nb]; exact q)
  · have nb := pins_ne pn q fun c ob z => pin_ne_tbl _ z.symm
    rw [showA_out nb]
    exact u.tbls b ps (by rw [hideA_out nb]; exact q)
  · by_cases hb : b ∈ cs
    · rw [showA_in hb] at e
      obtain ⟨o1, e1, e2, _⟩ := at_ b hb
      rw [e1] at e; cases e
      exact pin_mk e2
    · rw [showA_out hb] at e
      refine (hok' b o e).stay (fun c v _ q => q) (fun c q => ?_) fun c xs q => ?_
      · rw [showA_out fun z => by obtain ⟨_, _, _, n⟩ := at_ c z; rw [q] at n; cases n]; exact q
      · rw [showA_out fun z => by obtain ⟨_, _, _, n⟩ := at_ c z; rw [q] at n; cases n]; exact q
end
/-- the lambda f of the text S stands in H, its cells pinned, holding cvs -/
structure LamAt (H : Hp) (S : FnS) (f c' : Addr) (cs : List Addr) (pm ctv : Value) (cvs : List V) : Prop where
  f : H f = some (PinO f (lamO S cs pm c' ctv))
  c : H c' = some (LamX.CodeO c' S.q)
  lc : cs.length = S.cap.length
  lv : cs.length = cvs.length
  nd : cs.Nodup
  at' : ∀ (i : Nat) c v, cs[i]? = some c → cvs[i]? = some v → ∃ o u, H c = some (PinO c o) ∧ o.data = .cell (some u) ∧ RelV v u
theorem LamAt.pins {H : Hp} {S : FnS} {f c' : Addr} {cs : List Addr} {pm ctv : Value} {cvs : List V} (h : LamAt H S f c' cs pm ctv cvs) : Pins H cs := fun c hc => by
  obtain ⟨i, hi, e⟩ := List.getElem_of_mem hc
  have hi' : i < cvs.length := h.lv ▸ hi
  obtain ⟨o, u, a, _⟩ := h.at' i c cvs[i] (by rw [← e]; simp [hi]) (by simp [hi'])
  exact ⟨o, a⟩
/-- the call's promise in terms of the shown heap -/
def spV (S : FnS) (sp : Sp) (f : Addr) (vs : List V) (H : Hp) (Q : VK) (E : XK) : Prop :=
  ∃ c' cs pm ctv cvs, LamAt H S f c' cs pm ctv cvs ∧ sp (vs ++ cvs) (hideA H cs) (fun v H' => (∀ c ∈ cs, H' c = none) → Q v (showA H' H cs)) (fun e d H' => E e d (showA H' H cs))
end GL
namespace GL
open PySem PySem.Spec PyProof.Rows L2 G
/-- x(..), x a name that holds the lambda -/
def tCallV (S : FnS) (i : Nat) (sp : Sp) (E : XK) (t : TA) : TE := fun σ H Q => ∃ f, σ[i]? = some (some (.ref f)) ∧ (∃ c' cs pm ctv cvs, LamAt H S f c' cs pm ctv cvs) ∧ t σ H fun vs H1 => spV S sp f vs H1 Q E
theorem fnAt_pin {X : Cx} {pins : List (Addr × Obj)} {σ : L2.St} {H : Hp} {s : Shared} {S : FnS} {f c' : Addr} {cs : List Addr} {pm ctv : Value} {cvs : List V} (I : Inv X pins σ H s) (h : LamAt H S f c' cs pm ctv cvs) : PySem.W.FnAt f s.heap :=
  ⟨_, _, _, _, pin_ok (I.hok f _ h.f)⟩
section
variable {X : Cx} {CX : CXT} {S : FnS} {i j k : Nat} {x : Str} {sp : Sp} {E : XK} {t : TA} {e : Expr} {es : List Expr} {p pos : Pos}
/-- how an exception of a lambda lies: its pinned ones shown again -/
theorem run_lam {pins : List (Addr × Obj)} {σ : L2.St} {H : Hp} {s : Shared} {Q : VK} {f : Addr} {us : List Value} {vs : List V} (F : LamOk X.prog X.w X.K X.mg X.base CX k S sp) (hr : Room k X.A)
    (hx : ∀ (pins : List (Addr × Obj)) (σ : L2.St) (H : Hp) (s : Shared) (e : Value) (s' : Shared) (cs : List Addr), Pins H cs → Inv X pins σ H s → CX X.stack (hideA H cs) s (fun e d H' => E e d (showA H' H cs)) e s' → X.xe e s')
    (I : Inv X pins σ H s) (r : Vals vs us) (q : spV S sp f vs H Q E) : wpAny (model X.prog X.w) X.A (call (.ref f) us) (EP X pins σ Q) X.xe s := by
  obtain ⟨c', cs, pm, ctv, cvs, L, q⟩ := q
  have pn := L.pins
  have e0 := I.env0
  have hf := pin_ok (I.hok f _ L.f)
  obtain ⟨⟨oc, ws, t, hoc, hdc, hvc⟩, _, _⟩ := I.hok c' _ L.c
  refine wpAny_call (codeAny_mono (F.run X.A X.stack s (hideA H cs) us vs cvs _ _ f c' cs pm ctv hr (env0_hide e0 pn) hf ⟨oc, ws, t, hoc, hdc, hvc⟩ L.nd L.lc L.lv.symm (fun i c v h1 h2 => ?_) r q) fun r s' hq => ?_)
  · obtain ⟨o, u, a, b, d⟩ := L.at' i c v h1 h2
    exact ⟨hideA_in (List.mem_of_getElem? h1), o, u, pin_ok (I.hok c _ a), b, d⟩
  · cases r with
    | error e => exact hx pins σ H s e s' cs pn I hq
    | ok fl =>
      cases fl with
      | ret u =>
        obtain ⟨v, H', os, bare, un, hok, rv, q⟩ := hq
        obtain ⟨un2, hok2⟩ := un_show (s' := s') un pn I.hok hok fun c hc z => by
          obtain ⟨o, e⟩ := pn c hc
          rw [e0.frf c z] at e; cases e
        refine I.after ⟨v, showA H' H cs, os, bare, un2, hok2, rv, q fun c hc => ?_⟩
        obtain ⟨o, e⟩ := pn c hc
        exact un.free c o (pin_ok (I.hok c _ e)) (hideA_in hc) (by simp)
      | next => exact False.elim hq
      | brk => exact False.elim hq
      | cont => exact False.elim hq
theorem pe_callV (F : LamOk X.prog X.w X.K X.mg X.base CX k S sp) (hr : Room k X.A)
    (hx : ∀ (pins : List (Addr × Obj)) (σ : L2.St) (H : Hp) (s : Shared) (e : Value) (s' : Shared) (cs : List Addr), Pins H cs → Inv X pins σ H s → CX X.stack (hideA H cs) s (fun e d H' => E e d (showA H' H cs)) e s' → X.xe e s')
    (hN : X.N[i]? = some x) (hv : Vis X.env.scope x) (ha : PA X (e :: es) t)
    (hd : (x == ("__debug__" : Str)) = false := by decide) (hcd : (x == ("__classdict__" : Str)) = false := by decide)
    (he : starEach (e :: es) X.env = (false, eval e X.env) :: starEach es X.env := by rfl) (hpl : (backTo pos (starEach es X.env)).any (·.1) = false := by rfl) :
    PE X (.Call (.Name x p) (e :: es) [] pos) (tCallV S i sp E t) := by
  refine ⟨fun pins s σ H Q I h => ?_⟩
  obtain ⟨f, hs, ⟨c', cs, pm, ctv, cvs, L⟩, ht⟩ := h
  refine wpAny_Call_Name_kw (thn ((pe_var (pos := p) hN hv hd hcd).run pins s σ H (fun v H1 => v = .ref f ∧ H1 = H) I ⟨.ref f, hs, rfl, rfl⟩) fun u s1 ⟨v, H1, I1, r1, q1⟩ => ?_)
  obtain ⟨ev, eH⟩ := q1
  subst ev
  rw [eH] at I1
  obtain rfl : u = Value.ref f := r1
  refine PySem.W.callWith_F (first := []) (fnAt_pin I1 L) (thn (ha.run pos pins s1 σ H _ I1 ht) fun us s2 ⟨vs, H2, I2, r, q⟩ => ⟨?_, ?_⟩) he hpl
  · obtain ⟨_, _, _, _, _, L2, _⟩ := q
    exact fnAt_pin I2 L2
  · show wpAny _ _ (call (.ref f) us) _ _ _
    exact run_lam F hr hx I2 r q
end
/-- without errors -/
theorem lam_pass0 {X : Cx} : ∀ (pins : List (Addr × Obj)) (σ : L2.St) (H : Hp) (s : Shared) (e : Value) (s' : Shared) (cs : List Addr), Pins H cs → Inv X pins σ H s → L2.CX0 X.stack (hideA H cs) s (fun e d H' => L2.E0 e d (showA H' H cs)) e s' → X.xe e s' :=
  fun _ _ _ _ _ _ _ _ _ h => h.elim
end GL
set_option Elab.async false
set_option linter.all false
set_option maxRecDepth 100000
set_option maxHeartbeats 4000000
/-! L3kb: the making of a lambda (told: it is new), a call with cells pinned. -/
namespace GL
open PySem PySem.Spec PyProof.Rows L2 G
open LamX (Tabs TabS TabB ExtN CodeO)
section
variable {X : Cx} {pins : List (Addr × Obj)} {σ : L2.St} {H : Hp} {s : Shared}
/-- the tables behind the making -/
theorem tabs_grow {T : List (Addr × Str)} {P c : Addr} {q : Str} {ps : Array Value} {ln cl : Nat} (hT : Tabs T H) (hP : H P = some (.tbl ps)) (nC : H c = none) (hq : ∀ p ∈ T, p.1 = P → p.2 = q) :
    ExtN H (upd (upd H P (.tbl (ps ++ #[rawInt ln, rawInt cl, .ref c]))) c (CodeO c q)) ∧ Tabs T (upd (upd H P (.tbl (ps ++ #[rawInt ln, rawInt cl, .ref c]))) c (CodeO c q)) := by
  have nPc : P ≠ c := ne_of_none hP nC
  have ex : ExtN H (upd (upd H P (.tbl (ps ++ #[rawInt ln, rawInt cl, .ref c]))) c (CodeO c q)) := by
    intro b o eb nb
    have h1 : b ≠ c := ne_of_none eb nC
    have h2 : b ≠ P := by
      rintro rfl
      rw [hP] at eb
      exact nb ps (Option.some.inj eb).symm
    rw [upd_ne h1, upd_ne h2]
    exact eb
  refine ⟨ex, ?_⟩
  intro p hp
  by_cases hb : p.1 = P
  · rw [hq p hp hb, hb]
    obtain ⟨ps0, t1, t2, t3⟩ := hT p hp
    rw [hb, hP] at t1
    obtain rfl : ps = ps0 := by cases t1; rfl
    have et : (ps ++ #[rawInt ln, rawInt cl, Value.ref c]).toList = ps.toList ++ [rawInt ln, rawInt cl, .ref c] := by simp
    refine ⟨ps ++ #[rawInt ln, rawInt cl, .ref c], by rw [upd_ne nPc, upd_same], ?_, ?_⟩
    · rw [et]; exact PySem.TriplesOk_snoc _ _ _ _ t2
    · intro p' cv hcv
      rw [et] at hcv
      rcases LamX.among_app (pos := ⟨ln, cl, 0, 0⟩) _ t2 hcv with z | z
      · obtain ⟨c0, e1, e2⟩ := t3 p' cv z
        rw [hq p hp hb] at e2
        exact ⟨c0, e1, ex _ _ e2 LamX.codeO_ne⟩
      · exact ⟨c, z, upd_same⟩
  · obtain ⟨ps', t1, t2, t3⟩ := hT p hp
    refine ⟨ps', by rw [upd_ne (ne_of_none t1 nC), upd_ne hb]; exact t1, t2, ?_⟩
    intro p' cv hcv
    obtain ⟨c0, e1, e2⟩ := t3 p' cv hcv
    exact ⟨c0, e1, ex _ _ e2 LamX.codeO_ne⟩
/-- a lambda is made -/
theorem lam_new {T : List (Addr × Str)} {c P : Addr} {params : Arguments} {body : Expr} {scope : Scope} {pos : Pos} {E Q : Value → Shared → Prop} (I : Inv X pins σ H s) (TB : TabB X.base X.mg c P) (hcode : X.env.code = .ref c)
    (hm : (P, X.env.qual ++ "<lambda>") ∈ T) (hu : ∀ p ∈ T, p.1 = P → p.2 = X.env.qual ++ "<lambda>") (hT : Tabs T H) (hdef : defaultsOf params X.env = ([], [])) (hfr : ∀ y ∈ scope.names, y.2 = .free → ∃ c, X.env.cells.lookup y.1 = some c)
    (fin : ∀ (f c' : Addr) (pm ctv : Value) (H1 : Hp) (s' : Shared), Inv X pins σ H1 s' → ExtN H H1 → Tabs T H1 →
      s'.heap.get? f = some (PySem.W.kla_obj "<lambda>" (X.env.qual ++ "<lambda>") params body scope (cloFrom X.env.cells scope.names []) pm c' ctv) → s.heap.objs.size ≤ f → H1 f = none → H1 c' = some (CodeO c' (X.env.qual ++ "<lambda>")) → (∀ b, H b = none → H1 b = none ∨ (b = c' ∧ s.heap.objs.size ≤ b)) → (∀ b o, H b = some o → b ≠ P → H1 b = some o) → Q (.ref f) s') :
    wpAny (model X.prog X.w) X.A (eval (.Lambda params body scope pos) X.env) Q E s := by
  obtain ⟨ps, hP, tOk, tAt⟩ := hT _ hm
  have bi : s.heap.BuiltinsAt X.mg P := TB.bm.keeps I.bk
  have oP : s.heap.get? P = some { cls := .none, data := .fields ps } := I.hok P _ hP
  refine PySem.W.kla_eval hdef ?_
  rcases hca : codeAmong pos ps.toList with _ | cv
  · refine PySem.W.kla_makeFunction (mg := X.mg) (c := c) (P := P) (ps := ps) (closure_ok hfr) I.ok.glob (I.mod.glob.keeps I.bk) hcode (TB.code.keeps I.bk) oP tOk hca TB.gP bi ?_
    intro c' ctv g tk ext low lt rec tab
    obtain ⟨c2, oc, vs, t, ec, hoc, hd, hv⟩ := rec
    obtain rfl : c' = c2 := by cases ec; rfl
    have nC : H c' = none := I.hok.fresh low
    obtain ⟨k1, k2⟩ := tabs_grow (ln := pos.line) (cl := pos.col) hT hP nC hu
    have J := LamX.inv_table (t' := tk) (more := #[rawInt pos.line, rawInt pos.col, .ref c']) (h' := g.push (PySem.W.kla_obj "<lambda>" (X.env.qual ++ "<lambda>") params body scope (cloFrom X.env.cells scope.names []) ((X.mg "__name__").getD .none) c' ctv)) I hP
      (fun b o hb e => Heap.get?_push_of_some _ (ext b o hb e)) (Heap.get?_push_of_some _ tab) low ⟨oc, vs, t, Heap.get?_push_of_some _ hoc, hd, hv⟩
    have up : s.heap.objs.size ≤ g.objs.size := Nat.le_trans low (Nat.le_of_lt lt)
    refine fin g.objs.size c' _ ctv _ _ J k1 k2 (Heap.get?_push_size _ rfl) up ?_ upd_same ?_ ?_
    · have m1 : g.objs.size ≠ c' := Nat.ne_of_gt lt
      have m2 : g.objs.size ≠ P := Nat.ne_of_gt (Nat.lt_of_lt_of_le (Heap.lt_size oP) up)
      rw [upd_ne m1, upd_ne m2]
      exact I.hok.fresh up
    · intro b hb
      by_cases e1 : b = c'
      · exact .inr ⟨e1, by rw [e1]; exact low⟩
      · refine .inl ?_
        rw [upd_ne e1, upd_ne (by rintro rfl; rw [hP] at hb; cases hb)]
        exact hb
    · intro b o eb nb
      rw [upd_ne (ne_of_none eb nC), upd_ne nb]
      exact eb
  · obtain ⟨c', ecv, hco⟩ := tAt pos cv hca
    subst ecv
    refine PySem.W.kla_makeFunctionHit (mg := X.mg) (c := c) (P := P) (ps := ps) (closure_ok hfr) I.ok.glob (I.mod.glob.keeps I.bk) hcode (TB.code.keeps I.bk) oP tOk hca bi ?_
    intro ctv g tk ext up
    have J : Inv X pins σ H { s with heap := g.push (PySem.W.kla_obj "<lambda>" (X.env.qual ++ "<lambda>") params body scope (cloFrom X.env.cells scope.names []) ((X.mg "__name__").getD .none) c' ctv), toks := tk } := I.kept fun b o e => Heap.get?_push_of_some _ (ext b o e)
    exact fin g.objs.size c' _ ctv H _ J (LamX.ExtN.refl H) hT (Heap.get?_push_size _ rfl) up (I.hok.fresh up) hco (fun b hb => .inl hb) fun b o eb _ => eb
end
/-- an object that is new since s is tracked, as it is -/
theorem pinNew {X : Cx} {pins : List (Addr × Obj)} {σ : L2.St} {H H1 : Hp} {s s' : Shared} {f : Addr} {o : Obj} (I : Inv X pins σ H s) (J : Inv X pins σ H1 s') (low : s.heap.objs.size ≤ f) (nf : H1 f = none) (ho : s'.heap.get? f = some o) : Inv X pins σ (upd H1 f (PinO f o)) s' := by
  have below : ∀ b u, s.heap.get? b = some u → b ≠ f := by
    intro b u e z
    rw [z] at e
    exact absurd (Nat.lt_of_lt_of_le (Heap.lt_size e) low) (Nat.lt_irrefl _)
  have below0 : ∀ b u, X.s_0.heap.get? b = some u → b ≠ f := by
    intro b u e z
    rw [z] at e
    exact absurd (Nat.lt_of_lt_of_le (Heap.lt_size e) (Nat.le_trans I.sz low)) (Nat.lt_irrefl _)
  have tr : ∀ b u, H1 b = some u → upd H1 f (PinO f o) b = some u := by
    intro b u e
    rw [upd_ne (ne_of_none e nf)]
    exact e
  obtain ⟨uk, us, uf, ut, u1, u2, u3⟩ := J.base
  refine ⟨J.ok, J.os, J.bare, ⟨uk, us, ?_, ut, fun b xs e => tr _ _ (u1 b xs e), fun b a u e => tr _ _ (u2 b a u e), ?_⟩, J.loc, J.cell, ?_, ?_, ?_, ?_, J.len⟩
  · intro b u e n hx
    rw [upd_ne (below0 b u e)]
    exact uf b u e n hx
  · intro b ps e
    obtain ⟨more, z⟩ := u3 b ps e
    exact ⟨more, tr _ _ z⟩
  · obtain ⟨m, ⟨ol, _, _, hl, _⟩, _⟩ := I.loc
    rw [upd_ne (below _ _ hl)]
    exact J.free
  · intro x c e
    obtain ⟨v, oc, hoc, _⟩ := I.cell x c e
    rw [upd_ne (below _ _ hoc)]
    exact J.freeC x c e
  · intro p hp
    obtain ⟨e0, _⟩ := I.pin p hp
    obtain ⟨e, n, r⟩ := J.pin p hp
    exact ⟨e, by rw [upd_ne (below _ _ e0)]; exact n, r⟩
  · intro b u e
    by_cases hb : b = f
    · subst hb
      rw [upd_same] at e; cases e
      exact pin_mk ho
    · rw [upd_ne hb] at e
      exact (J.hok b u e).stay (fun _ _ _ q => q) (fun d q => tr _ _ q) fun d xs q => tr _ _ q
/-- the addresses of the cells that S captures of a frame -/
def capC (X : Cx) (S : FnS) : List Addr := (cloFrom X.env.cells S.scope.names []).map (·.2)
/-- the lambda S as a value: new, its cells not yet pinned -/
def tLam (T : List (Addr × Str)) (S : FnS) (cs : List Addr) : TE := fun _ H Q => Tabs T H ∧ ∀ (f c' : Addr) (pm ctv : Value) (H1 : Hp), (∀ b o, H b = some o → b ∉ T.map (·.1) → H1 b = some o) → Tabs T H1 → H1 f = none → H f = none → f ≠ c' → H1 c' = some (CodeO c' S.q) → (∀ b, H b = none → H1 b = none ∨ b = c') →
  (∀ c ∈ cs, c ≠ f ∧ c ≠ c') → (cs.length = S.cap.length ∧ cs.Nodup) → Q (.ref f) (upd H1 f (PinO f (lamO S cs pm c' ctv)))
/-- S is the lambda that stands there in X's text -/
structure LamHere (X : Cx) (S : FnS) (params : Arguments) (body : Expr) (scope : Scope) : Prop where
  q : S.q = X.env.qual ++ "<lambda>"
  pa : S.params = params
  bo : S.body = body
  sc : S.scope = scope
  cap : S.cap = ((scope.names.filter fun y => y.2 == .free).map (·.1)).reverse
  fr : ∀ y ∈ scope.names, y.2 = .free → X.env.scope.names.lookup y.1 = some .cell ∨ X.env.scope.names.lookup y.1 = some .free
theorem cloFrom_eq (cells : List (Str × Addr)) : ∀ (ns : List (Str × NameKind)) (acc : List (Str × Addr)), cloFrom cells ns acc = (((ns.filter fun y => y.2 == .free).map fun y => (y.1, (cells.lookup y.1).getD 0)).reverse) ++ acc
  | [], acc => rfl
  | (n, k) :: r, acc => by
    show (if k == .free then cloFrom cells r ((n, (cells.lookup n).getD 0) :: acc) else cloFrom cells r acc) = _
    cases hk : (k == NameKind.free) with
    | true => rw [if_pos rfl, cloFrom_eq cells r, List.filter_cons_of_pos (by exact hk)]; simp
    | false => rw [if_neg Bool.false_ne_true, cloFrom_eq cells r, List.filter_cons_of_neg (by rw [hk]; exact Bool.false_ne_true)]
theorem clo_zip {X : Cx} {S : FnS} {params : Arguments} {body : Expr} {scope : Scope} (h : LamHere X S params body scope) : cloFrom X.env.cells scope.names [] = S.cap.zip (capC X S) ∧ (capC X S).length = S.cap.length ∧ ∀ (i : Nat) n, S.cap[i]? = some n → (capC X S)[i]? = some ((X.env.cells.lookup n).getD 0) := by
  have e1 : cloFrom X.env.cells scope.names [] = S.cap.map fun n => (n, (X.env.cells.lookup n).getD 0) := by
    rw [cloFrom_eq, List.append_nil, h.cap, List.map_reverse, List.map_map]; rfl
  have e2 : capC X S = S.cap.map fun n => (X.env.cells.lookup n).getD 0 := by
    unfold capC
    rw [h.sc, e1, List.map_map]; rfl
  refine ⟨?_, by rw [e2, List.length_map], fun i n hi => by rw [e2, List.getElem?_map, hi]; rfl⟩
  rw [e1, e2]
  generalize S.cap = l
  induction l with
  | nil => rfl
  | cons a l ih => simp only [List.map_cons, List.zip_cons_cons, ih]
section
variable {X : Cx} {T : List (Addr × Str)} {S : FnS} {c P : Addr} {params : Arguments} {body : Expr} {scope : Scope} {pos : Pos}
theorem LamHere.has (h : LamHere X S params body scope) (ok : X.Ok) : ∀ y ∈ scope.names, y.2 = .free → ∃ c, X.env.cells.lookup y.1 = some c := fun y hy e => by
  rcases h.fr y hy e with k | k
  · exact ok.has _ (.inl k)
  · exact ok.has _ (.inr k)
theorem LamHere.cell (h : LamHere X S params body scope) (ok : X.Ok) {d : Addr} (hd : d ∈ capC X S) : ∃ n, n ∈ S.cap ∧ X.env.cells.lookup n = some d := by
  obtain ⟨_, e2, e3⟩ := clo_zip h
  obtain ⟨i, hi, e⟩ := List.getElem_of_mem hd
  have hi' : i < S.cap.length := e2 ▸ hi
  have := e3 i S.cap[i] (by simp [hi'])
  have e4 : (capC X S)[i]? = some d := by rw [← e]; simp [hi]
  rw [e4] at this
  have hn : S.cap[i] ∈ S.cap := List.getElem_mem hi'
  have hn2 : S.cap[i] ∈ ((scope.names.filter fun y => y.2 == .free).map (·.1)).reverse := h.cap ▸ hn
  rw [List.mem_reverse, List.mem_map] at hn2
  obtain ⟨y, hy, ey⟩ := hn2
  have hy2 := List.mem_filter.mp hy
  obtain ⟨c0, hc0⟩ := h.has ok y hy2.1 (beq_iff_eq.mp hy2.2)
  rw [ey] at hc0
  rw [hc0] at this
  exact ⟨_, hn, by rw [hc0, Option.some.inj this]; rfl⟩
theorem LamHere.at' (h : LamHere X S params body scope) (ok : X.Ok) {i : Nat} {n : Str} (hn : S.cap[i]? = some n) : ∃ d, (capC X S)[i]? = some d ∧ X.env.cells.lookup n = some d := by
  obtain ⟨_, _, e3⟩ := clo_zip h
  have hm : n ∈ ((scope.names.filter fun y => y.2 == .free).map (·.1)).reverse := h.cap ▸ List.mem_of_getElem? hn
  rw [List.mem_reverse, List.mem_map] at hm
  obtain ⟨y, hy, ey⟩ := hm
  have hy2 := List.mem_filter.mp hy
  obtain ⟨c0, hc0⟩ := h.has ok y hy2.1 (beq_iff_eq.mp hy2.2)
  rw [ey] at hc0
  have := e3 i n hn
  rw [hc0] at this
  exact ⟨c0, this, hc0⟩
theorem LamHere.nodup (h : LamHere X S params body scope) (nd : S.cap.Nodup) (ok : X.Ok) : (capC X S).Nodup := by
  obtain ⟨_, e2, _⟩ := clo_zip h
  refine List.pairwise_iff_getElem.mpr fun i j hi hj hij e => ?_
  have hi' : i < S.cap.length := by omega
  have hj' : j < S.cap.length := by omega
  obtain ⟨d, d1, d2⟩ := h.at' ok (i := i) (n := S.cap[i]) (by simp [hi'])
  obtain ⟨d', d3, d4⟩ := h.at' ok (i := j) (n := S.cap[j]) (by simp [hj'])
  have e1 : (capC X S)[i]? = some (capC X S)[i] := by simp [hi]
  have e3 : (capC X S)[j]? = some (capC X S)[j] := by simp [hj]
  rw [e1] at d1
  rw [e3] at d3
  cases d1; cases d3
  rw [← e] at d4
  have := ok.inj _ _ _ d2 d4
  exact absurd ((List.getElem_inj nd).mp this) (by omega)
theorem pe_lam (h : LamHere X S params body scope) (TB : TabB X.base X.mg c P) (hcode : X.env.code = .ref c) (hm : (P, S.q) ∈ T) (hu : ∀ p ∈ T, p.1 = P → p.2 = S.q) (hdef : defaultsOf params X.env = ([], [])) (nd : S.cap.Nodup) :
    PE X (.Lambda params body scope pos) (tLam T S (capC X S)) := by
  refine ⟨fun pins s σ H Q I q => ?_⟩
  obtain ⟨hT, q⟩ := q
  obtain ⟨z1, z2, z3⟩ := clo_zip h
  refine lam_new (T := T) I TB hcode (h.q ▸ hm) (h.q ▸ hu) hT hdef (h.has I.ok) fun f c' pm ctv H1 s' J ex hT1 hf low nf hc nw kp => ?_
  have nef : f ≠ c' := by rintro rfl; rw [nf] at hc; cases hc
  have e : PySem.W.kla_obj "<lambda>" (X.env.qual ++ "<lambda>") params body scope (cloFrom X.env.cells scope.names []) pm c' ctv = lamO S (capC X S) pm c' ctv := by
    unfold lamO
    rw [z1, h.q, h.pa, h.bo, h.sc]
  rw [e] at hf
  have J2 := pinNew I J low nf hf
  have bel : ∀ b u, s.heap.get? b = some u → b ≠ f := by
    intro b u e z
    rw [z] at e
    exact absurd (Nat.lt_of_lt_of_le (Heap.lt_size e) low) (Nat.lt_irrefl _)
  have nH : H f = none := I.hok.fresh low
  refine ⟨.ref f, _, J2, rfl, q f c' pm ctv H1 (fun b o eb nb => kp b o eb fun z => nb (by rw [z]; exact List.mem_map.mpr ⟨_, hm, rfl⟩)) hT1 nf nH nef (by rw [h.q]; exact hc) (fun b hb => (nw b hb).imp id And.left) (fun d hd => ?_) ⟨z2, h.nodup nd I.ok⟩⟩
  obtain ⟨n, _, hn⟩ := h.cell I.ok hd
  obtain ⟨v, oc, hoc, hdc⟩ := I.cell n d hn
  refine ⟨bel _ _ hoc, fun z => ?_⟩
  have := J.freeC n d hn
  rw [z, hc] at this
  cases this
end
end GL
namespace GL
open PySem PySem.Spec PyProof.Rows L2 G
/-- H3 is H with the cells cs pinned, holding cvs -/
structure PinBy (H H3 : Hp) (cs : List Addr) (cvs : List V) : Prop where
  out : ∀ b, b ∉ cs → H3 b = H b
  none : ∀ b ∈ cs, H b = none
  at' : ∀ (i : Nat) c v, cs[i]? = some c → cvs[i]? = some v → ∃ o u, H3 c = some (PinO c o) ∧ o.data = .cell (some u) ∧ RelV v u
  pin : Pins H3 cs
/-- the frame's cells cs are those of the names ns, which stand at js -/
structure CapAt (X : Cx) (cs : List Addr) (ns : List Str) (js : List Nat) : Prop where
  len : cs.length = js.length
  ln : ns.length = js.length
  cell : ∀ (i : Nat) c, cs[i]? = some c → ∃ n, ns[i]? = some n ∧ X.env.cells.lookup n = some c
  kind : ∀ n ∈ ns, X.env.kindOf n = some .cell ∨ X.env.kindOf n = some .free
  slot : ∀ (i : Nat) n j, ns[i]? = some n → js[i]? = some j → X.N[j]? = some n
  vis : ∀ n ∈ ns, Vis X.env.scope n
  fn : ∀ n ∈ ns, X.fn n = true
theorem capAt_of {X : Cx} {S : FnS} {params : Arguments} {body : Expr} {scope : Scope} (h : LamHere X S params body scope) {js : List Nat} (lj : S.cap.length = js.length) (hk : ∀ n ∈ S.cap, X.env.scope.names.lookup n = some .cell) (hs : ∀ (i : Nat) n j, S.cap[i]? = some n → js[i]? = some j → X.N[j]? = some n) (hf : ∀ n, X.fn n = true) (ok : X.Ok) : CapAt X (capC X S) S.cap js := by
  obtain ⟨_, e2, _⟩ := clo_zip h
  refine ⟨e2.trans lj, lj, fun i c hc => ?_, fun n hn => .inl (hk n hn), hs, fun n hn => .inr (.inl (hk n hn)), fun n _ => hf n⟩
  have hi : i < S.cap.length := e2 ▸ (List.getElem?_eq_some_iff.mp hc).1
  obtain ⟨d, d1, d2⟩ := h.at' ok (i := i) (n := S.cap[i]) (by simp [hi])
  rw [hc] at d1; cases d1
  exact ⟨_, by simp [hi], d2⟩
section
variable {X : Cx} {CX : CXT} {k : Nat} {f C : Addr} {fd : FuncData} {ps : List Str} {sp : Sp} {dvs : List V} {ds : List Value} {E : XK} {x m : Str} {p pos apos : Pos} {e o : Expr} {es : List Expr} {ta : TE} {t : TA} {cs : List Addr} {js : List Nat} {ns : List Str}
theorem run_fnC {pins : List (Addr × Obj)} {σ : L2.St} {H : Hp} {s : Shared} {Q : VK} {us : List Value} {vs cvs : List V} (F : FnOk X.prog X.w X.K X.mg X.base CX k f fd ps sp) (hr : Room k X.A) (hb : L2.Binds X.K fd ps ds) (hd : Vals dvs ds)
    (hx : ∀ H3 e s', PinBy H H3 cs cvs → CX X.stack H3 s E e s' → X.xe e s') (cA : X.Ok → CapAt X cs ns js) (hcv : ∀ (i j : Nat), js[i]? = some j → ∃ v, σ[j]? = some (some v) ∧ cvs[i]? = some v) (hlv : cvs.length = js.length)
    (I : Inv X pins σ H s) (r : Vals vs us) (h : ∀ H3, PinBy H H3 cs cvs → sp (vs ++ dvs) H3 (fun v H' => (∀ c ∈ cs, H' c = H3 c) ∧ Q v (hideA H' cs)) E) : wpAny (model X.prog X.w) X.A (call (.ref f) us) (EP X pins σ Q) X.xe s := by
  classical
  have e0 := I.env0
  have ca := cA I.ok
  have at0 : ∀ c ∈ cs, ∃ (i : Nat) (v : V) (ob : Obj) (u : Value), cs[i]? = some c ∧ cvs[i]? = some v ∧ s.heap.get? c = some ob ∧ ob.data = .cell (some u) ∧ RelV v u ∧ H c = none ∧ X.base.get? c = none ∧ c ∉ frs X.stack := by
    intro c hc
    obtain ⟨i, hi, ec⟩ := List.getElem_of_mem hc
    have ci : cs[i]? = some c := by rw [← ec]; simp [hi]
    obtain ⟨n, hn, hcl⟩ := ca.cell i c ci
    have hj : i < js.length := ca.len ▸ hi
    have ji : js[i]? = some js[i] := by simp [hj]
    obtain ⟨v, hv, hv2⟩ := hcv i _ ji
    have hm : n ∈ ns := List.mem_of_getElem? hn
    obtain ⟨m, hns, hl⟩ := I.loc
    obtain ⟨u, rv, look⟩ := hl _ n v (ca.slot i n _ hn ji) hv (ca.vis n hm)
    rcases look with ⟨kl, _⟩ | ⟨_, c2, e2, ob, ho, hdo⟩
    · rcases ca.kind n hm with q | q <;> rw [kl] at q <;> cases q
    · rw [hcl] at e2; cases e2
      have low := I.ok.cab n c (ca.fn n hm) hcl
      refine ⟨i, v, ob, u, ci, hv2, ho, hdo, rv, I.freeC n c hcl, ?_, fun z => ?_⟩
      · cases q : X.base.get? c with
        | none => rfl
        | some w => exact absurd (Nat.lt_of_lt_of_le (Heap.lt_size q) (Nat.le_trans I.ok.bsz low)) (Nat.lt_irrefl _)
      · rcases List.mem_cons.mp (I.stkSub c z) with e1 | e1
        · exact I.cne n c hcl e1
        · obtain ⟨_, o2, ho2, _⟩ := I.ok.funs.mem e1
          exact absurd (Nat.lt_of_lt_of_le (Heap.lt_size ho2) low) (Nat.lt_irrefl _)
  obtain ⟨H3, hH3⟩ : ∃ H3 : Hp, H3 = fun b => if b ∈ cs then (s.heap.get? b).map (PinO b) else H b := ⟨_, rfl⟩
  have inn : ∀ c ob, c ∈ cs → s.heap.get? c = some ob → H3 c = some (PinO c ob) := by
    intro c ob hc ho
    rw [hH3]
    show (if c ∈ cs then (s.heap.get? c).map (PinO c) else H c) = _
    rw [if_pos hc, ho]; rfl
  have out : ∀ b, b ∉ cs → H3 b = H b := by
    intro b hb
    rw [hH3]
    exact if_neg hb
  have PB : PinBy H H3 cs cvs := by
    refine ⟨out, fun b hb => ?_, fun i c v h1 h2 => ?_, fun c hc => ?_⟩
    · obtain ⟨_, _, _, _, _, _, _, _, _, n, _⟩ := at0 b hb
      exact n
    · have hc := List.mem_of_getElem? h1
      obtain ⟨n, hn, hcl⟩ := ca.cell i c h1
      have hi : i < js.length := ca.len ▸ (List.getElem?_eq_some_iff.mp h1).1
      have ji : js[i]? = some js[i] := by simp [hi]
      obtain ⟨v', hv, hv2⟩ := hcv i _ ji
      rw [h2] at hv2; cases hv2
      have hm : n ∈ ns := List.mem_of_getElem? hn
      obtain ⟨m, hns, hl⟩ := I.loc
      obtain ⟨u, rv, look⟩ := hl _ n v (ca.slot i n _ hn ji) hv (ca.vis n hm)
      rcases look with ⟨kl, _⟩ | ⟨_, c2, e2, ob, ho, hdo⟩
      · rcases ca.kind n hm with q | q <;> rw [kl] at q <;> cases q
      · rw [hcl] at e2; cases e2
        exact ⟨ob, u, inn c ob hc ho, hdo, rv⟩
    · obtain ⟨_, _, ob, _, _, _, ho, _⟩ := at0 c hc
      exact ⟨ob, inn c ob hc ho⟩
  have tr : ∀ b u, H b = some u → H3 b = some u := by
    intro b u eb
    rw [out b (fun z => by rw [PB.none b z] at eb; cases eb)]
    exact eb
  have hok3 : HOk X.prog X.w H3 s.heap := by
    intro b u eb
    by_cases hb : b ∈ cs
    · obtain ⟨_, _, ob, _, _, _, ho, _⟩ := at0 b hb
      rw [inn b ob hb ho] at eb; cases eb
      exact pin_mk ho
    · rw [out b hb] at eb
      exact (I.hok b u eb).stay (fun _ _ _ q => q) (fun d q => tr _ _ q) fun d xs q => tr _ _ q
  have e3 : Env0 X.prog X.w X.K X.mg X.base X.A X.stack s H3 := by
    refine ⟨e0.frames, e0.mod, fun b ob eb => ⟨(e0.bs b ob eb).1, ?_⟩, e0.bsz, e0.funs, fun b hb => ?_, hok3, e0.bare⟩
    · rw [out b]
      · exact (e0.bs b ob eb).2
      · intro z
        obtain ⟨_, _, _, _, _, _, _, _, _, _, nb, _⟩ := at0 b z
        rw [nb] at eb; cases eb
    · rw [out b]
      · exact e0.frf b hb
      · intro z
        obtain ⟨_, _, _, _, _, _, _, _, _, _, _, nf⟩ := at0 b z
        exact nf hb
  have r2 : Vals (vs ++ dvs) (us ++ ds) := r.append hd
  have hl : (us ++ ds).length = ps.length := by
    rw [← r2.length]
    exact F.len _ _ _ _ (h H3 PB)
  refine wpAny_call (codeAny_mono (F.run X.A X.stack s H3 ⟨us, []⟩ (us ++ ds) (vs ++ dvs) _ E hr e3 (hb s us I.kIn hl) r2 (h H3 PB)) fun res s' hq => ?_)
  cases res with
  | error e => exact hx H3 e s' PB hq
  | ok fl =>
    cases fl with
    | next => exact False.elim hq
    | brk => exact False.elim hq
    | cont => exact False.elim hq
    | ret u =>
      obtain ⟨v, H', os, bare, un, hok, rv, hpin, q⟩ := hq
      have pn' : Pins H' cs := by
        intro c hc
        obtain ⟨ob, eo⟩ := PB.pin c hc
        exact ⟨ob, (hpin c hc).trans eo⟩
      have same : ∀ c ∈ cs, ∀ ob, s.heap.get? c = some ob → s'.heap.get? c = some ob := by
        intro c hc ob ho
        exact pin_ok (hok c _ ((hpin c hc).trans (inn c ob hc ho)))
      have un2 : Un (frs X.stack) [] H (hideA H' cs) s.heap s'.heap := by
        refine ⟨fun b ob eb n hf he => ?_, fun b ob eb n hf he => ?_, fun b ob eb n he => ?_, un.there, fun b xs eb => ?_, fun b ob w eb => ?_, fun b ps eb => ?_⟩
        · by_cases hb : b ∈ cs
          · exact same b hb ob eb
          · exact un.keep b ob eb (by rw [out b hb]; exact n) hf he
        · by_cases hb : b ∈ cs
          · exact ⟨ob.slots, same b hb ob eb⟩
          · exact un.slot b ob eb (by rw [out b hb]; exact n) hf he
        · by_cases hb : b ∈ cs
          · exact hideA_in hb
          · rw [hideA_out hb]
            exact un.free b ob eb (by rw [out b hb]; exact n) he
        · have nb : b ∉ cs := fun z => by rw [PB.none b z] at eb; cases eb
          rw [hideA_out nb]
          exact un.tups b xs (tr _ _ eb)
        · have nb : b ∉ cs := fun z => by rw [PB.none b z] at eb; cases eb
          rw [hideA_out nb]
          exact un.frzs b ob w (tr _ _ eb)
        · have nb : b ∉ cs := fun z => by rw [PB.none b z] at eb; cases eb
          rw [hideA_out nb]
          exact un.tbls b ps (tr _ _ eb)
      exact I.after ⟨v, hideA H' cs, os, bare, un2, hok_hide hok pn', rv, q⟩
/-- o.m(..) of an object, cells pinned -/
def tMethC (C : Addr) (m : Str) (sp : Sp) (dvs : List V) (E : XK) (cs : List Addr) (js : List Nat) (ta : TE) (t : TA) : TE := fun σ H Q => ta σ H fun x H1 => ∃ a dx fs, x = .ref a ∧ H1 a = some (.ins C dx fs) ∧ fs.lookup m = none ∧
  t σ H1 fun vs H2 => ∃ cvs, cvs.length = js.length ∧ (∀ (i j : Nat), js[i]? = some j → ∃ v, σ[j]? = some (some v) ∧ cvs[i]? = some v) ∧
  ∀ H3, PinBy H2 H3 cs cvs → sp (x :: (vs ++ dvs)) H3 (fun v H' => (∀ c ∈ cs, H' c = H3 c) ∧ Q v (hideA H' cs)) E
theorem pe_methC {pl : Sem Bool} (he : PE X o ta) (c : Cls X.K C) (hm : Meth X.K C m f) (F : FnOk X.prog X.w X.K X.mg X.base L2.CX0 k f fd ps sp) (hr : Room k X.A) (hb : L2.Binds X.K fd ps ds) (hd : Vals dvs ds) (cA : X.Ok → CapAt X cs ns js) (ha : PA X (e :: es) t)
    (hst : starEach (e :: es) X.env = (false, eval e X.env) :: starEach es X.env := by rfl) (hpl : (backTo pos (starEach es X.env)).any (·.1) = false := by rfl)
    (ht : eval (.Call (.Attribute o m apos) (e :: es) [] pos) X.env = (do
      let ov ← eval o X.env
      standAt apos.atName
      let (f, first) ← holding [ov] (getMethod ov m pl)
      callWith pos f first (backTo pos (starEach (e :: es) X.env)) (backToKw pos (keywordEach [] X.env))) := by rfl) :
    PE X (.Call (.Attribute o m apos) (e :: es) [] pos) (tMethC C m sp dvs E cs js ta t) := by
  refine ⟨fun pins s σ H Q I h => ?_⟩
  refine PySem.W.methodCall_KW (pl := pl) (thn (he.run pins s σ H _ I h) fun u s1 ⟨x, H1, I1, rx, a, dx, fs, ex, ea, l, q⟩ => ?_) ht
  subst ex
  obtain rfl : u = Value.ref a := rx
  refine getmeth_ok I1 ea c hm l ?_
  refine PySem.W.callWith_K (first := [.ref a]) (h₀ := X.base) I.ok.mod.kin hm.kp (thn (ha.run pos pins s1 σ H1 _ I1 q) fun us s2 ⟨vs, H2, I2, r, cvs, lv, hcv, q2⟩ => ⟨I2.kIn, ?_⟩) hst hpl
  exact run_fnC (us := .ref a :: us) (vs := .ref a :: vs) F hr hb hd (fun _ _ _ _ z => z.elim) cA hcv lv I2 (.cons rfl r) q2
end
end GL
set_option Elab.async false
set_option linter.all false
set_option maxRecDepth 100000
set_option maxHeartbeats 4000000
/-! L3kc: lambdas over data: a slot that holds one is called; one is made and handed to a def; statements that know a def's tables. -/
namespace GL
open PySem PySem.Spec PyProof.Rows L2 G
open LamX (Tabs TabS TabB ExtN CodeO)
mutual
/-- no lambda and no error in it -/
def noX : D → Bool
  | .non => true | .bl _ => true | .int _ => true | .str _ => true
  | .lst xs => noXL xs | .tup xs => noXL xs | .obj _ ds => noXL ds | .scr _ => true | .exc _ _ _ x => noX x | .err _ _ => false | .er0 _ => false | .fn _ _ => false
  | .dic _ ds => noXL ds | .tupF xs => noXL xs | .ref _ => true | .tupT xs => noXL xs | .dicF _ ds => noXL ds | .dicT _ ds => noXL ds
def noXL : List D → Bool
  | [] => true
  | x :: xs => noX x && noXL xs
end
theorem noXL_at : ∀ {ds : List D} {i : Nat} {d : D}, noXL ds = true → ds[i]? = some d → noX d = true
  | [], _, _, _, h => by simp at h
  | x :: xs, 0, d, n, h => by
    have n' : (noX x && noXL xs) = true := n
    rw [Bool.and_eq_true] at n'
    cases h; exact n'.1
  | x :: xs, i + 1, d, n, h => by
    have n' : (noX x && noXL xs) = true := n
    rw [Bool.and_eq_true] at n'
    exact noXL_at n'.2 (by simpa using h)
theorem noXL_map {α : Type} {f : α → D} : ∀ {xs : List α}, (∀ x ∈ xs, noX (f x) = true) → noXL (xs.map f) = true
  | [], _ => rfl
  | x :: xs, h => by
    show (noX (f x) && noXL (xs.map f)) = true
    rw [h x (by simp), noXL_map fun y hy => h y (by simp [hy])]; rfl
/-- M without what p tells -/
noncomputable def hidP (M : Hp) (p : Addr → Prop) : Hp := by classical exact fun b => if p b then none else M b
theorem hidP_in {M : Hp} {p : Addr → Prop} {b : Addr} (h : p b) : hidP M p b = none := by unfold hidP; exact if_pos h
theorem hidP_out {M : Hp} {p : Addr → Prop} {b : Addr} (h : ¬ p b) : hidP M p b = M b := by unfold hidP; exact if_neg h
theorem hidP_some {M : Hp} {p : Addr → Prop} {b : Addr} {o : HO} (h : hidP M p b = some o) : ¬ p b ∧ M b = some o := by
  by_cases c : p b
  · rw [hidP_in c] at h; cases h
  · exact ⟨c, by rw [hidP_out c] at h; exact h⟩
theorem hideA_P (M : Hp) (cs : List Addr) : hideA M cs = hidP M (· ∈ cs) := by
  funext b
  by_cases c : b ∈ cs
  · rw [hideA_in c, hidP_in c]
  · rw [hideA_out c, hidP_out c]
section
variable {Z : Wd} {M M' H H' : Hp} {B : Bas} {W : List (Nat × Addr)} {σ : L2.St} {δ : List S}
/-- what is hidden are pinned things and code objects -/
def ExtP (M : Hp) (p : Addr → Prop) : Prop := ∀ b o, p b → M b = some o → ∃ φ, o = .ext φ
theorem ExtP.keep {p : Addr → Prop} (hp : ExtP M p) {b : Addr} {o : HO} (h : M b = some o) (n : ∀ φ, o ≠ .ext φ) : hidP M p b = some o := by
  rw [hidP_out]
  · exact h
  · intro c
    obtain ⟨φ, e⟩ := hp b o c h
    exact n φ e
theorem rd_hid {p : Addr → Prop} (hp : ExtP M p) {b : Addr} {u : HO} (n : ∀ φ, u ≠ .ext φ) (h : Rd M b u) : Rd (hidP M p) b u := by
  rcases h with h | ⟨o, h⟩
  · exact .inl (hp.keep h n)
  · exact .inr ⟨o, hp.keep h fun φ e => nomatch e⟩
theorem At.hid {p : Addr → Prop} (hp : ExtP M p) {v : V} {d : D} (h : At Z M v d) : noX d = true → At Z (hidP M p) v d := by
  induction h with
  | non => exact fun _ => .non
  | bl => exact fun _ => .bl
  | int => exact fun _ => .int
  | str => exact fun _ => .str
  | lst h l _ ih => exact fun n => .lst (hp.keep h fun φ e => nomatch e) l fun i v d h1 h2 => ih i v d h1 h2 (noXL_at n h2)
  | tup h l _ ih => exact fun n => .tup (h.imp (rd_hid hp fun φ e => nomatch e) id) l fun i v d h1 h2 => ih i v d h1 h2 (noXL_at n h2)
  | obj h l l2 _ ih => exact fun n => .obj (hp.keep h fun φ e => nomatch e) l l2 fun i v d h1 h2 => ih i v d h1 h2 (noXL_at n h2)
  | scr h => exact fun n => .scr (h.imp (rd_hid hp fun φ e => nomatch e) id)
  | exc h _ ih => exact fun n => .exc (hp.keep h fun φ e => nomatch e) (ih n)
  | err h1 h2 _ ih => exact fun n => nomatch n
  | er0 h => exact fun n => nomatch n
  | fn => exact fun n => nomatch n
  | dic h k l _ ih => exact fun n => .dic (hp.keep h fun φ e => nomatch e) k l fun i v d h1 h2 => ih i v d h1 h2 (noXL_at n h2)
  | tupF h c k l _ ih => exact fun n => .tupF (hp.keep h fun φ e => nomatch e) c k l fun i v d h1 h2 => ih i v d h1 h2 (noXL_at n h2)
  | ref => exact fun _ => .ref
  | tupT h l _ ih => exact fun n => .tupT (hp.keep h fun φ e => nomatch e) l fun i v d h1 h2 => ih i v d h1 h2 (noXL_at n h2)
  | dicF h k l _ ih => exact fun n => .dicF (hp.keep h fun φ e => nomatch e) k l fun i v d h1 h2 => ih i v d h1 h2 (noXL_at n h2)
  | dicT h k l _ ih => exact fun n => .dicT (hp.keep h fun φ e => nomatch e) k l fun i v d h1 h2 => ih i v d h1 h2 (noXL_at n h2)
theorem AtL.hid {p : Addr → Prop} (hp : ExtP M p) {vs : List V} {ds : List D} (h : AtL Z M vs ds) (n : noXL ds = true) : AtL Z (hidP M p) vs ds := ⟨h.len, fun i v d a b => At.hid hp (h.at' i v d a b) (noXL_at n b)⟩
theorem LamAt.mono {S : FnS} {f c' : Addr} {cs : List Addr} {pm ctv : Value} {cvs : List V} (e : Ex M H) (h : LamAt M S f c' cs pm ctv cvs) : LamAt H S f c' cs pm ctv cvs :=
  ⟨e _ _ h.f, e _ _ h.c, h.lc, h.lv, h.nd, fun i c v a b => let ⟨o, u, q, r⟩ := h.at' i c v a b; ⟨o, u, e _ _ q, r⟩⟩
theorem At.lam {v : V} {k : Nat} {ds : List D} (h : At Z M v (.fn k ds)) : ∃ f S c' cs pm ctv cvs, v = .ref f ∧ Z.fn k = some S ∧ LamAt M S f c' cs pm ctv cvs ∧ AtL Z M cvs ds := by
  cases h with
  | fn h1 h2 h3 h4 h5 h6 l k => exact ⟨_, _, _, _, _, _, _, rfl, h1, ⟨h2, h3, h4.1, h5, h4.2, h6⟩, l, k⟩
theorem LamAt.at {S : FnS} {f c' : Addr} {cs : List Addr} {pm ctv : Value} {cvs : List V} {k : Nat} {ds : List D} (h : LamAt M S f c' cs pm ctv cvs) (e : Z.fn k = some S) (a : AtL Z M cvs ds) : At Z M (.ref f) (.fn k ds) :=
  .fn e h.f h.c ⟨h.lc, h.nd⟩ h.lv h.at' a.len a.at'
variable {ts : TA} {Ψ : S → List S → Prop}
end
end GL
set_option Elab.async false
set_option linter.all false
set_option maxRecDepth 100000
set_option maxHeartbeats 4000000
/-! L3kd: a def that makes lambdas: its statements, with what is known of its tables of code objects. -/
namespace GL
open PySem PySem.Spec PyProof.Rows L2 G
open LamX (Tabs TabS TabB ExtN CodeO)
section
variable {Z : Wd} {M M' H H' : Hp} {B : Bas} {W : List (Nat × Addr)} {σ σ' : L2.St} {δ δ' : List S} {T : List (Addr × Str)}
/-- the tables T as H tells them; M knows nothing of them -/
structure TbI (T : List (Addr × Str)) (M H : Hp) : Prop where
  tab : Tabs T H
  no : ∀ p ∈ T, M p.1 = none
/-- the base knows nothing of the tables -/
def NoB (T : List (Addr × Str)) (B : Bas) : Prop := ∀ p ∈ T, B.h p.1 = none
/-- tables and code objects -/
def Ft (H : Hp) (a : Addr) : Prop := (∃ ps, H a = some (.tbl ps)) ∨ ∃ q, H a = some (CodeO a q)
noncomputable def Rb (B : Bas) (M H : Hp) : Bas := by classical exact ⟨fun a => if Ft H a then H a else B.h a, fun a => if Ft H a then M a else B.m a⟩
theorem Rb.h_in {a : Addr} (f : Ft H a) : (Rb B M H).h a = H a := by unfold Rb; exact if_pos f
theorem Rb.h_out {a : Addr} (f : ¬ Ft H a) : (Rb B M H).h a = B.h a := by unfold Rb; exact if_neg f
theorem Rb.m_in {a : Addr} (f : Ft H a) : (Rb B M H).m a = M a := by unfold Rb; exact if_pos f
theorem Rb.m_out {a : Addr} (f : ¬ Ft H a) : (Rb B M H).m a = B.m a := by unfold Rb; exact if_neg f
theorem odat_tbl {ho : HO} {y : OD} (h : ODAt Z M ho y) : (∀ ps, ho ≠ .tbl ps) ∧ ∀ φ, ho ≠ .ext φ := by
  cases ho <;> cases y <;> first | exact h.elim | exact ⟨fun _ e => (nomatch e), fun _ e => (nomatch e)⟩
theorem own_kind (I : I3 Z B W M H σ δ) {i : Nat} {p : Addr} (h : Own σ δ i p) : ∃ ho, H p = some ho ∧ (∀ ps, ho ≠ .tbl ps) ∧ ∀ φ, ho ≠ .ext φ := by
  obtain ⟨p0, s, h1, h2, h3⟩ := h
  obtain ⟨o, e, k⟩ := I.sl i _ h2
  rw [h1] at e; cases e
  cases s with
  | no => exact h3.elim
  | d x => exact h3.elim
  | own y =>
    obtain ⟨q, ho, e2, e3, e4, e5⟩ := k
    cases e2; cases h3
    exact ⟨ho, e3, odat_tbl e4⟩
  | deal q cs n =>
    obtain ⟨p1, e2, e3, e4, e5, e6, _⟩ := k
    cases e2
    rcases h3 with rfl | rfl
    · exact ⟨_, e3, fun _ e => (nomatch e), fun _ e => (nomatch e)⟩
    · exact ⟨_, e4, fun _ e => (nomatch e), fun _ e => (nomatch e)⟩
theorem own_ft (I : I3 Z B W M H σ δ) {i : Nat} {p : Addr} (h : Own σ δ i p) : ¬ Ft H p := by
  obtain ⟨ho, e, n1, n2⟩ := own_kind I h
  rintro (⟨ps, f⟩ | ⟨q, f⟩)
  · rw [e] at f; cases f; exact n1 _ rfl
  · rw [e] at f; cases f; exact n2 _ rfl
theorem rb_in (I : I3 Z B W M H σ δ) : I3 Z (Rb B M H) W M H σ δ := by
  refine ⟨I.ex, fun a o e n t => ?_, fun a o e n => ?_, I.len, I.sl, I.bor, fun i p o => ?_, I.dis⟩
  · by_cases f : Ft H a
    · rw [Rb.m_in f] at n; exact n
    · rw [Rb.h_out f] at e; rw [Rb.m_out f] at n
      exact I.mg a o e n t
  · by_cases f : Ft H a
    · rw [Rb.h_in f] at e; exact e
    · rw [Rb.h_out f] at e
      exact I.keep a o e n
  · rw [Rb.h_out (own_ft I o)]
    exact I.own i p o
theorem rb_none {p : Addr} (I : I3 Z B W M H σ δ) (h : (Rb B M H).h p = none) : B.h p = none := by
  by_cases f : Ft H p
  · rw [Rb.h_in f] at h
    rcases f with ⟨ps, f⟩ | ⟨q, f⟩ <;> rw [h] at f <;> cases f
  · rw [Rb.h_out f] at h; exact h
theorem rb_out (I : I3 Z B W M H σ δ) (J : I3 Z (Rb B M H) W M' H' σ' δ') : I3 Z B W M' H' σ' δ' := by
  refine ⟨J.ex, fun a o e n t => ?_, fun a o e n => ?_, J.len, J.sl, J.bor, fun i p o => ?_, J.dis⟩
  · by_cases f : Ft H a
    · have m0 := I.mg a o e n t
      cases q : H a with
      | none => rw [I.fresh q] at e; cases e
      | some u => exact J.mg a u (by rw [Rb.h_in f]; exact q) (by rw [Rb.m_in f]; exact m0) (I.nt e t q)
    · exact J.mg a o (by rw [Rb.h_out f]; exact e) (by rw [Rb.m_out f]; exact n) t
  · by_cases f : Ft H a
    · exact J.keep a o (by rw [Rb.h_in f]; exact I.keep a o e n) n
    · exact J.keep a o (by rw [Rb.h_out f]; exact e) n
  · exact (J.own i p o).imp id (rb_none I)
theorem rb_tab (I : I3 Z B W M H σ δ) (t : TbI T M H) (J : I3 Z (Rb B M H) W M' H' σ' δ') : TbI T M' H' := by
  have nw : ∀ a, Ft H a → ∀ i, (i, a) ∉ W := fun a f i w => own_ft I (I.bor i a w) f
  have kp : ∀ a o, Ft H a → H a = some o → H' a = some o := fun a o f e => J.keep a o (by rw [Rb.h_in f]; exact e) (nw a f)
  refine ⟨fun p hp => ?_, fun p hp => ?_⟩
  · obtain ⟨ps, h1, h2, h3⟩ := t.tab p hp
    refine ⟨ps, kp _ _ (.inl ⟨ps, h1⟩) h1, h2, fun pos cv hc => ?_⟩
    obtain ⟨c, e1, e2⟩ := h3 pos cv hc
    exact ⟨c, e1, kp _ _ (.inr ⟨_, e2⟩) e2⟩
  · obtain ⟨ps, h1, _, _⟩ := t.tab p hp
    have f : Ft H p.1 := .inl ⟨ps, h1⟩
    exact J.mg p.1 (.tbl ps) (by rw [Rb.h_in f]; exact h1) (by rw [Rb.m_in f]; exact t.no p hp) fun vs e => nomatch e
theorem rb_ret {v : V} {s : S} (I : I3 Z B W M H σ δ) (r : RetOk Z (Rb B M H) M' H' v s) : RetOk Z B M' H' v s := by
  cases s with
  | no => exact r
  | d x => exact r
  | own y => obtain ⟨p, ho, a, b, c, d, e⟩ := r; exact ⟨p, ho, a, b, c, d, rb_none I e⟩
  | deal q cs n => obtain ⟨p, a, b, c⟩ := r; exact ⟨p, a, b, fun x hx => rb_none I (c x hx)⟩
/-! ### judgements that know the tables -/
def XRT (T : List (Addr × Str)) (Z : Wd) (te : TE) (δ : List S) (Φ : S → List S → Prop) : Prop :=
  ∀ B W M H σ (Q : VK), NoB T B → TbI T M H → I3 Z B W M H σ δ → (∀ M' H' δ' v s, Φ s δ' → Ex M M' → I3 Z B W M' H' σ δ' → TbI T M' H' → ResOk Z B M' H' σ δ' v s → Q v H') → te σ H Q
structure EndsT (T : List (Addr × Str)) (Z : Wd) (B : Bas) (W : List (Nat × Addr)) (M : Hp) (P : Po) (E : Ends) : Prop where
  nx : ∀ M' H' σ' δ', P.N δ' → Ex M M' → I3 Z B W M' H' σ' δ' → TbI T M' H' → E.nx σ' H'
  rt : ∀ M' H' σ' δ' v s, P.R s δ' → Ex M M' → I3 Z B W M' H' σ' δ' → TbI T M' H' → RetOk Z B M' H' v s → E.rt v H'
  bk : ∀ M' H' σ' δ', P.B δ' → Ex M M' → I3 Z B W M' H' σ' δ' → TbI T M' H' → E.bk σ' H'
  ct : ∀ M' H' σ' δ', P.C δ' → Ex M M' → I3 Z B W M' H' σ' δ' → TbI T M' H' → E.ct σ' H'
theorem EndsT.mono {P : Po} {E : Ends} (e : Ex M M') (h : EndsT T Z B W M P E) : EndsT T Z B W M' P E :=
  ⟨fun _ _ _ _ p x => h.nx _ _ _ _ p (e.tr x), fun _ _ _ _ _ _ p x => h.rt _ _ _ _ _ _ p (e.tr x), fun _ _ _ _ p x => h.bk _ _ _ _ p (e.tr x), fun _ _ _ _ p x => h.ct _ _ _ _ p (e.tr x)⟩
/-- no wish of errors -/
def NoErr (P : Po) : Prop := ∀ B W M, P.X B W M
def XST (T : List (Addr × Str)) (Z : Wd) (bs : List Nat) (ts : TS) (δ : List S) (P : Po) : Prop :=
  ∀ B W M H σ E, W.map (·.1) = bs → NoB T B → TbI T M H → I3 Z B W M H σ δ → EndsT T Z B W M P E → ts E σ H
variable {bs vs : List Nat} {P : Po} {ts s1 s2 : TS} {te : TE}
theorem XS.toT (hx : NoErr P) (h : XS Z bs ts δ P) : XST T Z bs ts δ P := fun B W M H σ E hb _ t I e =>
  h (Rb B M H) W M H σ E hb (rb_in I) ⟨fun M' H' σ' δ' p x J => e.nx M' H' σ' δ' p x (rb_out I J) (rb_tab I t J), fun M' H' σ' δ' v s p x J r => e.rt M' H' σ' δ' v s p x (rb_out I J) (rb_tab I t J) (rb_ret I r),
    fun M' H' σ' δ' p x J => e.bk M' H' σ' δ' p x (rb_out I J) (rb_tab I t J), fun M' H' σ' δ' p x J => e.ct M' H' σ' δ' p x (rb_out I J) (rb_tab I t J), fun M' _ => hx _ _ _⟩
theorem xst_seq (h : XST T Z bs s1 δ { P with N := fun δ' => XST T Z bs s2 δ' P }) : XST T Z bs (tSeq s1 s2) δ P := fun B W M H σ E hb nb t I e =>
  h B W M H σ _ hb nb t I ⟨fun M' H' σ' δ' p x I' t' => p B W M' H' σ' E hb nb t' I' (e.mono x), e.rt, e.bk, e.ct⟩
/-- a first statement without lambdas -/
theorem xst_s (hx : NoErr P) (h : XS Z bs s1 δ { P with N := fun δ' => XST T Z bs s2 δ' P }) : XST T Z bs (tSeq s1 s2) δ P := xst_seq (XS.toT hx h)
theorem xst_next (k : P.N δ) : XST T Z bs tNext δ P := fun B W M H σ E hb nb t I e => e.nx M H σ δ k Ex.rfl' I t
theorem xst_set {i : Nat} (hi : i ∉ bs) (h : XRT T Z te δ (onD fun d δ' => P.N (δ'.set i (.d d)))) : XST T Z bs (tAsg te (gName i)) δ P := fun B W M H σ E hb nb t I e =>
  h B W M H σ _ nb t I fun M1 H1 δ1 x s f e1 I1 t1 r => by
    cases s with
    | d d => exact e.nx _ _ _ _ f e1 (I1.put (not_bor hb hi) (hol_d _) (slotD r)) t1
    | _ => exact False.elim f
theorem xst_for {g : TG} {tb : TS} {wi : TI} (hx : NoErr P) (h : XI Z wi δ fun xs δ0 => ∃ J : Nat → List S → Prop, J 0 δ0 ∧
      (∀ i d δ1, xs[i]? = some d → J i δ1 → XG Z vs bs g d δ1 fun δ2 => XST T Z bs tb δ2 { N := J (i + 1), R := P.R, B := P.N, C := J (i + 1) }) ∧ ∀ δ1, J xs.length δ1 → P.N δ1) : XST T Z bs (tFor wi g tb) δ P := fun B W M H σ E hb nb t I e =>
  h (Rb B M H) W M H σ _ (rb_in I) fun M' H' δ' J xs f e1 J1 wd => by
    have I1 := rb_out I J1
    have t1 := rb_tab I t J1
    obtain ⟨Jv, j0, js, jn⟩ := f
    refine for_it wd.walk (fun i σ H => ∃ M'' δ'', Ex M' M'' ∧ I3 Z B W M'' H σ δ'' ∧ TbI T M'' H ∧ Jv i δ'') ⟨M', δ', Ex.rfl', I1, t1, j0⟩ (fun i σ H _ ⟨M'', _, a, b, _⟩ => a.tr b.ex) (fun i x σ1 H1 H2 hi ⟨M'', δ'', a, b, tt, c⟩ y => ?_) (fun σ1 H1 ⟨M'', δ'', a, b, tt, c⟩ => e.nx _ _ _ _ (jn _ c) (e1.tr a) b tt)
    obtain ⟨d, M2, hd, e2, I2, at2, _⟩ := y.use a (rb_in b)
    have I2' := rb_out b I2
    have t2 := rb_tab b tt I2
    refine js i d δ'' hd c (Rb B M2 H2) W M2 H2 σ1 x _ hb (rb_in I2') at2 fun M3 H3 σ3 δ3 h3 e3 I3' _ _ => ?_
    have I3'' := rb_out I2' I3'
    have t3 := rb_tab I2' t2 I3'
    have e4 : Ex M M3 := e1.tr (a.tr (e2.tr e3))
    refine h3 B W M3 H3 σ3 _ hb nb t3 I3'' ⟨fun M4 H4 σ4 δ4 p q I4 t4 => ⟨M4, δ4, a.tr (e2.tr (e3.tr q)), I4, t4, p⟩, fun _ _ _ _ _ _ p q => e.rt _ _ _ _ _ _ p (e4.tr q), fun _ _ _ _ p q => e.nx _ _ _ _ p (e4.tr q), fun M4 H4 σ4 δ4 p q I4 t4 => ⟨M4, δ4, a.tr (e2.tr (e3.tr q)), I4, t4, p⟩⟩
end
end GL
set_option Elab.async false
set_option linter.all false
set_option maxRecDepth 100000
set_option maxHeartbeats 4000000
/-! L3ke: a lambda is made and handed to a def; a def that makes lambdas, from its entry. -/
namespace GL
open PySem PySem.Spec PyProof.Rows L2 G
open LamX (Tabs TabS TabB ExtN CodeO)
section
variable {Z : Wd} {M M' H H' : Hp} {B : Bas} {W : List (Nat × Addr)} {σ σ' : L2.St} {δ δ' : List S} {T : List (Addr × Str)}
/-- the values at some slots, as data -/
theorem slots_at (I : I3 Z B W M H σ δ) : ∀ (js : List Nat) (cds : List D), cds.length = js.length → (∀ (i j : Nat), js[i]? = some j → ∃ d, δ[j]? = some (.d d) ∧ cds[i]? = some d) →
    ∃ cvs, cvs.length = js.length ∧ (∀ (i j : Nat), js[i]? = some j → ∃ v, σ[j]? = some (some v) ∧ cvs[i]? = some v) ∧ AtL Z M cvs cds
  | [], cds, l, _ => ⟨[], rfl, fun i j h => by simp at h, by rw [List.length_eq_zero_iff.mp l]; exact .nil⟩
  | j :: js, [], l, _ => by simp at l
  | j :: js, d :: cds, l, h => by
    obtain ⟨d0, h1, h2⟩ := h 0 j rfl
    cases h2
    obtain ⟨o, e, v, rfl, a⟩ := I.sl j _ h1
    obtain ⟨cvs, l2, h3, al⟩ := slots_at I js cds (by simpa using l) fun i k hk => h (i + 1) k (by simpa using hk)
    exact ⟨v :: cvs, by simp [l2], fun i k hk => by
      cases i with
      | zero => cases hk; exact ⟨v, e, rfl⟩
      | succ i => exact h3 i k (by simpa using hk), .cons a al⟩
variable {te : TE} {Ψ : S → List S → Prop}
/-- no lambda and no error comes back -/
def noXS : S → Bool
  | .d x => noX x
  | _ => false
/-! ### the law's own promise -/
/-- a def that makes lambdas and answers True (the law) -/
def spLawT (Z : Wd) (T : List (Addr × Str)) : Sp := fun vs H Q _ => ∃ (p : Addr) (ns : List Int), vs = [.ref p] ∧ SqL Z.K H p (ns.map V.int) ∧ ns.length ≤ 63 ∧ Tabs T H ∧ (∀ w ∈ T, w.1 ≠ p) ∧ ∀ H', Q (.bl true) H'
theorem entT {ts : TS} {N : List Str} {p : Addr} {ns : List Int} {Q : VK} {n : Nat} (sq : SqL Z.K H p (ns.map V.int)) (tb : Tabs T H) (ne : ∀ w ∈ T, w.1 ≠ p) (hn : N.length = 1 + n) (fin : ∀ H', Q (.bl true) H')
    (hx : XST T Z [] ts (.d (.scr ns) :: List.replicate n .no) { N := fun _ => False, R := fun s _ => s = .d (.bl true) }) : ts { nx := fun _ H' => Q .non H', rt := Q } (L2.start N [.ref p]) H := by
  classical
  let M : Hp := fun b => if b = p then H b else none
  have hM : ∀ b u, M b = some u → H b = some u := fun b u e => by
    by_cases c : b = p
    · have e' : (if b = p then H b else none) = some u := e
      rw [if_pos c] at e'; exact e'
    · have e' : (if b = p then H b else none) = some u := e
      rw [if_neg c] at e'; cases e'
  have hsq : SqL Z.K M p (ns.map V.int) := by
    rcases sq with (z | ⟨o, z⟩) | z
    · exact .inl (.inl ((if_pos rfl).trans z))
    · exact .inl (.inr ⟨o, (if_pos rfl).trans z⟩)
    · exact .inr z
  let B : Bas := ⟨fun b => if b ∈ T.map (·.1) then none else H b, M⟩
  have hB : ∀ b u, B.h b = some u → H b = some u ∧ b ∉ T.map (·.1) := fun b u e => by
    by_cases c : b ∈ T.map (·.1)
    · have e' : (if b ∈ T.map (·.1) then none else H b) = some u := e
      rw [if_pos c] at e'; cases e'
    · have e' : (if b ∈ T.map (·.1) then none else H b) = some u := e
      rw [if_neg c] at e'; exact ⟨e', c⟩
  have noOwn : ∀ i q, ¬ Own (L2.start N [.ref p]) (S.d (.scr ns) :: List.replicate n S.no) i q := fun i q ⟨r, s, _, e, c⟩ => by
    cases i with
    | zero => cases e; exact c
    | succ i =>
      rw [List.getElem?_cons_succ, List.getElem?_replicate] at e
      split at e
      · cases e; exact c
      · cases e
  have I : I3 Z B [] M H (L2.start N [.ref p]) (S.d (.scr ns) :: List.replicate n S.no) := by
    refine ⟨hM, fun a o e m _ => m, fun a o e _ => (hB a o e).1, ?_, fun i s e => ?_, fun i q w => by simp at w, fun i q o => absurd o (noOwn i q), fun i j q o => absurd o (noOwn i q)⟩
    · unfold L2.start; simp; omega
    · cases i with
      | zero => cases e; exact ⟨some (.ref p), rfl, _, rfl, .scr hsq⟩
      | succ i =>
        rw [List.getElem?_cons_succ, List.getElem?_replicate] at e
        split at e
        · rename_i hi
          cases e
          refine ⟨none, ?_, trivial⟩
          unfold L2.start
          rw [List.getElem?_append_right (by simp), List.getElem?_replicate, if_pos (by simp; omega)]
        · cases e
  refine hx B [] M H _ _ rfl (fun w hw => if_pos (List.mem_map_of_mem hw)) ⟨tb, fun w hw => if_neg (ne w hw)⟩ I ⟨fun _ _ _ _ f => f.elim, fun M' H' σ' δ' v s f e J _ r => ?_, fun _ _ _ _ f => f.elim, fun _ _ _ _ f => f.elim⟩
  subst f
  cases r
  exact fin H'
end
end GL
set_option Elab.async false
set_option linter.all false
set_option maxRecDepth 100000
set_option maxHeartbeats 4000000
/-! L3kf: where a lambda stands in the text; a def whose code object is known; the end of a law with tables. -/
namespace GL
open PySem PySem.Spec PyProof.Rows L2 G
open LamX (Tabs TabS TabB ExtN CodeO)
def noE : Expr := .Constant .none 0 ⟨0, 0, 0, 0⟩
def sSub : Stmt → List Stmt
  | .For _ _ b _ _ => b
  | .If _ b _ _ => b
  | .While _ b _ _ => b
  | .Try b _ _ _ _ => b
  | _ => []
def sAt (l : List Stmt) (i : Nat) : Stmt := l.getD i (.Pass ⟨0, 0, 0, 0⟩)
def sVal : Stmt → Expr
  | .Assign _ v _ => v
  | .Return (some v) _ => v
  | .If c _ _ _ => c
  | .Expr v _ => v
  | _ => noE
def eArg : Expr → Nat → Expr
  | .Call _ a _ _, i => a.getD i noE
  | .BoolOp _ a _, i => a.getD i noE
  | .List a _, i => a.getD i noE
  | _, _ => noE
def eLeft : Expr → Expr
  | .Compare a _ _ _ => a
  | .Subscript a _ _ => a
  | .UnaryOp _ a _ => a
  | .BinOp a _ _ _ => a
  | _ => noE
def eRight : Expr → Expr
  | .BinOp _ _ b _ => b
  | _ => noE
def noA : Arguments := { posonlyargs := [], args := [], vararg := none, kwonlyargs := [], kw_defaults := [], kwarg := none, defaults := [] }
def lamA : Expr → Arguments
  | .Lambda a _ _ _ => a
  | _ => noA
def lamB : Expr → Expr
  | .Lambda _ b _ _ => b
  | _ => noE
def lamC : Expr → Scope
  | .Lambda _ _ s _ => s
  | _ => { kind := .function, names := [], isGenerator := false, isCoroutine := false }
theorem slots_by {N cap : List Str} {js : List Nat} (h : ((cap.zip js).all fun p => decide (N[p.2]? = some p.1)) = true) : ∀ (i : Nat) n j, cap[i]? = some n → js[i]? = some j → N[j]? = some n := fun i n j h1 h2 => by
  rw [List.all_eq_true] at h
  have : (cap.zip js)[i]? = some (n, j) := by rw [List.getElem?_zip_eq_some]; exact ⟨h1, h2⟩
  exact of_decide_eq_true (h _ (List.mem_of_getElem? this))
theorem cells_by {cap : List Str} {sc : Scope} (h : (cap.all fun n => decide (sc.names.lookup n = some .cell)) = true) : ∀ n ∈ cap, sc.names.lookup n = some .cell := fun n hn => of_decide_eq_true (List.all_eq_true.mp h n hn)
/-- a def whose code object is known -/
theorem fun_okC {P : Program} {w : World} {K : PySem.W.Frag} {mg : Str → Option Value} {base : Heap} {x qual : Str} {st : Stmt} {f cA : Addr} {fd : FuncData} {N ps : List Str} {k : Nat} {sp : Sp} (F : L2.Fun K x qual st f fd) (hc : fd.code = .ref cA) (S : FnScope N ps (defScope st)) (len : ∀ vs H Q E, sp vs H Q E → vs.length = ps.length)
    (hbody : ∀ (A : Around) (outer : List Env) (s : Shared) (H : Hp) (vs : List V) (Q : VK) (E : XK), Room k (A.deeper (envOfC qual (defScope st) s.heap.objs.size f (.ref cA))) → sp vs H Q E →
      ∃ t, PSs (cxOf L2.CX0 P w K mg base N qual (defScope st) f (.ref cA) A outer s H E).nox (defBody st) t ∧ t { nx := fun _ H' => Q .non H', rt := Q } (L2.start N vs) H) : FnOk P w K mg base L2.CX0 (k + 1) f fd ps sp := by
  obtain ⟨oc, od, kV, doc, pm, an, cdv, ct, osl, rfl, lk, hcd⟩ := F.ex
  have e : cdv = .ref cA := hc
  subst e
  refine fn_of lk hcd S len fun A outer s H vs Q E hr hsp => ?_
  obtain ⟨t, h, q⟩ := hbody A outer s H vs Q E hr hsp
  exact ⟨t, h.nox, q⟩
/-- the end of a law that makes lambdas: cs, its code objects and their tables, with the lambdas' names -/
theorem walkT {l : PySem.W.OpenLaw} {k : Nat} {q : Program} {loose : List Str} {XP : (Str → Option Value) → Heap → Prop} {YP : World → Heap → Prop} {d : DefRec} {K : Params → PySem.W.Frag} (hn : l.most = some 63) (hdf : d.params.defaults = []) (hr : Room k callerA)
    (hY : ∀ (w : World) (h : Heap), YP w h → (K w.params).In h)
    (F : ∀ (w : World) (mg : Str → Option Value) (fa : Addr) (h : Heap), YP w h → (K w.params).In h → h.Ns mainGlobals mg → mg d.name = some (.ref fa) →
      ∃ (fd : FuncData) (Z : Wd) (cs : List (Addr × Addr)) (qs : List Str), Z.K = K w.params ∧ cs.length = qs.length ∧ (∀ p ∈ cs, h.get? p.2 = some { cls := .none, data := .fields #[] }) ∧ (∀ p ∈ cs, (K w.params).lookup p.2 = none) ∧ (∀ p ∈ cs, PySem.W.codeHdIn (K w.params) p.1 p.2 = true) ∧
        (∀ (s : Shared) (u : Value), BindsTo s fd ⟨[u], []⟩ [("_law_script", u)]) ∧
        ∀ base : Heap, (K w.params).In base → base.Ns mainGlobals mg → (∀ p ∈ cs, TabB base mg p.1 p.2) → FnOk l.prog w (K w.params) mg base L2.CX0 k fa fd ["_law_script"] (spLawT Z ((cs.map (·.2)).zip qs))) :
    PySem.W.WalkO q loose XP YP l.row.toRowW d [] (fun f vs => PySem.call f vs) := by
  refine LamX.walk_ofTs (n := 63) (k := k) (K := K) (CX := fun _ => L2.CX0) (x := "_law_script") hn (by decide) hdf hr hY (fun w mg fa h Y KX G hmg => ?_) fun _ _ _ _ _ z => z
  obtain ⟨fd, Z, cs, qs, hZ, hl, h1, h2, h3, hb, hF⟩ := F w mg fa h Y KX G hmg
  refine ⟨fd, cs, spLawT Z ((cs.map (·.2)).zip qs), h1, h2, fun p hp => PySem.W.codeHd_of_K KX (h3 p hp), hb, fun H p ns hl _ hH hS => ⟨p, ns, rfl, hZ ▸ hS, hl, fun w hw => ?_, fun w hw e => ?_, fun _ => rfl⟩, hF⟩
  · have := List.of_mem_zip hw
    obtain ⟨c, hc, e⟩ := List.mem_map.mp this.1
    refine LamX.TabS.nil ?_
    rw [← e]; exact hH c hc
  · have := List.of_mem_zip hw
    obtain ⟨c, hc, e2⟩ := List.mem_map.mp this.1
    have ht := hH c hc
    rw [e2, e] at ht
    rcases hS with (z | ⟨o, z⟩) | ⟨o, its, n, z, _⟩
    · rw [ht] at z; cases z
    · rw [ht] at z; cases z
    · have := h2 c hc
      rw [e2, e, z] at this; cases this
end GL
set_option Elab.async false
set_option linter.all false
set_option maxRecDepth 100000
set_option maxHeartbeats 4000000
/-! L3kg: with e as x: .. of an own context manager; a lambda whose first argument is borrowed. -/
namespace GL
open PySem PySem.Spec PyProof.Rows L2 G
/-- with e as x: body (an instance of C; sp1: __enter__, sp2: __exit__; the body goes on or returns, raises nothing) -/
def tWith (C : Addr) (sp1 sp2 : Sp) (i : Nat) (tc : TE) (tb : TS) : TS := fun D σ H => tc σ H fun v H1 => ∃ x dx fs, v = .ref x ∧ H1 x = some (.ins C dx fs) ∧
  sp1 [.ref x] H1 (fun u H2 => tb { nx := fun σ' H' => sp2 [.ref x, .non, .non, .non] H' (fun _ H'' => D.nx σ' H'') L2.E0, rt := fun w H' => sp2 [.ref x, .non, .non, .non] H' (fun _ H'' => D.rt w H'') L2.E0, bk := fun _ _ => False, ct := fun _ _ => False } (σ.set i (some u)) H2) L2.E0
section
variable {X : Cx} {C fe fx : Addr} {k1 k2 : Nat} {fd1 fd2 : FuncData} {ps1 ps2 : List Str} {sp1 sp2 : Sp} {i : Nat} {ctx : Expr} {y : Str} {py pos : Pos} {body : List Stmt} {tc : TE} {tb : TS}
theorem ps_with (hc : PE X ctx tc) (he : Meth X.K C "__enter__" fe) (hx : Meth X.K C "__exit__" fx) (F1 : FnOk X.prog X.w X.K X.mg X.base L2.CX0 k1 fe fd1 ps1 sp1) (F2 : FnOk X.prog X.w X.K X.mg X.base L2.CX0 k2 fx fd2 ps2 sp2) (hr1 : Room k1 X.A) (hr2 : Room k2 X.A)
    (hb1 : L2.Binds X.K fd1 ps1 []) (hb2 : L2.Binds X.K fd2 ps2 []) (hN : X.N.Nodup) (hi : X.N[i]? = some y) (hl : Loc X.env.scope y) (hf : X.fn y = true ∨ X.env.scope.names.lookup y = some .local) (hb : PSs X.nox body tb) :
    PS X (.With [⟨ctx, some (.Name y py)⟩] body pos) (tWith C sp1 sp2 i tc tb) := by
  refine ⟨fun pins s σ H D I h => ?_⟩
  refine PySem.W.kw_execN (thn (hc.run pins s σ H _ I h) fun u s1 ⟨v, H1, I1, rv, q⟩ => ?_)
  obtain ⟨x, dx, fs, ev, hx1, q⟩ := q
  subst ev
  obtain rfl : u = Value.ref x := rv
  obtain ⟨mA, O, _, _, _, _⟩ := ins_get I1.hok hx1
  obtain ⟨od, J, _⟩ := O.look
  unfold PySem.W.KwIn
  have out : ∀ {σ' : L2.St} {H' : Hp} {s4 : Shared} {f : Flow} {R : Hp → Prop}, Inv X pins σ' H' s4 → sp2 [.ref x, .non, .non, .non] H' (fun _ H'' => R H'') L2.E0 → (∀ H'' s5, Inv X pins σ' H'' s5 → R H'' → SP X pins D f s5) →
      wpAny (model X.prog X.w) X.A (call (.ref fx) [.ref x, .none, .none, .none]) (fun _ s5 => SP X pins D f s5) X.xe s4 := fun {σ' H' s4 f R} I4 h4 fin =>
    wpAny_mono (run_fn (us := [.ref x, .none, .none, .none]) (vs := [.ref x, .non, .non, .non]) F2 hr2 hb2 (.nil) pass0 I4 (.cons rfl (.cons rfl (.cons rfl (.cons rfl .nil)))) h4) (fun _ s5 ⟨_, H'', I5, _, r⟩ => fin H'' s5 I5 r) fun _ _ z => z
  refine PySem.W.kw_core (K := X.K) (fe := fe) (fx := fx) (b := assign (.Name y py) X.env) I1.kIn J he.at_ he.fn hx.at_ hx.fn ?_
  refine wpAny_mono (run_fn (us := [.ref x]) (vs := [.ref x]) F1 hr1 hb1 (.nil) pass0 I1 (.cons rfl .nil) q) (fun u2 s2 ⟨v2, H2, I2, r2, q2⟩ => ?_) fun _ _ z => z
  refine wpAny_assign_Name (wpAny_mono (store_ok (M := model X.prog X.w) (A := X.A) (E := fun _ _ => False) (Q := fun _ s3 => L2.Inv X pins (σ.set i (some v2)) H2 s3) I2 hN hi hl r2 (fun s3 I3 => I3) hf) (fun _ s3 I3 => ?_) fun _ _ z => z)
  refine wpAny_mono (hb.run pins s3 _ H2 _ (I3.wish _) q2) (fun f s4 q4 => ?_) fun _ _ z => z
  have q4 := q4.unwish
  cases f with
  | next =>
    obtain ⟨σ', H', I4, h4⟩ := q4
    exact out I4 h4 fun H'' s5 I5 r => ⟨σ', H'', I5, r⟩
  | ret w =>
    obtain ⟨v', σ', H', I4, rw', h4⟩ := q4
    exact out I4 h4 fun H'' s5 I5 r => ⟨v', σ', H'', I5, rw', r⟩
  | brk => obtain ⟨_, _, _, z⟩ := q4; exact z.elim
  | cont => obtain ⟨_, _, _, z⟩ := q4; exact z.elim
end
end GL
set_option Elab.async false
set_option linter.all false
set_option maxRecDepth 100000
set_option maxHeartbeats 4000000
/-! L3kh: Trial and within: what the block did to the object is taken back; lambdas that borrow their first argument; a method that gets a lambda. -/
namespace GL
open PySem PySem.Spec PyProof.Rows L2 G
open LamX (Tabs TabS TabB ExtN CodeO)
/-! ### the steps of a trial -/
section
variable {K : PySem.W.Frag} {CT CL : Addr} {σ : L2.St} {H : Hp} {x dx p dp : Addr} {fx fs : List (Str × V)} {f : Str} {v : V} {D : Ends}
theorem led_get {Q : VK} (h0 : σ[0]? = some (some (.ref x))) (hx : H x = some (.ins CT dx fx)) (cT : Cls K CT) (nl : NoAttr K CT "led") (hl : fx.lookup ("led" : Str) = some (V.ref p)) (hp : H p = some (.ins CL dp fs)) (cL : Cls K CL) (nf : NoAttr K CL f) (hf : fs.lookup f = some v) (q : Q v H) :
    tFld K (tFld K (tVar 0) "led") f σ H Q := ⟨_, h0, x, CT, dx, fx, .ref p, rfl, hx, cT, nl, hl, p, CL, dp, fs, v, rfl, hp, cL, nf, hf, q⟩
theorem enter_step (h0 : σ[0]? = some (some (.ref x))) (hx : H x = some (.ins CT dx fx)) (cT : Cls K CT) (nl : NoAttr K CT "led") (hl : fx.lookup ("led" : Str) = some (V.ref p)) (hp : H p = some (.ins CL dp fs)) (cL : Cls K CL) (nf : NoAttr K CL f) (nt : NoAttr K CT f) (hf : fs.lookup f = some v) (len : fx.length < 1000)
    (q : D.nx σ (upd H x (.ins CT dx (putF f v fx)))) : sFld K (tVar 0) (tFld K (tFld K (tVar 0) "led") f) f D σ H :=
  led_get h0 hx cT nl hl hp cL nf hf ⟨_, h0, x, CT, dx, fx, rfl, hx, cT, nt, len, q⟩
theorem exit_step (h0 : σ[0]? = some (some (.ref x))) (hx : H x = some (.ins CT dx fx)) (cT : Cls K CT) (nl : NoAttr K CT "led") (hl : fx.lookup ("led" : Str) = some (V.ref p)) (hp : H p = some (.ins CL dp fs)) (cL : Cls K CL) (nf : NoAttr K CL f) (nt : NoAttr K CT f) (hf : fx.lookup f = some v) (len : fs.length < 1000)
    (q : D.nx σ (upd H p (.ins CL dp (putF f v fs)))) : sFld K (tFld K (tVar 0) "led") (tFld K (tVar 0) f) f D σ H :=
  ⟨_, h0, x, CT, dx, fx, v, rfl, hx, cT, nt, hf, _, h0, x, CT, dx, fx, .ref p, rfl, hx, cT, nl, hl, p, CL, dp, fs, rfl, hp, cL, nf, len, q⟩
end
/-- a trial's own fields, once it is entered -/
def trF (p : Addr) (a1 a2 a3 a4 a5 a6 : V) : List (Str × V) := [("led", .ref p), ("room", a1), ("counts", a2), ("gone", a3), ("may", a4), ("left", a5), ("deeds", a6)]
/-- a led room's fields -/
def leF (a1 a2 a3 a4 a5 a6 : V) : List (Str × V) := [("deeds", a6), ("room", a1), ("counts", a2), ("gone", a3), ("may", a4), ("left", a5)]
def spTinit (CT : Addr) : Sp := fun vs H Q _ => ∃ x dx p, vs = [.ref x, .ref p] ∧ H x = some (.ins CT dx []) ∧ Q .non (upd H x (.ins CT dx [("led", .ref p)]))
def spTrial (CT : Addr) : Sp := fun vs H Q _ => ∃ p, vs = [.ref p] ∧ ∀ x dx, H x = none → H dx = none → dx ≠ x → Q (.ref x) (upd (upd H dx (.own x)) x (.ins CT dx [("led", .ref p)]))
def spEnter (CT CL : Addr) : Sp := fun vs H Q _ => ∃ x dx p dp a1 a2 a3 a4 a5 a6, vs = [.ref x] ∧ x ≠ p ∧ H x = some (.ins CT dx [("led", .ref p)]) ∧ H p = some (.ins CL dp (leF a1 a2 a3 a4 a5 a6)) ∧ Q (.ref p) (upd H x (.ins CT dx (trF p a1 a2 a3 a4 a5 a6)))
def spExit (CT CL : Addr) : Sp := fun vs H Q _ => ∃ x dx p dp a1 a2 a3 a4 a5 a6 b1 b2 b3 b4 b5 b6, vs = [.ref x, .non, .non, .non] ∧ x ≠ p ∧ H x = some (.ins CT dx (trF p a1 a2 a3 a4 a5 a6)) ∧ H p = some (.ins CL dp (leF b1 b2 b3 b4 b5 b6)) ∧ Q .non (upd H p (.ins CL dp (leF a1 a2 a3 a4 a5 a6)))
/-- none of these is a class's own -/
def NoAttrs (K : PySem.W.Frag) (C : Addr) (l : List Str) : Prop := ∀ f ∈ l, NoAttr K C f
theorem enter_run {K : PySem.W.Frag} {CT CL : Addr} (cT : Cls K CT) (cL : Cls K CL) (nT : NoAttrs K CT ["led", "room", "counts", "gone", "may", "left", "deeds"]) (nL : NoAttrs K CL ["room", "counts", "gone", "may", "left", "deeds"])
    {σ : L2.St} {H : Hp} {x dx p dp : Addr} {a1 a2 a3 a4 a5 a6 : V} {D : Ends} (h0 : σ[0]? = some (some (.ref x))) (ne : x ≠ p) (hx : H x = some (.ins CT dx [("led", .ref p)])) (hp : H p = some (.ins CL dp (leF a1 a2 a3 a4 a5 a6))) (q : D.rt (.ref p) (upd H x (.ins CT dx (trF p a1 a2 a3 a4 a5 a6)))) :
    (tSeq (sFld K (tVar 0) (tFld K (tFld K (tVar 0) "led") "room") "room") <| tSeq (sFld K (tVar 0) (tFld K (tFld K (tVar 0) "led") "counts") "counts") <| tSeq (sFld K (tVar 0) (tFld K (tFld K (tVar 0) "led") "gone") "gone") <|
      tSeq (sFld K (tVar 0) (tFld K (tFld K (tVar 0) "led") "may") "may") <| tSeq (sFld K (tVar 0) (tFld K (tFld K (tVar 0) "led") "left") "left") <| tSeq (sFld K (tVar 0) (tFld K (tFld K (tVar 0) "led") "deeds") "deeds") <| tRet (tFld K (tVar 0) "led")) D σ H := by
  have pk : ∀ {H' : Hp} {o : HO}, upd H' x o p = H' p := fun {H' o} => upd_ne (Ne.symm ne)
  have nl := nT "led" (by simp)
  refine enter_step h0 hx cT nl rfl hp cL (nL "room" (by simp)) (nT "room" (by simp)) rfl (Nat.le_of_ble_eq_true rfl) ?_
  refine enter_step h0 upd_same cT nl rfl (pk.trans hp) cL (nL "counts" (by simp)) (nT "counts" (by simp)) rfl (Nat.le_of_ble_eq_true rfl) ?_
  rw [upd_upd]
  refine enter_step h0 upd_same cT nl rfl (pk.trans hp) cL (nL "gone" (by simp)) (nT "gone" (by simp)) rfl (Nat.le_of_ble_eq_true rfl) ?_
  rw [upd_upd]
  refine enter_step h0 upd_same cT nl rfl (pk.trans hp) cL (nL "may" (by simp)) (nT "may" (by simp)) rfl (Nat.le_of_ble_eq_true rfl) ?_
  rw [upd_upd]
  refine enter_step h0 upd_same cT nl rfl (pk.trans hp) cL (nL "left" (by simp)) (nT "left" (by simp)) rfl (Nat.le_of_ble_eq_true rfl) ?_
  rw [upd_upd]
  refine enter_step h0 upd_same cT nl rfl (pk.trans hp) cL (nL "deeds" (by simp)) (nT "deeds" (by simp)) rfl (Nat.le_of_ble_eq_true rfl) ?_
  rw [upd_upd]
  exact ⟨_, h0, x, CT, dx, trF p a1 a2 a3 a4 a5 a6, .ref p, rfl, upd_same, cT, nl, rfl, q⟩
theorem exit_run {K : PySem.W.Frag} {CT CL : Addr} (cT : Cls K CT) (cL : Cls K CL) (nT : NoAttrs K CT ["led", "room", "counts", "gone", "may", "left", "deeds"]) (nL : NoAttrs K CL ["room", "counts", "gone", "may", "left", "deeds"])
    {σ : L2.St} {H : Hp} {x dx p dp : Addr} {a1 a2 a3 a4 a5 a6 b1 b2 b3 b4 b5 b6 : V} {D : Ends} (h0 : σ[0]? = some (some (.ref x))) (ne : x ≠ p) (hx : H x = some (.ins CT dx (trF p a1 a2 a3 a4 a5 a6))) (hp : H p = some (.ins CL dp (leF b1 b2 b3 b4 b5 b6))) (q : D.nx σ (upd H p (.ins CL dp (leF a1 a2 a3 a4 a5 a6)))) :
    (tSeq (sFld K (tFld K (tVar 0) "led") (tFld K (tVar 0) "room") "room") <| tSeq (sFld K (tFld K (tVar 0) "led") (tFld K (tVar 0) "counts") "counts") <| tSeq (sFld K (tFld K (tVar 0) "led") (tFld K (tVar 0) "gone") "gone") <|
      tSeq (sFld K (tFld K (tVar 0) "led") (tFld K (tVar 0) "may") "may") <| tSeq (sFld K (tFld K (tVar 0) "led") (tFld K (tVar 0) "left") "left") <| sFld K (tFld K (tVar 0) "led") (tFld K (tVar 0) "deeds") "deeds") D σ H := by
  have xk : ∀ {H' : Hp} {o : HO}, upd H' p o x = H' x := fun {H' o} => upd_ne ne
  have nl := nT "led" (by simp)
  refine exit_step h0 hx cT nl rfl hp cL (nL "room" (by simp)) (nT "room" (by simp)) rfl (Nat.le_of_ble_eq_true rfl) ?_
  refine exit_step h0 (xk.trans hx) cT nl rfl upd_same cL (nL "counts" (by simp)) (nT "counts" (by simp)) rfl (Nat.le_of_ble_eq_true rfl) ?_
  rw [upd_upd]
  refine exit_step h0 (xk.trans hx) cT nl rfl upd_same cL (nL "gone" (by simp)) (nT "gone" (by simp)) rfl (Nat.le_of_ble_eq_true rfl) ?_
  rw [upd_upd]
  refine exit_step h0 (xk.trans hx) cT nl rfl upd_same cL (nL "may" (by simp)) (nT "may" (by simp)) rfl (Nat.le_of_ble_eq_true rfl) ?_
  rw [upd_upd]
  refine exit_step h0 (xk.trans hx) cT nl rfl upd_same cL (nL "left" (by simp)) (nT "left" (by simp)) rfl (Nat.le_of_ble_eq_true rfl) ?_
  rw [upd_upd]
  refine exit_step h0 (xk.trans hx) cT nl rfl upd_same cL (nL "deeds" (by simp)) (nT "deeds" (by simp)) rfl (Nat.le_of_ble_eq_true rfl) ?_
  rw [upd_upd]
  exact q
end GL
set_option Elab.async false
set_option linter.all false
set_option maxRecDepth 100000
set_option maxHeartbeats 4000000
/-! L3ki: within, over data; a lambda that borrows its first argument; a method that gets a lambda. -/
namespace GL
open PySem PySem.Spec PyProof.Rows L2 G
open LamX (Tabs TabS TabB ExtN CodeO)
section
variable {Z : Wd} {M M' H H' : Hp} {B : Bas} {W : List (Nat × Addr)} {σ σ' : L2.St} {δ δ' : List S} {T : List (Addr × Str)} {bs : List Nat} {P : Po}
def ledNs : List Str := ["deeds", "room", "counts", "gone", "may", "left"]
theorem six_of {fs : List (Str × V)} (h : fs.map (·.1) = ledNs) : ∃ a1 a2 a3 a4 a5 a6, fs = leF a1 a2 a3 a4 a5 a6 := by
  match fs, h with
  | [(n1, v1), (n2, v2), (n3, v3), (n4, v4), (n5, v5), (n6, v6)], h =>
    simp only [List.map_cons, List.map_nil, ledNs, List.cons.injEq, and_true] at h
    obtain ⟨rfl, rfl, rfl, rfl, rfl, rfl⟩ := h
    exact ⟨v2, v3, v4, v5, v6, v1, rfl⟩
/-- what is borrowed comes back as it was: its own fields are put back -/
theorem xs_within {CT CL : Addr} {FL : FB} {k : Nat} {S : FnS} {E1 E2 : XK} (hS : Z.fn k = some S) (hC : (Z.cl 2).C = CL) (cL : Cls Z.K CL) {gs : List (Str × D)} {cds : List D} (h0 : δ[0]? = some (.own (.ins 2 gs))) (h1 : δ[1]? = some (.d (.fn k cds))) (hn : gs.map (·.1) = ledNs) (nx : noXL (gs.map (·.2)) = true) (nc : noXL cds = true) (l2 : 2 < δ.length)
    {Φ0 : G.S → OD → Prop} (hF : FL (.ins 2 gs) cds Φ0) (hΦ : ∀ s y', Φ0 s y' → (∃ gs', y' = .ins 2 gs' ∧ gs'.map (·.1) = ledNs) ∧ (∃ d, s = .d d) ∧ P.R s δ) :
    XS Z bs (tWith CT (spEnter CT CL) (spExit CT CL) 2 (tMeth CL "trial" (spTrial CT) [] E1 (tVar 0) tNil) (tRet (tCallV S 1 (spB Z FL) E2 (tCons (tVar 2) tNil)))) δ P := fun B W M H σ E hb I e => by
  obtain ⟨o, e0, p, ho, rfl, hp, hy, hm⟩ := I.sl 0 _ h0
  obtain ⟨dp, fs, rfl, en, al⟩ := hy.insI
  obtain ⟨o1, e1, vf, rfl, atf⟩ := I.sl 1 _ h1
  obtain ⟨f, S', c', cs, pm, ctv, cvs, rfl, eS, L, alc⟩ := At.lam atf
  rw [hS] at eS; cases eS
  rw [hn] at en
  obtain ⟨a1, a2, a3, a4, a5, a6, rfl⟩ := six_of en
  rw [hC] at hp
  refine ⟨_, e0, p, dp, _, rfl, hp, rfl, p, rfl, fun x dx hx hdx ne => ?_⟩
  have xp : x ≠ p := fun z => by rw [z, hp] at hx; cases hx
  have dxp : dx ≠ p := fun z => by rw [z, hp] at hdx; cases hdx
  -- the heap once the trial is entered
  have H1x : (upd (upd H dx (.own x)) x (.ins CT dx [("led", .ref p)])) x = some (.ins CT dx [("led", .ref p)]) := upd_same
  refine ⟨x, dx, _, rfl, H1x, x, dx, p, dp, a1, a2, a3, a4, a5, a6, rfl, xp, H1x, by rw [upd_ne (Ne.symm xp), upd_ne (Ne.symm dxp)]; exact hp, ?_⟩
  rw [upd_upd]
  obtain ⟨H2, hH2⟩ : ∃ H2 : Hp, H2 = upd (upd H dx (.own x)) x (.ins CT dx (trF p a1 a2 a3 a4 a5 a6)) := ⟨_, rfl⟩
  rw [← hH2]
  have H2x : H2 x = some (.ins CT dx (trF p a1 a2 a3 a4 a5 a6)) := by rw [hH2, upd_same]
  have ex2 : Ex H H2 := fun b u eb => by
    rw [hH2, upd_ne (ne_of_none eb hx), upd_ne (ne_of_none eb hdx)]; exact eb
  have LH := L.mono (I.ex.tr ex2)
  have LM := L
  have pcs : p ∉ cs := fun z => by
    obtain ⟨ob, q⟩ := (L.mono I.ex).pins p z
    rw [hp] at q; cases q
  have xcs : x ∉ cs := fun z => by
    obtain ⟨ob, q⟩ := (L.mono I.ex).pins x z
    rw [hx] at q; cases q
  have s1 : (σ.set 2 (some (.ref p)))[1]? = some (some (.ref f)) := by rw [List.getElem?_set_ne (by decide)]; exact e1
  have s2 : (σ.set 2 (some (.ref p)))[2]? = some (some (.ref p)) := by
    have : 2 < σ.length := by have := I.len; omega
    rw [List.getElem?_set_self this]
  refine ⟨f, s1, ⟨c', cs, pm, ctv, cvs, LH⟩, _, s2, c', cs, pm, ctv, cvs, LH, ?_⟩
  have hpm : ExtP M (· ∈ cs) := fun b ob hb eb => by
    obtain ⟨oo, z⟩ := LM.pins b hb
    rw [z] at eb; cases eb
    exact ⟨_, rfl⟩
  have hidB : ∀ b u, H b = some u → b ∉ cs → hideA H2 cs b = some u := fun b u eb hb => by rw [hideA_out hb]; exact ex2 b u eb
  refine ⟨hideA M cs, p, cvs, .ins CL dp (leF a1 a2 a3 a4 a5 a6), .ins 2 gs, cds, _, rfl, hidB p _ hp pcs, by rw [hideA_out pcs]; exact hm, ⟨hC.symm, by rw [hn]; rfl, by rw [hideA_P]; exact AtL.hid hpm al nx⟩, fun b u eb => ?_, by rw [hideA_P]; exact AtL.hid hpm alc nc, hF, fun M' H' v s ho' y' hs q1 q2 q3 q4 q5 q6 r hno => ?_⟩
  · obtain ⟨n, eb⟩ := hideA_some eb
    exact hidB b u (I.ex _ _ eb) n
  · obtain ⟨⟨gs', rfl, hn'⟩, ⟨d, rfl⟩, hR⟩ := hΦ _ _ hs
    obtain ⟨dp', fs', rfl, en', al'⟩ := q6.insI
    rw [hn'] at en'
    obtain ⟨b1, b2, b3, b4, b5, b6, rfl⟩ := six_of en'
    rw [hC] at q5
    have H3 : ∀ b, b ∉ cs → showA H' H2 cs b = H' b := fun b hb => showA_out hb
    have H3x : showA H' H2 cs x = some (.ins CT dx (trF p a1 a2 a3 a4 a5 a6)) := by
      rw [H3 x xcs]
      exact q3 x _ xp (by rw [hideA_out xcs]; exact H2x)
    have H3p : showA H' H2 cs p = some (.ins CL dp' (leF b1 b2 b3 b4 b5 b6)) := by rw [H3 p pcs]; exact q5
    refine ⟨x, dx, p, dp', a1, a2, a3, a4, a5, a6, b1, b2, b3, b4, b5, b6, rfl, xp, H3x, H3p, ?_⟩
    have exM : Ex M' (showA M' M cs) := fun b u eb => by
      have nb : b ∉ cs := fun hb => by
        have := q2 _ _ eb
        rw [hno b hb] at this; cases this
      rw [showA_out nb]; exact eb
    have g1 : Ex M (showA M' M cs) := fun b u eb => by
      by_cases hb : b ∈ cs
      · rw [showA_in hb]; exact eb
      · rw [showA_out hb]; exact q1 _ _ (by rw [hideA_out hb]; exact eb)
    have g4 : ∀ q o, H q = some o → M q = none → NT o → showA M' M cs q = none := fun b u eb em nt => by
      by_cases hb : b ∈ cs
      · rw [showA_in hb]; exact em
      · rw [showA_out hb]; exact q4 b u (hidB b u eb hb) (by rw [hideA_out hb]; exact em) nt
    have g3 : ∀ b u, b ≠ p → H b = some u → upd (showA H' H2 cs) p (.ins CL dp' (leF a1 a2 a3 a4 a5 a6)) b = some u := fun b u nb eb => by
      rw [upd_ne nb]
      by_cases hb : b ∈ cs
      · rw [showA_in hb]; exact ex2 b u eb
      · rw [showA_out hb]; exact q3 b u nb (hidB b u eb hb)
    have mp : showA M' M cs p = none := g4 p _ hp hm fun _ z => nomatch z
    have g2 : Ex (showA M' M cs) (upd (showA H' H2 cs) p (.ins CL dp' (leF a1 a2 a3 a4 a5 a6))) := fun b u eb => by
      have nb : b ≠ p := fun z => by rw [z, mp] at eb; cases eb
      rw [upd_ne nb]
      by_cases hb : b ∈ cs
      · rw [showA_in hb] at eb ⊢
        exact ex2 b u (I.ex _ _ eb)
      · rw [showA_out hb] at eb ⊢
        exact q2 b u eb
    have J := I.afterB e0 h0 (y' := .ins 2 gs) g1 g2 g3 g4 upd_same ⟨hC.symm, by rw [hn]; rfl, al.mono g1⟩
    have ed : δ.set 0 (.own (.ins 2 gs)) = δ := by
      apply List.ext_getElem?
      intro j
      by_cases hj : j = 0
      · subst hj
        rw [List.getElem?_set_self (by omega), h0]
      · rw [List.getElem?_set_ne (Ne.symm hj)]
    rw [ed] at J
    exact e.rt _ _ σ δ v (.d d) hR g1 J (r.mono exM)
/-- a led room's method that gets a lambda, over data -/
theorem entEB {te : TE} {N : List Str} {ws : List V} {p : Addr} {ho : HO} {y : OD} {Q : VK} {n : Nat} {ds : List D} {Φ : S → OD → Prop} (hp : H p = some ho) (hm : M p = none) (hy : ODAt Z M ho y) (ex : Ex M H) (al : AtL Z M ws ds) (hn : N.length = ds.length + 1 + n)
    (q : ∀ M' H' v s ho' y', Φ s y' → Ex M M' → Ex M' H' → (∀ a o, a ≠ p → H a = some o → H' a = some o) → (∀ p o, H p = some o → M p = none → NT o → M' p = none) → H' p = some ho' → ODAt Z M' ho' y' → RetOk Z ⟨H, M⟩ M' H' v s → Q v H')
    (hx : XR Z te (.own y :: (ds.map .d ++ List.replicate n .no)) fun s δ' => ∃ y', δ'[0]? = some (.own y') ∧ Φ s y') : te (L2.start N (.ref p :: ws)) H Q :=
  entB (ts := tRet te) (n := n) hp hm hy ex al hn q (fun B W M0 H0 σ E hb I e => hx B W M0 H0 σ _ I fun M' H' δ' v s f e1 I' r => e.rt M' H' σ δ' v s f e1 I' (by
    cases s with
    | no => exact r
    | d x => exact r
    | own y => obtain ⟨p, ho, a, b, c, d, e, _⟩ := r; exact ⟨p, ho, a, b, c, d, e⟩
    | deal qd cs n => obtain ⟨p, a, b, c⟩ := r; exact ⟨p, a, b, fun x hx => (c x hx).1⟩))
theorem lam_ofB {Pr : Program} {w : World} {K : PySem.W.Frag} {mg : Str → Option Value} {base : Heap} {k : Nat} {S : FnS} {F : FB} (L : LamP S) (len : ∀ y ds Φ, F y ds Φ → ds.length + 1 = S.ps.length + S.cap.length)
    (hbody : ∀ (A : Around) (outer : List Env) (s : Shared) (H : Hp) (E : XK) (f c' : Addr) (cs : List Addr), Room k (A.deeper (lEnv S cs s.heap.objs.size f c')) →
      ∃ t, PE (lCx L2.CX0 Pr w K mg base S cs f c' A outer s H E).nox S.body t ∧ ∀ y ds Φ, F y ds Φ → XR Z t (.own y :: ds.map .d) fun s δ' => ∃ y', δ'[0]? = some (.own y') ∧ Φ s y') : LamOk Pr w K mg base L2.CX0 (k + 1) S (spB Z F) := by
  refine lam_of L (fun vs H Q E h => ?_) fun A outer s H vs Q E f c' cs hr h => ?_
  · obtain ⟨M, p, ws, ho, y, ds, Φ, rfl, _, _, _, _, al, hF, _⟩ := h
    have := len _ _ _ hF
    rw [List.length_cons, al.len]; exact this
  · obtain ⟨M, p, ws, ho, y, ds, Φ, rfl, hp, hm, hy, ex, al, hF, q⟩ := h
    obtain ⟨t, h1, h2⟩ := hbody A outer s H E f c' cs hr
    refine ⟨t, h1.nox, entEB (n := 0) hp hm hy ex al (by rw [List.length_append]; have := len _ _ _ hF; omega) q ?_⟩
    rw [List.replicate_zero, List.append_nil]
    exact h2 _ _ _ hF
end
end GL
set_option Elab.async false
set_option linter.all false
set_option maxRecDepth 100000
set_option maxHeartbeats 4000000
/-! L3kj: x.m(lambda ..), x an own object that the method borrows. -/
namespace GL
open PySem PySem.Spec PyProof.Rows L2 G
open LamX (Tabs TabS TabB ExtN CodeO)
section
variable {Z : Wd} {M M' H H' : Hp} {B : Bas} {W : List (Nat × Addr)} {σ σ' : L2.St} {δ δ' : List S} {T : List (Addr × Str)}
/-- the tables are others -/
theorem I3.tabs (I : I3 Z B W M H σ δ) (nb : NoB T B) (hM : ∀ p ∈ T, M p.1 = none) (hT : ∀ p ∈ T, ∃ ps, H p.1 = some (.tbl ps)) (h : ∀ b, b ∉ T.map (·.1) → H' b = H b) : I3 Z B W M H' σ δ := by
  have nO : ∀ b u, H b = some u → (∀ ps, u ≠ .tbl ps) → b ∉ T.map (·.1) := by
    intro b u e n z
    obtain ⟨q, hq, eq⟩ := List.mem_map.mp z
    obtain ⟨ps, hp⟩ := hT q hq
    rw [eq, e] at hp; cases hp
    exact n _ rfl
  refine ⟨fun a u e => ?_, I.mg, fun a o e n => ?_, I.len, fun i s e => ?_, I.bor, I.own, I.dis⟩
  · rw [h a]
    · exact I.ex a u e
    · intro z
      obtain ⟨q, hq, eq⟩ := List.mem_map.mp z
      rw [← eq, hM q hq] at e; cases e
  · rw [h a]
    · exact I.keep a o e n
    · intro z
      obtain ⟨q, hq, eq⟩ := List.mem_map.mp z
      rw [← eq, nb q hq] at e; cases e
  · obtain ⟨v, c, d⟩ := I.sl i s e
    refine ⟨v, c, ?_⟩
    cases s with
    | no => trivial
    | d x => exact d
    | own z =>
      obtain ⟨q, hq, f, g, k, l⟩ := d
      exact ⟨q, hq, f, by rw [h q (nO q _ g (odat_tbl k).1)]; exact g, k, l⟩
    | deal q cs n =>
      obtain ⟨r, f, g, k, l, m, o⟩ := d
      exact ⟨r, f, by rw [h r (nO r _ g fun _ z => nomatch z)]; exact g, by rw [h q (nO q _ k fun _ z => nomatch z)]; exact k, l, m, o⟩
theorem I3.afterTB (I : I3 Z B W M H σ δ) (nb : NoB T B) (t : TbI T M H) {i : Nat} {p : Addr} {y y' : OD} {ho' : HO} (hs : σ[i]? = some (some (.ref p))) (hi : δ[i]? = some (.own y)) (e1 : Ex M M') (e2 : Ex M' H') (e3 : ∀ a o, a ≠ p → H a = some o → a ∉ T.map (·.1) → H' a = some o)
    (e4 : ∀ p o, H p = some o → M p = none → NT o → M' p = none) (hp : H' p = some ho') (hy : ODAt Z M' ho' y') (hT : ∀ w ∈ T, ∃ ps, H' w.1 = some (.tbl ps)) : I3 Z B W M' H' σ (δ.set i (.own y')) := by
  classical
  have mT : ∀ w ∈ T, M' w.1 = none := by
    intro w hw
    obtain ⟨ps, h1, _⟩ := t.tab w hw
    exact e4 w.1 _ h1 (t.no w hw) fun _ z => nomatch z
  obtain ⟨ho0, hp0, k1, _⟩ := own_kind I (Own.mk hs hi)
  have pT : p ∉ T.map (·.1) := by
    intro z
    obtain ⟨w, hw, ew⟩ := List.mem_map.mp z
    obtain ⟨ps, h1, _⟩ := t.tab w hw
    rw [ew, hp0] at h1; cases h1
    exact k1 _ rfl
  obtain ⟨H2, hH2⟩ : ∃ H2 : Hp, H2 = fun b => if b ∈ T.map (·.1) then H b else H' b := ⟨_, rfl⟩
  have inn : ∀ b, b ∈ T.map (·.1) → H2 b = H b := fun b hb => by rw [hH2]; exact if_pos hb
  have out : ∀ b, b ∉ T.map (·.1) → H2 b = H' b := fun b hb => by rw [hH2]; exact if_neg hb
  have J : I3 Z B W M' H2 σ (δ.set i (.own y')) := by
    refine I.afterB hs hi e1 (fun b u e => ?_) (fun a o n e => ?_) e4 (by rw [out p pT]; exact hp) hy
    · rw [out b]
      · exact e2 b u e
      · intro z
        obtain ⟨w, hw, ew⟩ := List.mem_map.mp z
        rw [← ew, mT w hw] at e; cases e
    · by_cases hb : a ∈ T.map (·.1)
      · rw [inn a hb]; exact e
      · rw [out a hb]; exact e3 a o n e hb
  refine I3.tabs J nb mT (fun w hw => ?_) fun b hb => (out b hb).symm
  obtain ⟨ps, h1, _⟩ := t.tab w hw
  exact ⟨ps, by rw [inn _ (List.mem_map_of_mem hw)]; exact h1⟩
/-- no lambda and no error in an own object -/
def noXO : OD → Bool
  | .lst xs => noXL xs
  | .dic kvs => noXL (kvs.map (·.2))
  | .ins _ fs => noXL (fs.map (·.2))
  | .dT kvs => noXL (kvs.map (·.2))
theorem ODAt.hid {p : Addr → Prop} (hp : ExtP M p) {ho : HO} {y : OD} (h : ODAt Z M ho y) (n : noXO y = true) : ODAt Z (hidP M p) ho y := by
  cases ho with
  | lst vs => cases y with
    | lst xs => exact AtL.hid hp h n
    | _ => exact h.elim
  | dK vs => cases y with
    | dic xs => exact ⟨h.1, AtL.hid hp h.2 n⟩
    | _ => exact h.elim
  | dT vs => cases y with
    | dT xs => exact ⟨h.1, AtL.hid hp h.2 n⟩
    | _ => exact h.elim
  | ins C dx fs => cases y with
    | ins c gs => exact ⟨h.1, h.2.1, AtL.hid hp h.2.2 n⟩
    | _ => exact h.elim
  | _ => exact h.elim
variable {Ψ : S → List S → Prop}
/-- x.m(lambda ..): x at i is borrowed; the lambda k captures what stands at js -/
theorem xrt_methLam {F : FB} {E : XK} {cs : List Addr} {js : List Nat} {k i : Nat} {S : FnS} {m : Str} {c : Nat} {gs : List (Str × D)} (hS : Z.fn k = some S) (hj : S.cap.length = js.length) (hi : δ[i]? = some (.own (.ins c gs))) (hm : m ∉ gs.map (·.1)) {cds : List D} (lcd : cds.length = js.length)
    (hcd : ∀ (i j : Nat), js[i]? = some j → ∃ d, δ[j]? = some (.d d) ∧ cds[i]? = some d) (hF : F (.ins c gs) [.fn k cds] fun s y' => noXS s = true ∧ noXO y' = true ∧ Ψ s (δ.set i (.own y'))) :
    XRT T Z (tMethC (Z.cl c).C m (spB Z F) [] E cs js (tVar i) (tCons (tLam T S cs) tNil)) δ Ψ := fun B W M1 H1 σ Q nb t1 I1 q => by
  obtain ⟨o, e0, p, ho, rfl, hp, hy, hmp⟩ := I1.sl i _ hi
  obtain ⟨dp, fs, rfl, en, alf⟩ := hy.insI
  have lm : fs.lookup m = none := by
    rw [List.lookup_eq_none_iff]
    intro x hx
    have : x.1 ∈ gs.map (·.1) := by rw [← en]; exact List.mem_map_of_mem hx
    simp only [bne_iff_ne, ne_eq, beq_eq_false_iff_ne, Bool.not_eq_true', bne]
    try simp only [beq_eq_false_iff_ne, ne_eq, Bool.not_eq_eq_eq_not, Bool.not_true]
    exact fun z => hm (z ▸ this)
  obtain ⟨cvs, lcv, hcv, al⟩ := slots_at I1 js cds lcd hcd
  refine ⟨_, e0, p, dp, fs, rfl, hp, lm, t1.tab, fun f c' pm ctv H2 kp tb2 nf nf1 nfc hco nw apart hc => ⟨cvs, lcv, hcv, fun H3 pb => ?_⟩⟩
  have cfree : ∀ b ∈ cs, H1 b = none ∧ b ≠ f ∧ b ≠ c' := fun b hb => by
    obtain ⟨a1, a2⟩ := apart b hb
    have n := pb.none b hb
    rw [upd_ne a1] at n
    refine ⟨?_, a1, a2⟩
    cases e : H1 b with
    | none => rfl
    | some u =>
      by_cases hT : b ∈ T.map (·.1)
      · obtain ⟨p, hp, ep⟩ := List.mem_map.mp hT
        obtain ⟨ps, z, _⟩ := tb2 p hp
        rw [ep, n] at z; cases z
      · rw [kp b u e hT] at n; cases n
  have h3f : H3 f = some (PinO f (lamO S cs pm c' ctv)) := by
    rw [pb.out f (fun z => (cfree f z).2.1 rfl), upd_same]
  have h3c : H3 c' = some (CodeO c' S.q) := by
    rw [pb.out c' (fun z => (cfree c' z).2.2 rfl), upd_ne (Ne.symm nfc)]; exact hco
  have h31 : ∀ b u, H1 b = some u → b ∉ T.map (·.1) → H3 b = some u := fun b u e hb => by
    have n1 : b ∉ cs := fun z => by rw [(cfree b z).1] at e; cases e
    have n2 : b ≠ f := ne_of_none e nf1
    rw [pb.out b n1, upd_ne n2]
    exact kp b u e hb
  obtain ⟨Mc, hMc⟩ : ∃ Mc : Hp, Mc = fun b => if b = f ∨ b = c' ∨ b ∈ cs then H3 b else M1 b := ⟨_, rfl⟩
  have mcin : ∀ b, (b = f ∨ b = c' ∨ b ∈ cs) → Mc b = H3 b := fun b hb => by rw [hMc]; exact if_pos hb
  have mcout : ∀ b, ¬ (b = f ∨ b = c' ∨ b ∈ cs) → Mc b = M1 b := fun b hb => by rw [hMc]; exact if_neg hb
  have m1T : ∀ b u, M1 b = some u → b ∉ T.map (·.1) := fun b u e z => by
    obtain ⟨p, hp, ep⟩ := List.mem_map.mp z
    rw [← ep, t1.no p hp] at e; cases e
  have ex3 : ∀ b u, M1 b = some u → H3 b = some u := fun b u e => h31 b u (I1.ex _ _ e) (m1T b u e)
  have exc : Ex M1 Mc := fun b u e => by
    by_cases hb : b = f ∨ b = c' ∨ b ∈ cs
    · rw [mcin b hb]; exact ex3 b u e
    · rw [mcout b hb]; exact e
  have exh : Ex Mc H3 := fun b u e => by
    by_cases hb : b = f ∨ b = c' ∨ b ∈ cs
    · rw [mcin b hb] at e; exact e
    · rw [mcout b hb] at e; exact ex3 b u e
  have L : LamAt Mc S f c' cs pm ctv cvs := by
    refine ⟨by rw [mcin f (.inl rfl)]; exact h3f, by rw [mcin c' (.inr (.inl rfl))]; exact h3c, hc.1, by rw [lcv, ← hj]; exact hc.1, hc.2, fun i c v a b => ?_⟩
    obtain ⟨o, u, z, rr⟩ := pb.at' i c v a b
    exact ⟨o, u, by rw [mcin c (.inr (.inr (List.mem_of_getElem? a)))]; exact z, rr⟩
  have hid : ∀ b, (b = f ∨ b = c' ∨ b ∈ cs) → ∃ φ, Mc b = some (.ext φ) := fun b hb => by
    rcases hb with e | e | e
    · subst e; exact ⟨_, L.f⟩
    · subst e; exact ⟨_, L.c⟩
    · obtain ⟨o, z⟩ := L.pins b e
      exact ⟨_, z⟩
  have pT : p ∉ T.map (·.1) := by
    intro z
    obtain ⟨w, hw, ew⟩ := List.mem_map.mp z
    obtain ⟨ps, h1, _⟩ := t1.tab w hw
    rw [ew, hp] at h1; cases h1
  have p3 : H3 p = some (.ins (Z.cl c).C dp fs) := h31 p _ hp pT
  have pn : ¬ (p = f ∨ p = c' ∨ p ∈ cs) := fun z => by
    obtain ⟨φ, e⟩ := hid p z
    have := exh _ _ e
    rw [p3] at this; cases this
  have mcp : Mc p = none := by rw [mcout p pn]; exact hmp
  refine ⟨Mc, p, [.ref f], .ins (Z.cl c).C dp fs, .ins c gs, [.fn k cds], _, rfl, p3, mcp, ⟨rfl, en, alf.mono exc⟩, exh, .cons (L.at hS (al.mono exc)) .nil, hF, fun M' H' v s ho' y' ⟨nx, ny, hs⟩ a1 a2 a3 a4 a5 a6 r' => ⟨fun c hc => ?_, ?_⟩⟩
  · obtain ⟨o, z⟩ := pb.pin c hc
    rw [a3 c _ (fun e => pn (.inr (.inr (e ▸ hc)))) z, z]
  · let hp' : Addr → Prop := fun b => (b = f ∨ b = c' ∨ b ∈ cs) ∧ M1 b = none
    have ep : ExtP M' hp' := fun b o hb e => by
      obtain ⟨φ, z⟩ := hid b hb.1
      rw [a1 b _ z] at e; cases e
      exact ⟨φ, rfl⟩
    have b1 : Ex M1 (hidP M' hp') := fun b u e => by
      rw [hidP_out (fun z => by rw [z.2] at e; cases e)]
      exact a1 _ _ (exc _ _ e)
    have b2 : Ex (hidP M' hp') (hideA H' cs) := fun b u e => by
      obtain ⟨np, e⟩ := hidP_some e
      rw [hideA_out (fun z => np ⟨.inr (.inr z), by
        cases q : M1 b with
        | none => rfl
        | some w => have := I1.ex _ _ q; rw [(cfree b z).1] at this; cases this⟩)]
      exact a2 _ _ e
    have b3 : ∀ b o, b ≠ p → H1 b = some o → b ∉ T.map (·.1) → hideA H' cs b = some o := fun b o nb e hb => by
      rw [hideA_out (fun z => by rw [(cfree b z).1] at e; cases e)]
      exact a3 _ _ nb (h31 b o e hb)
    have b4 : ∀ b o, H1 b = some o → M1 b = none → NT o → hidP M' hp' b = none := fun b o e em nt => by
      by_cases hpb : b = f ∨ b = c' ∨ b ∈ cs
      · exact hidP_in ⟨hpb, em⟩
      · rw [hidP_out (fun z => hpb z.1)]
        by_cases hT : b ∈ T.map (·.1)
        · obtain ⟨w, hw, ew⟩ := List.mem_map.mp hT
          obtain ⟨ps, z, _⟩ := tb2 w hw
          rw [ew] at z
          have z3 : H3 b = some (.tbl ps) := by
            rw [pb.out b (fun c => hpb (.inr (.inr c))), upd_ne (fun c => hpb (.inl c))]; exact z
          exact a4 b _ z3 (by rw [mcout b hpb]; exact em) fun vs c => nomatch c
        · exact a4 b o (h31 b o e hT) (by rw [mcout b hpb]; exact em) nt
    have kT : ∀ b u, H2 b = some u → b ≠ p → hideA H' cs b = some u := fun b u e nb => by
      have n1 : b ∉ cs := fun z => by
        have n := pb.none b z
        rw [upd_ne (cfree b z).2.1] at n
        rw [n] at e; cases e
      have n2 : b ≠ f := ne_of_none e nf
      rw [hideA_out n1]
      exact a3 b u nb (by rw [pb.out b n1, upd_ne n2]; exact e)
    have hT' : ∀ w ∈ T, ∃ ps, hideA H' cs w.1 = some (.tbl ps) := fun w hw => by
      obtain ⟨ps, z1, _⟩ := tb2 w hw
      exact ⟨ps, kT _ _ z1 fun e => pT (e ▸ List.mem_map_of_mem hw)⟩
    have p' : hideA H' cs p = some ho' := by rw [hideA_out (fun z => pn (.inr (.inr z)))]; exact a5
    have I4 := I3.afterTB I1 nb t1 e0 hi b1 b2 b3 b4 p' (ODAt.hid ep a6 ny) hT'
    have t4 : TbI T (hidP M' hp') (hideA H' cs) := by
      refine ⟨fun w hw => ?_, fun w hw => ?_⟩
      · obtain ⟨ps, z1, z2, z3⟩ := tb2 w hw
        refine ⟨ps, kT _ _ z1 fun e => pT (e ▸ List.mem_map_of_mem hw), z2, fun pos cv hcv => ?_⟩
        obtain ⟨c0, e1, e2⟩ := z3 pos cv hcv
        refine ⟨c0, e1, kT _ _ e2 fun e => ?_⟩
        have h2p : H2 p = some (.ins (Z.cl c).C dp fs) := kp p _ hp pT
        rw [e, h2p] at e2; cases e2
      · obtain ⟨ps, z1, _, _⟩ := t1.tab w hw
        exact b4 w.1 _ z1 (t1.no w hw) fun vs c => nomatch c
    cases s with
    | d y => exact q _ _ _ v (.d y) hs b1 I4 t4 (At.hid ep r' nx)
    | no => exact (nomatch nx)
    | own y => exact (nomatch nx)
    | deal _ _ _ => exact (nomatch nx)
end
end GL
set_option Elab.async false
set_option linter.all false
set_option maxRecDepth 100000
set_option maxHeartbeats 4000000
/-! L3kk: lambdas that are handed over within tests and sums. -/
namespace GL
open PySem PySem.Spec PyProof.Rows L2 G
open LamX (Tabs TabS TabB ExtN CodeO)
section
variable {Z : Wd} {M M' H H' : Hp} {B : Bas} {W : List (Nat × Addr)} {σ σ' : L2.St} {δ δ' : List S} {T : List (Addr × Str)}
variable {bs vs : List Nat} {P : Po} {ts s1 s2 : TS} {te ta tb : TE} {t u : TT} {Θ : Bool → List S → Prop} {Φ : D → List S → Prop}
/-- a test that knows the tables -/
def XTT (T : List (Addr × Str)) (Z : Wd) (tt : TT) (δ : List S) (Θ : Bool → List S → Prop) : Prop :=
  ∀ B W M H σ (Q : Bool → Hp → Prop), NoB T B → TbI T M H → I3 Z B W M H σ δ → (∀ M' H' δ' b, Θ b δ' → Ex M M' → I3 Z B W M' H' σ δ' → TbI T M' H' → Q b H') → tt σ H Q
theorem xtt_test (h : XRT T Z te δ (onD fun d δ' => ∃ b, d = .bl b ∧ Θ b δ')) : XTT T Z (tTest te) δ Θ := fun B W M H σ Q nb tb I q =>
  h B W M H σ _ nb tb I fun M1 H1 δ1 x s h1 e1 I1 t1 r => by
    cases s with
    | d a =>
      obtain ⟨b, rfl, f⟩ := h1
      have at1 : At Z M1 x (.bl b) := r
      cases at1
      exact ⟨b, rfl, q M1 H1 δ1 b f e1 I1 t1⟩
    | _ => exact False.elim h1
theorem xst_if (h : XTT T Z t δ fun b δ' => if b = true then XST T Z bs s1 δ' P else XST T Z bs s2 δ' P) : XST T Z bs (tIfS t s1 s2) δ P := fun B W M H σ E hb nb tb I e =>
  h B W M H σ _ nb tb I fun M1 H1 δ1 b h1 e1 I1 t1 => by
    cases b with
    | true => rw [if_pos rfl] at h1 ⊢; exact h1 B W M1 H1 σ E hb nb t1 I1 (e.mono e1)
    | false => rw [if_neg Bool.false_ne_true] at h1 ⊢; exact h1 B W M1 H1 σ E hb nb t1 I1 (e.mono e1)
theorem xrt_notN (h : XRT T Z ta δ (onD fun a δ1 => Φ (.bl (!G.isNon a)) δ1)) : XRT T Z (tOp GS.rNotX ta (tC .non)) δ (onD Φ) := fun B W M H σ Q nb tb I q =>
  h B W M H σ _ nb tb I fun M1 H1 δ1 x s h1 e1 I1 t1 r => by
    cases s with
    | d a =>
      have at1 : At Z M1 x a := r
      refine And.intro rfl ?_
      have : decide (x = V.non) = G.isNon a := by cases at1 <;> simp [G.isNon]
      rw [this]
      exact q M1 H1 δ1 _ (.d (.bl (!G.isNon a))) h1 e1 I1 t1 .bl
    | _ => exact False.elim h1
/-- of two ints, the second one's value makes lambdas -/
theorem xrt_I0 {g : Int → Int → Int} {i : Nat} {k : Int} (hi : δ[i]? = some (.d (.int k))) (h : XRT T Z tb δ (onD fun b δ1 => ∃ j, b = .int j ∧ Φ (.int (g k j)) δ1)) : XRT T Z (tOp (rI0 fun i j => .int (g i j)) (tVar i) tb) δ (onD Φ) := fun B W M H σ Q nb tt I q => by
  obtain ⟨o, e0, v, rfl, at0⟩ := I.sl i _ hi
  cases at0
  exact ⟨_, e0, h B W M H σ _ nb tt I fun M1 H1 δ1 x s h1 e1 I1 t1 r => by
    cases s with
    | d b =>
      obtain ⟨j, rfl, f⟩ := h1
      have at1 : At Z M1 x (.int j) := r
      cases at1
      exact ⟨k, j, rfl, rfl, q M1 H1 δ1 _ (.d (.int (g k j))) f e1 I1 t1 .int⟩
    | _ => exact False.elim h1⟩
end
end GL
set_option Elab.async false
set_option linter.all false
set_option maxRecDepth 100000
set_option maxHeartbeats 4000000
namespace GK
open PySem L2 G
def top (i : Nat) : Stmt := PySem.Challenge.pw_leavelots_k66_whole_led_rooms.main.body.getD i (.Pass ⟨0, 0, 0, 0⟩)
abbrev s_is_int : Stmt := (top 3)
abbrev N_is_int : List Str := ["value"]
theorem sc_is_int : FnScope N_is_int ["value"] (defScope s_is_int) := ⟨rfl, rfl, rfl, by decide +kernel, rfl, by decide +kernel, by decide +kernel⟩
abbrev s_is_index : Stmt := (top 4)
abbrev N_is_index : List Str := ["value", "many"]
theorem sc_is_index : FnScope N_is_index ["value", "many"] (defScope s_is_index) := ⟨rfl, rfl, rfl, by decide +kernel, rfl, by decide +kernel, by decide +kernel⟩
abbrev s_is_name : Stmt := (top 5)
abbrev N_is_name : List Str := ["value", "letter"]
theorem sc_is_name : FnScope N_is_name ["value"] (defScope s_is_name) := ⟨rfl, rfl, rfl, by decide +kernel, rfl, by decide +kernel, by decide +kernel⟩
abbrev s_is_sequence : Stmt := (top 6)
abbrev N_is_sequence : List Str := ["value"]
theorem sc_is_sequence : FnScope N_is_sequence ["value"] (defScope s_is_sequence) := ⟨rfl, rfl, rfl, by decide +kernel, rfl, by decide +kernel, by decide +kernel⟩
abbrev s_are_names : Stmt := (top 7)
abbrev N_are_names : List Str := ["value", "thing"]
theorem sc_are_names : FnScope N_are_names ["value"] (defScope s_are_names) := ⟨rfl, rfl, rfl, by decide +kernel, rfl, by decide +kernel, by decide +kernel⟩
abbrev s_lot_of : Stmt := (top 8)
abbrev N_lot_of : List Str := ["names"]
theorem sc_lot_of : FnScope N_lot_of ["names"] (defScope s_lot_of) := ⟨rfl, rfl, rfl, by decide +kernel, rfl, by decide +kernel, by decide +kernel⟩
abbrev s_bits_of : Stmt := (top 9)
abbrev N_bits_of : List Str := ["names", "some", "name"]
theorem sc_bits_of : FnScope N_bits_of ["names", "some"] (defScope s_bits_of) := ⟨rfl, rfl, rfl, by decide +kernel, rfl, by decide +kernel, by decide +kernel⟩
abbrev s_names_of : Stmt := (top 10)
abbrev N_names_of : List Str := ["names", "bits", "at", "name"]
theorem sc_names_of : FnScope N_names_of ["names", "bits"] (defScope s_names_of) := ⟨rfl, rfl, rfl, by decide +kernel, rfl, by decide +kernel, by decide +kernel⟩
abbrev s_may : Stmt := (top 21)
abbrev N_may : List Str := ["room", "gone", "rule"]
theorem sc_may : FnScope N_may ["room", "gone"] (defScope s_may) := ⟨rfl, rfl, rfl, by decide +kernel, rfl, by decide +kernel, by decide +kernel⟩
abbrev s_is_fulfilled : Stmt := (top 22)
abbrev N_is_fulfilled : List Str := ["rule", "gone", "name"]
theorem sc_is_fulfilled : FnScope N_is_fulfilled ["rule", "gone"] (defScope s_is_fulfilled) := ⟨rfl, rfl, rfl, by decide +kernel, rfl, by decide +kernel, by decide +kernel⟩
abbrev s_lots_after : Stmt := (top 23)
abbrev N_lots_after : List Str := ["room", "rules", "after", "level", "gone", "rule", "one", "wanted", "lot", "bits"]
theorem sc_lots_after : FnScope N_lots_after ["room"] (defScope s_lots_after) := ⟨rfl, rfl, rfl, by decide +kernel, rfl, by decide +kernel, by decide +kernel⟩
abbrev s_is_order : Stmt := (top 25)
abbrev N_is_order : List Str := ["room", "value"]
theorem sc_is_order : FnScope N_is_order ["room", "value"] (defScope s_is_order) := ⟨rfl, rfl, rfl, by decide +kernel, rfl, by decide +kernel, by decide +kernel⟩
abbrev s_wrong_at : Stmt := (top 26)
abbrev N_wrong_at : List Str := ["room", "order", "gone", "at", "name"]
theorem sc_wrong_at : FnScope N_wrong_at ["room", "order"] (defScope s_wrong_at) := ⟨rfl, rfl, rfl, by decide +kernel, rfl, by decide +kernel, by decide +kernel⟩
abbrev s_check_order : Stmt := (top 27)
abbrev N_check_order : List Str := ["room", "order", "at"]
theorem sc_check_order : FnScope N_check_order ["room", "order"] (defScope s_check_order) := ⟨rfl, rfl, rfl, by decide +kernel, rfl, by decide +kernel, by decide +kernel⟩
abbrev s_many : Stmt := (top 28)
abbrev N_many : List Str := ["room"]
theorem sc_many : FnScope N_many ["room"] (defScope s_many) := ⟨rfl, rfl, rfl, by decide +kernel, rfl, by decide +kernel, by decide +kernel⟩
abbrev s_orders_on : Stmt := (top 29)
abbrev N_orders_on : List Str := ["after", "counts", "gone", "lot"]
theorem sc_orders_on : FnScope N_orders_on ["after"] (defScope s_orders_on) := ⟨rfl, rfl, rfl, by decide +kernel, rfl, by decide +kernel, by decide +kernel⟩
abbrev s_order_at : Stmt := (top 30)
abbrev N_order_at : List Str := ["room", "at", "after", "counts", "order", "gone", "lot"]
theorem sc_order_at : FnScope N_order_at ["room", "at"] (defScope s_order_at) := ⟨rfl, rfl, rfl, by decide +kernel, rfl, by decide +kernel, by decide +kernel⟩
abbrev s_lot_at : Stmt := (top 31)
abbrev N_lot_at : List Str := ["after", "counts", "at", "lot"]
theorem sc_lot_at : FnScope N_lot_at ["after", "counts", "at"] (defScope s_lot_at) := ⟨rfl, rfl, rfl, by decide +kernel, rfl, by decide +kernel, by decide +kernel⟩
abbrev s_number_of : Stmt := (top 32)
abbrev N_number_of : List Str := ["room", "order", "after", "counts", "number", "gone", "name", "lot", "other"]
theorem sc_number_of : FnScope N_number_of ["room", "order"] (defScope s_number_of) := ⟨rfl, rfl, rfl, by decide +kernel, rfl, by decide +kernel, by decide +kernel⟩
abbrev s_Trial_init : Stmt := (inClass (top 34) 0)
abbrev N_Trial_init : List Str := ["self", "led"]
theorem sc_Trial_init : FnScope N_Trial_init ["self", "led"] (defScope s_Trial_init) := ⟨rfl, rfl, rfl, by decide +kernel, rfl, by decide +kernel, by decide +kernel⟩
abbrev s_Trial_enter : Stmt := (inClass (top 34) 1)
abbrev N_Trial_enter : List Str := ["self"]
theorem sc_Trial_enter : FnScope N_Trial_enter ["self"] (defScope s_Trial_enter) := ⟨rfl, rfl, rfl, by decide +kernel, rfl, by decide +kernel, by decide +kernel⟩
abbrev s_Trial_exit : Stmt := (inClass (top 34) 2)
abbrev N_Trial_exit : List Str := ["self", "kind", "value", "trace"]
theorem sc_Trial_exit : FnScope N_Trial_exit ["self", "kind", "value", "trace"] (defScope s_Trial_exit) := ⟨rfl, rfl, rfl, by decide +kernel, rfl, by decide +kernel, by decide +kernel⟩
abbrev s_Led_init : Stmt := (inClass (top 35) 0)
abbrev N_Led_init : List Str := ["self", "room"]
theorem sc_Led_init : FnScope N_Led_init ["self", "room"] (defScope s_Led_init) := ⟨rfl, rfl, rfl, by decide +kernel, rfl, by decide +kernel, by decide +kernel⟩
abbrev s_Led_stand : Stmt := (inClass (top 35) 1)
abbrev N_Led_stand : List Str := ["self", "room", "counts", "gone"]
theorem sc_Led_stand : FnScope N_Led_stand ["self", "room", "counts", "gone"] (defScope s_Led_stand) := ⟨rfl, rfl, rfl, by decide +kernel, rfl, by decide +kernel, by decide +kernel⟩
abbrev s_Led_change : Stmt := (inClass (top 35) 2)
abbrev N_Led_change : List Str := ["self", "room", "counts", "gone"]
theorem sc_Led_change : FnScope N_Led_change ["self", "room", "counts", "gone"] (defScope s_Led_change) := ⟨rfl, rfl, rfl, by decide +kernel, rfl, by decide +kernel, by decide +kernel⟩
abbrev s_Led_leave : Stmt := (inClass (top 35) 3)
abbrev N_Led_leave : List Str := ["self", "name"]
theorem sc_Led_leave : FnScope N_Led_leave ["self", "name"] (defScope s_Led_leave) := ⟨rfl, rfl, rfl, by decide +kernel, rfl, by decide +kernel, by decide +kernel⟩
abbrev s_Led_several : Stmt := (inClass (top 35) 4)
abbrev N_Led_several : List Str := ["self", "names", "gone", "name"]
theorem sc_Led_several : FnScope N_Led_several ["self", "names"] (defScope s_Led_several) := ⟨rfl, rfl, rfl, by decide +kernel, rfl, by decide +kernel, by decide +kernel⟩
abbrev s_Led_follow : Stmt := (inClass (top 35) 5)
abbrev s_Led_undo : Stmt := (inClass (top 35) 6)
abbrev N_Led_undo : List Str := ["self", "room", "counts", "gone"]
theorem sc_Led_undo : FnScope N_Led_undo ["self"] (defScope s_Led_undo) := ⟨rfl, rfl, rfl, by decide +kernel, rfl, by decide +kernel, by decide +kernel⟩
abbrev s_Led_trial : Stmt := (inClass (top 35) 7)
abbrev N_Led_trial : List Str := ["self"]
theorem sc_Led_trial : FnScope N_Led_trial ["self"] (defScope s_Led_trial) := ⟨rfl, rfl, rfl, by decide +kernel, rfl, by decide +kernel, by decide +kernel⟩
abbrev s_Led_within : Stmt := (inClass (top 35) 8)
abbrev N_Led_within : List Str := ["self", "work", "led"]
theorem sc_Led_within : FnScope N_Led_within ["self", "work"] (defScope s_Led_within) := ⟨rfl, rfl, rfl, by decide +kernel, rfl, by decide +kernel, by decide +kernel⟩
abbrev s_Led_len : Stmt := (inClass (top 35) 9)
abbrev N_Led_len : List Str := ["self"]
theorem sc_Led_len : FnScope N_Led_len ["self"] (defScope s_Led_len) := ⟨rfl, rfl, rfl, by decide +kernel, rfl, by decide +kernel, by decide +kernel⟩
abbrev s_counts_in : Stmt := (top 36)
abbrev N_counts_in : List Str := ["room"]
theorem sc_counts_in : FnScope N_counts_in ["room"] (defScope s_counts_in) := ⟨rfl, rfl, rfl, by decide +kernel, rfl, by decide +kernel, by decide +kernel⟩
abbrev s_Rule_init : Stmt := (inClass (top 38) 0)
abbrev N_Rule_init : List Str := ["self", "name", "gone"]
theorem sc_Rule_init : FnScope N_Rule_init ["self", "name", "gone"] (defScope s_Rule_init) := ⟨rfl, rfl, rfl, by decide +kernel, rfl, by decide +kernel, by decide +kernel⟩
abbrev s_Rule_eq : Stmt := (inClass (top 38) 1)
abbrev s_Rule_str : Stmt := (inClass (top 38) 2)
abbrev s_Room_init : Stmt := (inClass (top 41) 0)
abbrev N_Room_init : List Str := ["self", "rules", "at", "rule", "name"]
theorem sc_Room_init : FnScope N_Room_init ["self", "rules"] (defScope s_Room_init) := ⟨rfl, rfl, rfl, by decide +kernel, rfl, by decide +kernel, by decide +kernel⟩
abbrev s_Room_without : Stmt := (inClass (top 41) 2)
abbrev s_Room_len : Stmt := (inClass (top 41) 3)
abbrev s_Room_getitem : Stmt := (inClass (top 41) 4)
abbrev s_Room_add : Stmt := (inClass (top 41) 6)
abbrev s_Room_eq : Stmt := (inClass (top 41) 7)
abbrev s_Room_str : Stmt := (inClass (top 41) 8)
abbrev s_lw_box : Stmt := (top 43)
abbrev N_lw_box : List Str := ["_law_script", "_law_k", "_law_own", "_law_cell", "_law_seed"]
theorem sc_lw_box : FnScope N_lw_box ["_law_script", "_law_k", "_law_own"] (defScope s_lw_box) := ⟨rfl, rfl, rfl, by decide +kernel, rfl, by decide +kernel, by decide +kernel⟩
abbrev s_lw_take : Stmt := (top 44)
abbrev N_lw_take : List Str := ["_law_box_here", "_law_bound", "_law_digit", "_law_raw", "_law_wide"]
theorem sc_lw_take : FnScope N_lw_take ["_law_box_here", "_law_bound"] (defScope s_lw_take) := ⟨rfl, rfl, rfl, by decide +kernel, rfl, by decide +kernel, by decide +kernel⟩
abbrev s_lw_mixed : Stmt := (top 45)
abbrev N_lw_mixed : List Str := ["_law_box_here", "_law_items", "_law_left", "_law_found", "_law_turn"]
theorem sc_lw_mixed : FnScope N_lw_mixed ["_law_box_here", "_law_items"] (defScope s_lw_mixed) := ⟨rfl, rfl, rfl, by decide +kernel, rfl, by decide +kernel, by decide +kernel⟩
abbrev s_lw_names : Stmt := (top 46)
abbrev N_lw_names : List Str := ["_law_box_here", "_law_bound", "_law_some"]
theorem sc_lw_names : FnScope N_lw_names ["_law_box_here", "_law_bound"] (defScope s_lw_names) := ⟨rfl, rfl, rfl, by decide +kernel, rfl, by decide +kernel, by decide +kernel⟩
abbrev s_lw_rules : Stmt := (top 47)
abbrev N_lw_rules : List Str := ["_law_box_here", "_law_most", "_law_names_here", "_law_found", "_law_is_calm", "_law_at", "_law_name", "_law_others", "_law_turn", "_law_wants", "_law_other"]
theorem sc_lw_rules : FnScope N_lw_rules ["_law_box_here", "_law_most"] (defScope s_lw_rules) := ⟨rfl, rfl, rfl, by decide +kernel, rfl, by decide +kernel, by decide +kernel⟩
abbrev s_lw_made : Stmt := (top 48)
abbrev N_lw_made : List Str := ["_law_rules_here", "_law_name", "_law_wants"]
theorem sc_lw_made : FnScope N_lw_made ["_law_rules_here"] (defScope s_lw_made) := ⟨rfl, rfl, rfl, by decide +kernel, rfl, by decide +kernel, by decide +kernel⟩
abbrev s_lw_main : Stmt := (top 49)
abbrev N_lw_main : List Str := ["_law_script", "_law_k", "_law_box_here", "_law_turn", "_law_made_here", "_law_led", "_law_way", "_law_at", "_law_name", "_law_ways", "_law_other", "_law_one"]
theorem sc_lw_main : FnScope N_lw_main ["_law_script"] (defScope s_lw_main) := ⟨rfl, rfl, rfl, by decide +kernel, rfl, by decide +kernel, by decide +kernel⟩
abbrev lx_lw_main_L0 : Expr := (GL.eArg (GL.eLeft (GL.sVal (GL.sAt (GL.sSub (GL.sAt (GL.sSub (GL.sAt (GL.sSub (GL.sAt (GL.sSub (GL.sAt (defBody s_lw_main) 0)) 1)) 2)) 2)) 0))) 0)
abbrev lS_lw_main_L0 : FnS := ⟨"law.<locals>.<lambda>", GL.lamA lx_lw_main_L0, GL.lamB lx_lw_main_L0, GL.lamC lx_lw_main_L0, ["_law_one"], ["_law_other"]⟩
theorem lp_lw_main_L0 : GL.LamP lS_lw_main_L0 := ⟨rfl, rfl, rfl, by decide +kernel, by decide +kernel, by decide +kernel, by decide +kernel, by decide +kernel, fun us _ _ _ _ hl => match us, hl with | [_], _ => rfl⟩
theorem lf_lw_main_L0 : ∀ y ∈ (GL.lamC lx_lw_main_L0).names, y.2 = .free → (defScope s_lw_main).names.lookup y.1 = some .cell ∨ (defScope s_lw_main).names.lookup y.1 = some .free := by decide +kernel
theorem lh_lw_main_L0 (X : Cx) (hq : X.env.qual = "law.<locals>.") (hs : X.env.scope = defScope s_lw_main) : GL.LamHere X lS_lw_main_L0 (GL.lamA lx_lw_main_L0) (GL.lamB lx_lw_main_L0) (GL.lamC lx_lw_main_L0) := ⟨by rw [hq]; rfl, rfl, rfl, rfl, by decide +kernel, by rw [hs]; exact lf_lw_main_L0⟩
theorem lc_lw_main_L0 (X : Cx) (hq : X.env.qual = "law.<locals>.") (hs : X.env.scope = defScope s_lw_main) (hN : X.N = N_lw_main) (hf : X.fn = fun _ => true) (ok : X.Ok) : GL.CapAt X (GL.capC X lS_lw_main_L0) lS_lw_main_L0.cap [10] := GL.capAt_of (lh_lw_main_L0 X hq hs) rfl (by rw [hs]; exact GL.cells_by (by decide +kernel)) (by rw [hN]; exact GL.slots_by (by decide +kernel)) (fun _ => by rw [hf]) ok
abbrev lx_lw_main_L1 : Expr := (GL.eArg (GL.eRight (GL.sVal (GL.sAt (GL.sSub (GL.sAt (GL.sSub (GL.sAt (GL.sSub (GL.sAt (GL.sSub (GL.sAt (defBody s_lw_main) 0)) 1)) 2)) 2)) 1))) 0)
abbrev lS_lw_main_L1 : FnS := ⟨"law.<locals>.<lambda>", GL.lamA lx_lw_main_L1, GL.lamB lx_lw_main_L1, GL.lamC lx_lw_main_L1, ["_law_one"], ["_law_other"]⟩
theorem lp_lw_main_L1 : GL.LamP lS_lw_main_L1 := ⟨rfl, rfl, rfl, by decide +kernel, by decide +kernel, by decide +kernel, by decide +kernel, by decide +kernel, fun us _ _ _ _ hl => match us, hl with | [_], _ => rfl⟩
theorem lf_lw_main_L1 : ∀ y ∈ (GL.lamC lx_lw_main_L1).names, y.2 = .free → (defScope s_lw_main).names.lookup y.1 = some .cell ∨ (defScope s_lw_main).names.lookup y.1 = some .free := by decide +kernel
theorem lh_lw_main_L1 (X : Cx) (hq : X.env.qual = "law.<locals>.") (hs : X.env.scope = defScope s_lw_main) : GL.LamHere X lS_lw_main_L1 (GL.lamA lx_lw_main_L1) (GL.lamB lx_lw_main_L1) (GL.lamC lx_lw_main_L1) := ⟨by rw [hq]; rfl, rfl, rfl, rfl, by decide +kernel, by rw [hs]; exact lf_lw_main_L1⟩
theorem lc_lw_main_L1 (X : Cx) (hq : X.env.qual = "law.<locals>.") (hs : X.env.scope = defScope s_lw_main) (hN : X.N = N_lw_main) (hf : X.fn = fun _ => true) (ok : X.Ok) : GL.CapAt X (GL.capC X lS_lw_main_L1) lS_lw_main_L1.cap [10] := GL.capAt_of (lh_lw_main_L1 X hq hs) rfl (by rw [hs]; exact GL.cells_by (by decide +kernel)) (by rw [hN]; exact GL.slots_by (by decide +kernel)) (fun _ => by rw [hf]) ok
/-- where what the text needs stands -/
structure Ads where
  C_Trial : Addr
  C_Led : Addr
  C_Rule : Addr
  C_Room : Addr
  f_is_int : Addr
  fd_is_int : FuncData
  f_is_index : Addr
  fd_is_index : FuncData
  f_is_name : Addr
  fd_is_name : FuncData
  f_is_sequence : Addr
  fd_is_sequence : FuncData
  f_are_names : Addr
  fd_are_names : FuncData
  f_lot_of : Addr
  fd_lot_of : FuncData
  f_bits_of : Addr
  fd_bits_of : FuncData
  f_names_of : Addr
  fd_names_of : FuncData
  f_may : Addr
  fd_may : FuncData
  f_is_fulfilled : Addr
  fd_is_fulfilled : FuncData
  f_lots_after : Addr
  fd_lots_after : FuncData
  f_is_order : Addr
  fd_is_order : FuncData
  f_wrong_at : Addr
  fd_wrong_at : FuncData
  f_check_order : Addr
  fd_check_order : FuncData
  f_many : Addr
  fd_many : FuncData
  f_orders_on : Addr
  fd_orders_on : FuncData
  f_order_at : Addr
  fd_order_at : FuncData
  f_lot_at : Addr
  fd_lot_at : FuncData
  f_number_of : Addr
  fd_number_of : FuncData
  f_Trial_init : Addr
  fd_Trial_init : FuncData
  f_Trial_enter : Addr
  fd_Trial_enter : FuncData
  f_Trial_exit : Addr
  fd_Trial_exit : FuncData
  f_Led_init : Addr
  fd_Led_init : FuncData
  f_Led_stand : Addr
  fd_Led_stand : FuncData
  f_Led_change : Addr
  fd_Led_change : FuncData
  f_Led_leave : Addr
  fd_Led_leave : FuncData
  f_Led_several : Addr
  fd_Led_several : FuncData
  f_Led_follow : Addr
  fd_Led_follow : FuncData
  f_Led_undo : Addr
  fd_Led_undo : FuncData
  f_Led_trial : Addr
  fd_Led_trial : FuncData
  f_Led_within : Addr
  fd_Led_within : FuncData
  f_Led_len : Addr
  fd_Led_len : FuncData
  f_counts_in : Addr
  fd_counts_in : FuncData
  f_Rule_init : Addr
  fd_Rule_init : FuncData
  e_Rule_init : Addr
  f_Rule_eq : Addr
  fd_Rule_eq : FuncData
  f_Rule_str : Addr
  fd_Rule_str : FuncData
  f_Room_init : Addr
  fd_Room_init : FuncData
  e_Room_init : Addr
  f_Room_without : Addr
  fd_Room_without : FuncData
  f_Room_len : Addr
  fd_Room_len : FuncData
  f_Room_getitem : Addr
  fd_Room_getitem : FuncData
  f_Room_add : Addr
  fd_Room_add : FuncData
  f_Room_eq : Addr
  fd_Room_eq : FuncData
  f_Room_str : Addr
  fd_Room_str : FuncData
  f_lw_box : Addr
  fd_lw_box : FuncData
  f_lw_take : Addr
  fd_lw_take : FuncData
  f_lw_mixed : Addr
  fd_lw_mixed : FuncData
  f_lw_names : Addr
  fd_lw_names : FuncData
  f_lw_rules : Addr
  fd_lw_rules : FuncData
  f_lw_made : Addr
  fd_lw_made : FuncData
  f_lw_main : Addr
  fd_lw_main : FuncData
structure Txt (K : PySem.W.Frag) (mg : Str → Option Value) (a : Ads) : Prop where
  cl_Trial : Cls K a.C_Trial
  m_Trial : mg "Trial" = some (.ref a.C_Trial)
  mk_Trial : Mk K a.C_Trial a.f_Trial_init
  isC_Trial : C8.InsC K a.C_Trial
  no_Trial_led : NoAttr K a.C_Trial "led"
  no_Trial_room : NoAttr K a.C_Trial "room"
  no_Trial_counts : NoAttr K a.C_Trial "counts"
  no_Trial_gone : NoAttr K a.C_Trial "gone"
  no_Trial_may : NoAttr K a.C_Trial "may"
  no_Trial_left : NoAttr K a.C_Trial "left"
  no_Trial_deeds : NoAttr K a.C_Trial "deeds"
  cl_Led : Cls K a.C_Led
  m_Led : mg "Led" = some (.ref a.C_Led)
  mk_Led : Mk K a.C_Led a.f_Led_init
  isC_Led : C8.InsC K a.C_Led
  no_Led_deeds : NoAttr K a.C_Led "deeds"
  no_Led_room : NoAttr K a.C_Led "room"
  no_Led_counts : NoAttr K a.C_Led "counts"
  no_Led_gone : NoAttr K a.C_Led "gone"
  no_Led_may : NoAttr K a.C_Led "may"
  no_Led_left : NoAttr K a.C_Led "left"
  cl_Rule : Cls K a.C_Rule
  m_Rule : mg "Rule" = some (.ref a.C_Rule)
  mk_Rule : Mk K a.C_Rule a.f_Rule_init
  isC_Rule : C8.InsC K a.C_Rule
  no_Rule_name : NoAttr K a.C_Rule "name"
  no_Rule_gone : NoAttr K a.C_Rule "gone"
  nn_Rule : GX.NoNe K a.C_Rule
  nf_Rule_str : PySem.W.notFirst K a.C_Rule (.type "str") = true
  nf_Rule_Trial : PySem.W.notFirst K a.C_Rule (.ref a.C_Trial) = true
  nf_Rule_Led : PySem.W.notFirst K a.C_Rule (.ref a.C_Led) = true
  nf_Rule_Room : PySem.W.notFirst K a.C_Rule (.ref a.C_Room) = true
  cl_Room : Cls K a.C_Room
  m_Room : mg "Room" = some (.ref a.C_Room)
  mk_Room : Mk K a.C_Room a.f_Room_init
  isC_Room : C8.InsC K a.C_Room
  no_Room_rules : NoAttr K a.C_Room "rules"
  no_Room_names : NoAttr K a.C_Room "names"
  kt_Room : ∀ n ∈ ["NoneType", "bool", "int", "str", "list", "tuple"], PySem.W.kitOne K (.type n) (.ref a.C_Room) = some false
  ko_Trial_Room : PySem.W.kitOne K (.ref a.C_Trial) (.ref a.C_Room) = some false
  ko_Led_Room : PySem.W.kitOne K (.ref a.C_Led) (.ref a.C_Room) = some false
  ko_Rule_Room : PySem.W.kitOne K (.ref a.C_Rule) (.ref a.C_Room) = some false
  ko_Room_Room : PySem.W.kitOne K (.ref a.C_Room) (.ref a.C_Room) = some true
  kt_Rule : ∀ n ∈ ["NoneType", "bool", "int", "str", "list", "tuple"], PySem.W.kitOne K (.type n) (.ref a.C_Rule) = some false
  ko_Trial_Rule : PySem.W.kitOne K (.ref a.C_Trial) (.ref a.C_Rule) = some false
  ko_Led_Rule : PySem.W.kitOne K (.ref a.C_Led) (.ref a.C_Rule) = some false
  ko_Rule_Rule : PySem.W.kitOne K (.ref a.C_Rule) (.ref a.C_Rule) = some true
  ko_Room_Rule : PySem.W.kitOne K (.ref a.C_Room) (.ref a.C_Rule) = some false
  F_is_int : Fun K "is_int" "is_int" s_is_int a.f_is_int a.fd_is_int
  b_is_int : Binds K a.fd_is_int ["value"] []
  m_is_int : mg "is_int" = some (.ref a.f_is_int)
  F_is_index : Fun K "is_index" "is_index" s_is_index a.f_is_index a.fd_is_index
  b_is_index : Binds K a.fd_is_index ["value", "many"] []
  m_is_index : mg "is_index" = some (.ref a.f_is_index)
  F_is_name : Fun K "is_name" "is_name" s_is_name a.f_is_name a.fd_is_name
  b_is_name : Binds K a.fd_is_name ["value"] []
  m_is_name : mg "is_name" = some (.ref a.f_is_name)
  F_is_sequence : Fun K "is_sequence" "is_sequence" s_is_sequence a.f_is_sequence a.fd_is_sequence
  b_is_sequence : Binds K a.fd_is_sequence ["value"] []
  m_is_sequence : mg "is_sequence" = some (.ref a.f_is_sequence)
  F_are_names : Fun K "are_names" "are_names" s_are_names a.f_are_names a.fd_are_names
  b_are_names : Binds K a.fd_are_names ["value"] []
  m_are_names : mg "are_names" = some (.ref a.f_are_names)
  F_lot_of : Fun K "lot_of" "lot_of" s_lot_of a.f_lot_of a.fd_lot_of
  b_lot_of : Binds K a.fd_lot_of ["names"] []
  m_lot_of : mg "lot_of" = some (.ref a.f_lot_of)
  F_bits_of : Fun K "bits_of" "bits_of" s_bits_of a.f_bits_of a.fd_bits_of
  b_bits_of : Binds K a.fd_bits_of ["names", "some"] []
  m_bits_of : mg "bits_of" = some (.ref a.f_bits_of)
  F_names_of : Fun K "names_of" "names_of" s_names_of a.f_names_of a.fd_names_of
  b_names_of : Binds K a.fd_names_of ["names", "bits"] []
  m_names_of : mg "names_of" = some (.ref a.f_names_of)
  F_may : Fun K "may" "may" s_may a.f_may a.fd_may
  b_may : Binds K a.fd_may ["room", "gone"] []
  m_may : mg "may" = some (.ref a.f_may)
  F_is_fulfilled : Fun K "is_fulfilled" "is_fulfilled" s_is_fulfilled a.f_is_fulfilled a.fd_is_fulfilled
  b_is_fulfilled : Binds K a.fd_is_fulfilled ["rule", "gone"] []
  m_is_fulfilled : mg "is_fulfilled" = some (.ref a.f_is_fulfilled)
  F_lots_after : Fun K "lots_after" "lots_after" s_lots_after a.f_lots_after a.fd_lots_after
  b_lots_after : Binds K a.fd_lots_after ["room"] []
  m_lots_after : mg "lots_after" = some (.ref a.f_lots_after)
  F_is_order : Fun K "is_order" "is_order" s_is_order a.f_is_order a.fd_is_order
  b_is_order : Binds K a.fd_is_order ["room", "value"] []
  m_is_order : mg "is_order" = some (.ref a.f_is_order)
  F_wrong_at : Fun K "wrong_at" "wrong_at" s_wrong_at a.f_wrong_at a.fd_wrong_at
  b_wrong_at : Binds K a.fd_wrong_at ["room", "order"] []
  m_wrong_at : mg "wrong_at" = some (.ref a.f_wrong_at)
  F_check_order : Fun K "check_order" "check_order" s_check_order a.f_check_order a.fd_check_order
  b_check_order : Binds K a.fd_check_order ["room", "order"] []
  m_check_order : mg "check_order" = some (.ref a.f_check_order)
  F_many : Fun K "many" "many" s_many a.f_many a.fd_many
  b_many : Binds K a.fd_many ["room"] []
  m_many : mg "many" = some (.ref a.f_many)
  F_orders_on : Fun K "orders_on" "orders_on" s_orders_on a.f_orders_on a.fd_orders_on
  b_orders_on : Binds K a.fd_orders_on ["after"] []
  m_orders_on : mg "orders_on" = some (.ref a.f_orders_on)
  F_order_at : Fun K "order_at" "order_at" s_order_at a.f_order_at a.fd_order_at
  b_order_at : Binds K a.fd_order_at ["room", "at"] []
  m_order_at : mg "order_at" = some (.ref a.f_order_at)
  F_lot_at : Fun K "lot_at" "lot_at" s_lot_at a.f_lot_at a.fd_lot_at
  b_lot_at : Binds K a.fd_lot_at ["after", "counts", "at"] []
  m_lot_at : mg "lot_at" = some (.ref a.f_lot_at)
  F_number_of : Fun K "number_of" "number_of" s_number_of a.f_number_of a.fd_number_of
  b_number_of : Binds K a.fd_number_of ["room", "order"] []
  m_number_of : mg "number_of" = some (.ref a.f_number_of)
  F_Trial_init : Fun K "__init__" "Trial.__init__" s_Trial_init a.f_Trial_init a.fd_Trial_init
  b_Trial_init : Binds K a.fd_Trial_init ["self", "led"] []
  F_Trial_enter : Fun K "__enter__" "Trial.__enter__" s_Trial_enter a.f_Trial_enter a.fd_Trial_enter
  b_Trial_enter : Binds K a.fd_Trial_enter ["self"] []
  mt_Trial_enter : Meth K a.C_Trial "__enter__" a.f_Trial_enter
  F_Trial_exit : Fun K "__exit__" "Trial.__exit__" s_Trial_exit a.f_Trial_exit a.fd_Trial_exit
  b_Trial_exit : Binds K a.fd_Trial_exit ["self", "kind", "value", "trace"] []
  mt_Trial_exit : Meth K a.C_Trial "__exit__" a.f_Trial_exit
  F_Led_init : Fun K "__init__" "Led.__init__" s_Led_init a.f_Led_init a.fd_Led_init
  b_Led_init : Binds K a.fd_Led_init ["self", "room"] []
  F_Led_stand : Fun K "stand" "Led.stand" s_Led_stand a.f_Led_stand a.fd_Led_stand
  b_Led_stand : Binds K a.fd_Led_stand ["self", "room", "counts", "gone"] []
  mt_Led_stand : Meth K a.C_Led "stand" a.f_Led_stand
  F_Led_change : Fun K "change" "Led.change" s_Led_change a.f_Led_change a.fd_Led_change
  b_Led_change : Binds K a.fd_Led_change ["self", "room", "counts", "gone"] []
  mt_Led_change : Meth K a.C_Led "change" a.f_Led_change
  F_Led_leave : Fun K "leave" "Led.leave" s_Led_leave a.f_Led_leave a.fd_Led_leave
  b_Led_leave : Binds K a.fd_Led_leave ["self", "name"] []
  mt_Led_leave : Meth K a.C_Led "leave" a.f_Led_leave
  F_Led_several : Fun K "several" "Led.several" s_Led_several a.f_Led_several a.fd_Led_several
  b_Led_several : Binds K a.fd_Led_several ["self", "names"] []
  mt_Led_several : Meth K a.C_Led "several" a.f_Led_several
  F_Led_follow : Fun K "follow" "Led.follow" s_Led_follow a.f_Led_follow a.fd_Led_follow
  b_Led_follow : Binds K a.fd_Led_follow ["self", "room"] []
  mt_Led_follow : Meth K a.C_Led "follow" a.f_Led_follow
  F_Led_undo : Fun K "undo" "Led.undo" s_Led_undo a.f_Led_undo a.fd_Led_undo
  b_Led_undo : Binds K a.fd_Led_undo ["self"] []
  mt_Led_undo : Meth K a.C_Led "undo" a.f_Led_undo
  F_Led_trial : Fun K "trial" "Led.trial" s_Led_trial a.f_Led_trial a.fd_Led_trial
  b_Led_trial : Binds K a.fd_Led_trial ["self"] []
  mt_Led_trial : Meth K a.C_Led "trial" a.f_Led_trial
  F_Led_within : Fun K "within" "Led.within" s_Led_within a.f_Led_within a.fd_Led_within
  b_Led_within : Binds K a.fd_Led_within ["self", "work"] []
  mt_Led_within : Meth K a.C_Led "within" a.f_Led_within
  F_Led_len : Fun K "__len__" "Led.__len__" s_Led_len a.f_Led_len a.fd_Led_len
  b_Led_len : Binds K a.fd_Led_len ["self"] []
  mt_Led_len : Meth K a.C_Led "__len__" a.f_Led_len
  F_counts_in : Fun K "counts_in" "counts_in" s_counts_in a.f_counts_in a.fd_counts_in
  b_counts_in : Binds K a.fd_counts_in ["room"] []
  m_counts_in : mg "counts_in" = some (.ref a.f_counts_in)
  F_Rule_init : FunD K "__init__" "Rule.__init__" (defArgs s_Rule_init) (defBody s_Rule_init) (defScope s_Rule_init) [V.ref a.e_Rule_init] [] a.f_Rule_init a.fd_Rule_init
  b_Rule_init : Binds K a.fd_Rule_init ["self", "name", "gone"] []
  b1_Rule_init : ∃ ds, Vals [V.ref a.e_Rule_init] ds ∧ Binds K a.fd_Rule_init ["self", "name", "gone"] ds
  t_Rule_init : ∀ M : Hp, SqT K M a.e_Rule_init []
  F_Rule_eq : Fun K "__eq__" "Rule.__eq__" s_Rule_eq a.f_Rule_eq a.fd_Rule_eq
  b_Rule_eq : Binds K a.fd_Rule_eq ["self", "other"] []
  mt_Rule_eq : Meth K a.C_Rule "__eq__" a.f_Rule_eq
  F_Rule_str : Fun K "__str__" "Rule.__str__" s_Rule_str a.f_Rule_str a.fd_Rule_str
  b_Rule_str : Binds K a.fd_Rule_str ["self"] []
  mt_Rule_str : Meth K a.C_Rule "__str__" a.f_Rule_str
  F_Room_init : FunD K "__init__" "Room.__init__" (defArgs s_Room_init) (defBody s_Room_init) (defScope s_Room_init) [V.ref a.e_Room_init] [] a.f_Room_init a.fd_Room_init
  b_Room_init : Binds K a.fd_Room_init ["self", "rules"] []
  b1_Room_init : ∃ ds, Vals [V.ref a.e_Room_init] ds ∧ Binds K a.fd_Room_init ["self", "rules"] ds
  t_Room_init : ∀ M : Hp, SqT K M a.e_Room_init []
  F_Room_without : Fun K "without" "Room.without" s_Room_without a.f_Room_without a.fd_Room_without
  b_Room_without : Binds K a.fd_Room_without ["self", "at"] []
  mt_Room_without : Meth K a.C_Room "without" a.f_Room_without
  F_Room_len : Fun K "__len__" "Room.__len__" s_Room_len a.f_Room_len a.fd_Room_len
  b_Room_len : Binds K a.fd_Room_len ["self"] []
  mt_Room_len : Meth K a.C_Room "__len__" a.f_Room_len
  F_Room_getitem : Fun K "__getitem__" "Room.__getitem__" s_Room_getitem a.f_Room_getitem a.fd_Room_getitem
  b_Room_getitem : Binds K a.fd_Room_getitem ["self", "at"] []
  mt_Room_getitem : Meth K a.C_Room "__getitem__" a.f_Room_getitem
  F_Room_add : Fun K "__add__" "Room.__add__" s_Room_add a.f_Room_add a.fd_Room_add
  b_Room_add : Binds K a.fd_Room_add ["self", "other"] []
  mt_Room_add : Meth K a.C_Room "__add__" a.f_Room_add
  F_Room_eq : Fun K "__eq__" "Room.__eq__" s_Room_eq a.f_Room_eq a.fd_Room_eq
  b_Room_eq : Binds K a.fd_Room_eq ["self", "other"] []
  mt_Room_eq : Meth K a.C_Room "__eq__" a.f_Room_eq
  F_Room_str : Fun K "__str__" "Room.__str__" s_Room_str a.f_Room_str a.fd_Room_str
  b_Room_str : Binds K a.fd_Room_str ["self"] []
  mt_Room_str : Meth K a.C_Room "__str__" a.f_Room_str
  F_lw_box : Fun K "_law_box" "_law_box" s_lw_box a.f_lw_box a.fd_lw_box
  b_lw_box : Binds K a.fd_lw_box ["_law_script", "_law_k", "_law_own"] []
  m_lw_box : mg "_law_box" = some (.ref a.f_lw_box)
  F_lw_take : Fun K "_law_take" "_law_take" s_lw_take a.f_lw_take a.fd_lw_take
  b_lw_take : Binds K a.fd_lw_take ["_law_box_here", "_law_bound"] []
  m_lw_take : mg "_law_take" = some (.ref a.f_lw_take)
  F_lw_mixed : Fun K "_law_mixed" "_law_mixed" s_lw_mixed a.f_lw_mixed a.fd_lw_mixed
  b_lw_mixed : Binds K a.fd_lw_mixed ["_law_box_here", "_law_items"] []
  m_lw_mixed : mg "_law_mixed" = some (.ref a.f_lw_mixed)
  F_lw_names : Fun K "_law_names" "_law_names" s_lw_names a.f_lw_names a.fd_lw_names
  b_lw_names : Binds K a.fd_lw_names ["_law_box_here", "_law_bound"] []
  m_lw_names : mg "_law_names" = some (.ref a.f_lw_names)
  F_lw_rules : Fun K "_law_rules" "_law_rules" s_lw_rules a.f_lw_rules a.fd_lw_rules
  b_lw_rules : Binds K a.fd_lw_rules ["_law_box_here", "_law_most"] []
  m_lw_rules : mg "_law_rules" = some (.ref a.f_lw_rules)
  F_lw_made : Fun K "_law_made" "_law_made" s_lw_made a.f_lw_made a.fd_lw_made
  b_lw_made : Binds K a.fd_lw_made ["_law_rules_here"] []
  m_lw_made : mg "_law_made" = some (.ref a.f_lw_made)
  F_lw_main : Fun K "law" "law" s_lw_main a.f_lw_main a.fd_lw_main
  b_lw_main : Binds K a.fd_lw_main ["_law_script"] []
  m_lw_main : mg "law" = some (.ref a.f_lw_main)
  n_abs : mg "abs" = none
  n_all : mg "all" = none
  n_bool : mg "bool" = none
  n_enumerate : mg "enumerate" = none
  n_int : mg "int" = none
  n_isinstance : mg "isinstance" = none
  n_len : mg "len" = none
  n_list : mg "list" = none
  n_max : mg "max" = none
  n_min : mg "min" = none
  n_range : mg "range" = none
  n_reversed : mg "reversed" = none
  n_set : mg "set" = none
  n_sorted : mg "sorted" = none
  n_str : mg "str" = none
  n_sum : mg "sum" = none
  n_tuple : mg "tuple" = none
  m_LETTERS : ∃ u, mg "LETTERS" = some u ∧ RelV (.str "abcdefghijklmnopqrstuvwxyz") u
abbrev ZZ (K : PySem.W.Frag) (a : Ads) : Wd := { K := K, cl := fun c => if c = 4 then ⟨a.C_Trial, ["led", "room", "counts", "gone", "may", "left", "deeds"]⟩ else if c = 2 then ⟨a.C_Led, ["deeds", "room", "counts", "gone", "may", "left"]⟩ else if c = 0 then ⟨a.C_Rule, ["name", "gone"]⟩ else if c = 1 then ⟨a.C_Room, ["rules", "names"]⟩ else ⟨0, []⟩, er := fun c => (0, ""), fn := fun k => if k = 0 then some lS_lw_main_L0 else if k = 1 then some lS_lw_main_L1 else none }
/-! ### numbers -/
theorem mulw {i j : Int} (h1 : -(2 ^ 90) ≤ i ∧ i ≤ 2 ^ 90) (h2 : -(2 ^ 90) ≤ j ∧ j ≤ 2 ^ 90) : CMulW i j := wide_mul (a := 91) (b := 91) (by omega) (by omega) (by decide) (by decide) (by decide)
theorem divw {i j : Int} (h : 0 < j) (h2 : j ≤ 2 ^ 60) : CDivW i j := wide_div (b := 61) h (by omega) (by decide) (by decide)
/-! ### steps -/
local macro_rules | `(tactic| walk_at "sc") => `(tactic| first
  | decide
  | omega
  | exact ⟨by decide, by decide, by decide⟩
  | exact mulw (by omega) (by omega)
  | exact divw (by omega) (by omega)
  | (simp only [List.length_cons, List.length_nil]; omega))
local macro_rules | `(tactic| walk_at "x1") => `(tactic| first
  | with_reducible refine xs_seq ?_
  | with_reducible refine on_d ?_
  | with_reducible refine if_tt ?_
  | with_reducible refine if_ff ?_
  | with_reducible refine if_nt ?_
  | with_reducible refine if_nf ?_
  | with_reducible refine xe_inT ?_
  | with_reducible refine xe_ninT ?_
  | with_reducible refine xe_repB ?_
  | with_reducible refine xe_isN ?_
  | with_reducible refine xe_notN ?_
  | with_reducible refine xe_isB ?_
  | with_reducible refine xe_notB ?_
  | with_reducible refine xe_orV ?_
  | with_reducible refine on_o ?_
  | with_reducible refine xs_next ?_
  | with_reducible refine xs_if ?_
  | with_reducible refine xs_drop ?_
  | ((fail_if_success (with_reducible refine blk_lst ?_)); (fail_if_success (with_reducible refine blk_lc ?_)); (with_reducible refine xs_set ?hb ?_); (case hb => decide))
  | ((with_reducible refine' xe_var ?hv ?_); (case hv => rfl))
  | with_reducible refine xe_int ?_
  | with_reducible refine xe_str ?_
  | with_reducible refine xe_bl ?_
  | with_reducible refine xe_non ?_
  | with_reducible refine xe_neg ?_
  | with_reducible refine xe_I0 ?_
  | with_reducible refine xe_B0 ?_
  | with_reducible refine xe_I ?_
  | with_reducible refine xe_callIntC ?_
  | with_reducible refine xe_callInt ?_
  | with_reducible refine xe_abs ?_
  | with_reducible refine xe_isi ?_
  | with_reducible refine xe_isiSeq ?_
  | with_reducible refine xe_isiC ?_
  | with_reducible refine xe_chain ?_
  | with_reducible refine xe_andV ?_
  | with_reducible refine xe_strS ?_
  | with_reducible refine xe_max2 ?_
  | with_reducible refine xe_min2 ?_
  | ((with_reducible refine xe_ixO ?_ ?hv); (case hv => exact ⟨_, rfl⟩))
  | ((with_reducible refine' xe_lenO ?hv ?_); (case hv => rfl))
  | with_reducible refine xe_len ?_
  | with_reducible refine xs_item0 ?_
  | with_reducible refine xt_test ?_
  | with_reducible refine xt_B ?_
  | with_reducible refine xt_not ?_
  | with_reducible refine xt_and ?_
  | with_reducible refine xt_or ?_
  | with_reducible refine xa_cons ?_
  | with_reducible refine xa_nil ?_
  | refine ⟨_, _, rfl, rfl, ?_⟩
  | refine ⟨_, _, _, rfl, rfl, rfl, ?_⟩
  | refine ⟨_, rfl, ?_⟩
  | dsimp only [List.set]
  | (refine And.intro ?sc ?_; (case sc => walk_at "sc")))
local macro_rules | `(tactic| walk_at "xs") => `(tactic| repeat (walk_at "x1"))
local macro_rules | `(tactic| walk_at "ent") => `(tactic| dsimp only [cxOf, Cx.nox, Cx.wish, List.map, List.replicate, List.cons_append, List.nil_append])
local macro_rules | `(tactic| walk_at "ret") => `(tactic| ((with_reducible refine xs_ret ?_); walk_at "xs"))
/-! ### the box -/
def BoxD (c : Int) (y : OD) : Prop := ∃ x u z : Int, y = .lst [.int x, .int u, .int z] ∧ 0 ≤ u ∧ u ≤ 2 ^ 32 ∧ 0 ≤ z ∧ z ≤ c
def F_take : FB := fun y ds Φ => ∃ n c : Int, ds = [.int n] ∧ 0 < n ∧ n < 2 ^ 30 ∧ c < 2 ^ 50 ∧ BoxD c y ∧ ∀ d y', 0 ≤ d → d < n → BoxD (c + 1) y' → Φ (.d (.int d)) y'
section
variable {P : Program} {w : World} {K : PySem.W.Frag} {mg : Str → Option Value} {base : Heap} {a : Ads}
theorem ok_take (T : Txt K mg a) : FnOk P w K mg base CX0 1 a.f_lw_take a.fd_lw_take ["_law_box_here", "_law_bound"] (spB (ZZ K a) F_take) := by
  refine T.F_lw_take.ok sc_lw_take (fun vs H Q E h => ?_) (fun cdv A outer s H vs Q E hr h => ?_)
  · obtain ⟨M, p, ws, ho, y, ds, Φ, rfl, _, _, _, _, al, ⟨n, c, rfl, _⟩, _⟩ := h
    simp [al.len]
  · obtain ⟨M, p, ws, ho, y, ds, Φ, rfl, hp, hm, hy, ex, al, ⟨n, c, rfl, n0, n1, c1, ⟨x, u, z, rfl, u0, u1, z0, z1⟩, k⟩, q⟩ := h
    refine ⟨_, (pss_cons (ps_if (pt_cmpR op_gt (pe_ix (show IxR _ (rIx K) from ix_seq) (pv 0) pe_int (fun _ _ => rfl)) pe_int (nomark _)) (pss_cons (ps_set (i := 2) sc_lw_take.nd rfl (Or.inl rfl) (pe_op op_mod (pe_callTy call_int1 (by rfl) T.n_int (by decide +kernel) (pa_cons (pe_ix (show IxR _ (rIx K) from ix_seq) (pv 0) pe_int (fun _ _ => rfl)) pa_nil)) (pv 1)))
      (pss_cons (ps_asg (pe_op op_fdivW (pe_ix (show IxR _ (rIx K) from ix_seq) (pv 0) pe_int (fun _ _ => rfl)) (pv 1)) (pg_sub (pv 0) pe_int set_list))
      (pss_one (ps_ret (pv 2))))) pss_nil)
      (pss_cons (ps_asg (pe_op op_add (pe_ix (show IxR _ (rIx K) from ix_seq) (pv 0) pe_int (fun _ _ => rfl)) pe_int) (pg_sub (pv 0) pe_int set_list))
      (pss_cons (ps_set (i := 3) sc_lw_take.nd rfl (Or.inl rfl) (pe_op op_mod (pe_callTy call_int1 (by rfl) T.n_int (by decide +kernel) (pa_cons (pe_op op_mulW (pe_op op_add (pe_ix (show IxR _ (rIx K) from ix_seq) (pv 0) pe_int (fun _ _ => rfl)) (pe_op op_mulW pe_int (pe_ix (show IxR _ (rIx K) from ix_seq) (pv 0) pe_int (fun _ _ => rfl)))) pe_int) pa_nil)) pe_int))
      (pss_cons (ps_asg (pe_op op_add (pe_op op_mod (pe_callTy call_int1 (by rfl) T.n_int (by decide +kernel) (pa_cons (pe_op op_add (pe_op op_mulW (pv 3) pe_int) pe_int) pa_nil)) pe_int) pe_int) (pg_sub (pv 0) pe_int set_list))
      (pss_cons (ps_if (pt_cmpR op_lt (pv 1) (pe_op op_pow pe_int pe_int) (nomark _)) (pss_one (ps_ret (pe_op op_mod (pe_callTy call_int1 (by rfl) T.n_int (by decide +kernel) (pa_cons (pe_op op_fdivW (pe_op op_add (pe_op op_mulW (pv 3) pe_int) (pe_ix (show IxR _ (rIx K) from ix_seq) (pv 0) pe_int (fun _ _ => rfl))) pe_int) pa_nil)) (pv 1)))) pss_nil)
      (pss_cons (ps_set (i := 4) sc_lw_take.nd rfl (Or.inl rfl) (pe_op op_mulW (pe_op op_add (pe_op op_mulW (pv 3) pe_int) (pe_ix (show IxR _ (rIx K) from ix_seq) (pv 0) pe_int (fun _ _ => rfl))) (pe_op op_pow pe_int pe_int)))
      (pss_one (ps_ret (pe_op op_mod (pe_callTy call_int1 (by rfl) T.n_int (by decide +kernel) (pa_cons (pe_op op_add (pe_op op_add (pv 4) (pe_op op_mulW (pe_op op_pow (pe_ix (show IxR _ (rIx K) from ix_seq) (pv 0) pe_int (fun _ _ => rfl)) pe_int) pe_int)) (pv 3)) pa_nil)) (pv 1)))))))))), entB (n := 3) hp hm hy ex al rfl q ?_⟩
    walk_at "ent"
    walk_at "xs"
    refine ite_b (fun hx => ?_) (fun hx => ?_)
    · walk_at "xs"
      walk_at "ret"
      exact k _ _ (Int.emod_nonneg _ (by omega)) (Int.emod_lt_of_pos _ n0) ⟨_, _, _, rfl, u0, u1, z0, by omega⟩
    · walk_at "xs"
      have e40 : (2 : Int) ^ Int.toNat 40 = 2 ^ 40 := rfl
      refine ite_b (fun h2 => ?_) (fun h2 => ?_)
      · walk_at "xs"
        walk_at "ret"
        exact k _ _ (Int.emod_nonneg _ (by omega)) (Int.emod_lt_of_pos _ n0) ⟨_, _, _, rfl, by omega, by omega, by omega, by omega⟩
      · have := of_decide_eq_false h2
        rw [e40] at this
        omega
def F_box : FR := fun ds Φ => ∃ (ns : List Int) (k o : Int), ds = [.scr ns, .int k, .int o] ∧ 0 ≤ k ∧ k < 10 ∧ 0 ≤ o ∧ o < 1000 ∧ ∀ y, BoxD 0 y → Φ (.own y)
theorem ok_box (T : Txt K mg a) : FnOk P w K mg base CX0 1 a.f_lw_box a.fd_lw_box ["_law_script", "_law_k", "_law_own"] (spR (ZZ K a) F_box) := by
  refine T.F_lw_box.ok sc_lw_box (fun vs H Q E h => ?_) (fun cdv A outer s H vs Q E hr h => ?_)
  · obtain ⟨M, ds, Φ, _, al, ⟨ns, k, o, rfl, _⟩, _⟩ := h
    exact al.len
  · obtain ⟨M, ds, Φ, ex, al, ⟨ns, k, o, rfl, k0, k1, o0, o1, fin⟩, q⟩ := h
    refine ⟨_, (pss_cons (ps_set (i := 3) sc_lw_box.nd rfl (Or.inl rfl) (pe_op op_add (pe_op op_add (pe_op op_mulW pe_int (pv 1)) (pe_op op_mulW pe_int (pv 2))) pe_int))
      (pss_cons (ps_if (pt_cmpR op_lt (pv 1) (pe_callB (show CallR _ (.builtin "len") (G.rLen K) from call_len) (by rfl) T.n_len PySem.boot_len (pa_cons (pv 0) pa_nil)) (nomark _)) (pss_one (ps_set (i := 3) sc_lw_box.nd rfl (Or.inl rfl) (pe_callB call_abs (by rfl) T.n_abs (by decide +kernel) (pa_cons (pe_ix (show IxR _ (rIx K) from ix_seq) (pv 0) (pv 1) (fun _ _ => rfl)) pa_nil)))) (pss_one (ps_if (pt_cmpR op_gt (pe_callB (show CallR _ (.builtin "len") (G.rLen K) from call_len) (by rfl) T.n_len PySem.boot_len (pa_cons (pv 0) pa_nil)) pe_int (nomark _)) (pss_one (ps_set (i := 3) sc_lw_box.nd rfl (Or.inl rfl) (pe_op op_add (pv 3) (pe_op op_mulW (pe_op op_mod (pe_callTy call_int1 (by rfl) T.n_int (by decide +kernel) (pa_cons (pe_callB call_abs (by rfl) T.n_abs (by decide +kernel) (pa_cons (pe_ix (show IxR _ (rIx K) from ix_seq) (pv 0) (pe_op op_mod (pe_callTy call_int1 (by rfl) T.n_int (by decide +kernel) (pa_cons (pv 1) pa_nil)) (pe_callB (show CallR _ (.builtin "len") (G.rLen K) from call_len) (by rfl) T.n_len PySem.boot_len (pa_cons (pv 0) pa_nil))) (fun _ _ => rfl)) pa_nil)) pa_nil)) pe_int) pe_int)))) pss_nil)))
      (pss_cons (ps_set (i := 4) sc_lw_box.nd rfl (Or.inl rfl) (pe_op op_add (pe_op op_mod (pe_callTy call_int1 (by rfl) T.n_int (by decide +kernel) (pa_cons (pe_op op_add (pe_op op_mulW (pe_op op_mod (pe_callTy call_int1 (by rfl) T.n_int (by decide +kernel) (pa_cons (pv 3) pa_nil)) pe_int) pe_int) (pe_op op_mulW pe_int (pe_op op_add (pv 1) (pe_op op_mulW pe_int (pv 2))))) pa_nil)) pe_int) pe_int))
      (pss_one (ps_ret (pe_lst (pa_cons (pe_ix (show IxR _ (rIx K) from ix_seq) (pe_lst (pa_cons pe_int (pa_cons (pv 3) pa_nil))) (pe_callTy call_int1 (by rfl) T.n_int (by decide +kernel) (pa_cons (pe_cmpR op_ge (pv 3) (pe_op op_pow pe_int pe_int) (nomark _)) pa_nil)) (fun _ _ => rfl)) (pa_cons (pv 4) (pa_cons pe_int pa_nil))))))))), entR (n := 2) ex al rfl q ?_⟩
    walk_at "ent"
    walk_at "xs"
    refine' joinX (α := Int × Int) (fun c => 0 ≤ c.1 ∧ 0 ≤ c.2 ∧ c.2 ≤ 2 ^ 32) (fun c => [.d (.scr ns), .d (.int k), .d (.int o), .d (.int c.1), .d (.int c.2)]) (fun finish => ?main) ?fin
    case' main =>
      skip
    refine ite_b (fun hx => ?_) (fun hx => ?_)
    · have hx := of_decide_eq_true hx
      obtain ⟨v, hv⟩ := atI_some k0 hx
      walk_at "xs"
      refine xe_ix ?_
      walk_at "xs"
      refine ⟨_, .int v, rfl, by simp [ixD, hv], ?_⟩
      walk_at "xs"
      exact finish (_, _) ⟨abs_nn v, by omega, by omega⟩
    · walk_at "xs"
      refine ite_b (fun hy => ?_) (fun hy => ?_)
      · have hy := of_decide_eq_true hy
        have hl : (0 : Int) < ns.length := hy
        obtain ⟨v, hv⟩ := atI_some (xs := ns) (Int.emod_nonneg k (by omega : (ns.length : Int) ≠ 0)) (Int.emod_lt_of_pos k hl)
        walk_at "xs"
        refine xe_ix ?_
        walk_at "xs"
        refine ⟨_, .int v, rfl, by simp [ixD, hv], ?_⟩
        walk_at "xs"
        have := abs_nn v
        exact finish (_, _) ⟨by omega, by omega, by omega⟩
      · walk_at "xs"
        exact finish (_, _) ⟨by omega, by omega, by omega⟩
    case fin =>
      rintro ⟨cell, seed⟩ ⟨c0, s0, s1⟩
      dsimp only at c0 s0 s1 ⊢
      refine xs_retO (xo_lst ?_)
      walk_at "xs"
      refine xe_ix (xe_lst ?_)
      walk_at "xs"
      by_cases hc : (10 : Int) ^ Int.toNat 18 ≤ cell
      · refine ⟨1, .int cell, by rw [decide_eq_true hc]; rfl, rfl, ?_⟩
        walk_at "xs"
        exact fin _ ⟨_, _, _, rfl, s0, s1, by decide, by decide⟩
      · refine ⟨0, .int 0, by rw [decide_eq_false hc]; rfl, rfl, ?_⟩
        walk_at "xs"
        exact fin _ ⟨_, _, _, rfl, s0, s1, by decide, by decide⟩
/-! ### mixed -/
def F_mixed : FB := fun y ds Φ => ∃ (xs : List D) (c : Int), ds = [.lst xs] ∧ xs.length ≤ 1000 ∧ 0 ≤ c ∧ c + 1000 < 2 ^ 50 ∧ BoxD c y ∧ ∀ ys y', ys.Perm xs → BoxD (c + 1000) y' → Φ (.own (.lst ys)) y'
theorem BoxD.le {c d : Int} {y : OD} (h : BoxD c y) (k : c ≤ d) : BoxD d y := by
  obtain ⟨x, u, z, rfl, a, b, e, f⟩ := h
  exact ⟨x, u, z, rfl, a, b, e, by omega⟩
theorem ok_mixed (T : Txt K mg a) (G_lw_take : FnOk P w K mg base CX0 1 a.f_lw_take a.fd_lw_take ["_law_box_here", "_law_bound"] (spB (ZZ K a) F_take)) : FnOk P w K mg base CX0 2 a.f_lw_mixed a.fd_lw_mixed ["_law_box_here", "_law_items"] (spB (ZZ K a) F_mixed) := by
  refine T.F_lw_mixed.ok sc_lw_mixed (fun vs H Q E h => ?_) (fun cdv A outer s H vs Q E hr h => ?_)
  · obtain ⟨M, p, ws, ho, y, ds, Φ, rfl, _, _, _, _, al, ⟨xs, c, rfl, _⟩, _⟩ := h
    simp [al.len]
  · obtain ⟨M, p, ws, ho, y, ds, Φ, rfl, hp, hm, hy, ex, al, ⟨xs, c, rfl, l0, c0, c1, hb, k⟩, q⟩ := h
    refine ⟨_, (pss_cons (ps_par (i := 2) (j := 3) (by rfl) sc_lw_mixed.nd rfl rfl (by decide) rfl rfl (pa_cons (pe_callTy call_list_of (by rfl) T.n_list (by decide +kernel) (pa_cons (pv 1) pa_nil)) (pa_cons (pe_lst pa_nil) pa_nil)) (by rfl))
      (pss_cons (ps_for PassesOwn.never rfl (pi_range1 (by rfl) T.n_range (pa_cons (pe_callB (show CallR _ (.builtin "len") (G.rLen K) from call_len) (by rfl) T.n_len PySem.boot_len (pa_cons (pv 2) pa_nil)) pa_nil)) (pg_name (i := 4) sc_lw_mixed.nd rfl (Or.inl rfl))
      (pss_one (ps_expr (pe_bm PySem.F.plainAttrs_list PySem.F.slot_list_append PySem.F.type_list_append mt_append (pv 3) (pa_cons (pe_bm PySem.F.plainAttrs_list PySem.F.slot_list_pop PySem.F.type_list_pop mt_popAt (pv 2) (pa_cons (pe_call G_lw_take (hr.mono (by decide)) (by rfl) T.m_lw_take T.F_lw_take.kp T.b_lw_take .nil pass0 (pa_cons (pv 0) (pa_cons (pe_callB (show CallR _ (.builtin "len") (G.rLen K) from call_len) (by rfl) T.n_len PySem.boot_len (pa_cons (pv 2) pa_nil)) pa_nil))) pa_nil)) pa_nil)))))
      (pss_one (ps_ret (pv 3))))), entB (n := 3) hp hm hy ex al rfl q ?_⟩
    walk_at "ent"
    walk_at "xs"
    refine xs_parOO (by decide) (by decide) (by decide) ?_
    refine xo_list ?_
    walk_at "xs"
    refine ⟨_, .inl rfl, xo_lst ?_⟩
    walk_at "xs"
    refine xs_for (vs := [4]) (xi_rng1 ?_)
    walk_at "xs"
    refine ⟨fun i δ => ∃ y left found s, δ = [.own y, .d (.lst xs), .own (.lst left), .own (.lst found), s] ∧ left.length + i = xs.length ∧ found.length = i ∧ (found ++ left).Perm xs ∧ BoxD (c + i) y, ⟨_, _, _, _, rfl, by simp, rfl, by simp, by simpa using hb⟩, ?_, ?_⟩
    · rintro i d δ1 hi ⟨y, left, found, s, rfl, h1, h2, h3, h4⟩
      obtain ⟨hi, rfl⟩ := rng_at hi
      refine xg_name (by decide) (by decide) ?_
      walk_at "xs"
      refine xe_app ⟨_, rfl⟩ ?_
      refine xe_pop ⟨_, rfl⟩ ?_
      refine xr_callB (fun _ => .nil) ⟨_, rfl⟩ ?_
      walk_at "xs"
      refine ⟨_, c + i, rfl, by omega, by omega, by omega, h4, fun dd y' d0 d1 hb' => ?_⟩
      obtain ⟨kk, rfl⟩ : ∃ kk : Nat, dd = kk := ⟨dd.toNat, by omega⟩
      have hk : kk < left.length := by omega
      refine ⟨left, kk, left[kk], rfl, rfl, by omega, by simp [hk], found, rfl, by omega, _, _, _, _, rfl, ?_, by simp [h2], ?_, by simpa [Int.add_assoc] using hb'⟩
      · rw [List.length_eraseIdx]
        simp [hk]; omega
      · refine List.Perm.trans ?_ h3
        rw [List.append_assoc]
        exact List.Perm.append_left _ (perm_erase hk)
    · rintro δ1 ⟨y, left, found, s, rfl, h1, h2, h3, h4⟩
      rw [rng_len] at h1 h2 h4
      have : left = [] := List.length_eq_zero_iff.mp (by omega)
      subst this
      rw [List.append_nil] at h3
      refine xs_retV (by decide) rfl ?_
      exact ⟨_, rfl, k _ _ h3 (h4.le (by omega))⟩
/-! ### names -/
def pool : List Str := ["a", "b", "c", "d", "e", "f", "g", "ab", "abc", "zz", "iff", "fi", "z", "ba"]
def F_names : FB := fun y ds Φ => ∃ b c : Int, ds = [.int b] ∧ 1 ≤ b ∧ b ≤ 14 ∧ 0 ≤ c ∧ c + 1000 < 2 ^ 50 ∧ BoxD c y ∧ ∀ (ns : List Str) y', ns.Nodup → (∀ n ∈ ns, n ∈ pool) → (ns.length : Int) = b → BoxD (c + 1000) y' → Φ (.own (.lst (ns.map .str))) y'
theorem ok_names (T : Txt K mg a) (G_lw_mixed : FnOk P w K mg base CX0 2 a.f_lw_mixed a.fd_lw_mixed ["_law_box_here", "_law_items"] (spB (ZZ K a) F_mixed)) : FnOk P w K mg base CX0 3 a.f_lw_names a.fd_lw_names ["_law_box_here", "_law_bound"] (spB (ZZ K a) F_names) := by
  refine T.F_lw_names.ok sc_lw_names (fun vs H Q E h => ?_) (fun cdv A outer s H vs Q E hr h => ?_)
  · obtain ⟨M, p, ws, ho, y, ds, Φ, rfl, _, _, _, _, al, ⟨b, c, rfl, _⟩, _⟩ := h
    simp [al.len]
  · obtain ⟨M, p, ws, ho, y, ds, Φ, rfl, hp, hm, hy, ex, al, ⟨b, c, rfl, b0, b1, c0, c1, hb, k⟩, q⟩ := h
    refine ⟨_, (pss_cons (ps_set (i := 2) sc_lw_names.nd rfl (Or.inl rfl) (pe_lst (pa_cons pe_str (pa_cons pe_str (pa_cons pe_str (pa_cons pe_str (pa_cons pe_str (pa_cons pe_str (pa_cons pe_str (pa_cons pe_str (pa_cons pe_str (pa_cons pe_str (pa_cons pe_str (pa_cons pe_str (pa_cons pe_str (pa_cons pe_str pa_nil))))))))))))))))
      (pss_one (ps_ret (pe_slice (show SlR _ (rSlL K) from sl_list) (pe_call G_lw_mixed (hr.mono (by decide)) (by rfl) T.m_lw_mixed T.F_lw_mixed.kp T.b_lw_mixed .nil pass0 (pa_cons (pv 0) (pa_cons (pv 2) pa_nil))) po_none (po_some (pv 1)))))), entB (n := 1) hp hm hy ex al rfl q ?_⟩
    walk_at "ent"
    walk_at "xs"
    refine xs_set (by decide) (xe_ofO (xo_lst ?_))
    walk_at "xs"
    refine xs_retO (xo_sl (xe_ofO (xr_callB (fun _ => .nil) ⟨_, rfl⟩ ?_)))
    walk_at "xs"
    refine ⟨pool.map .str, c, rfl, by decide, c0, c1, hb, fun ys y' hp' hb' => ?_⟩
    obtain ⟨ns, rfl, hn⟩ : ∃ ns : List Str, ys = ns.map .str ∧ ns.Perm pool := perm_map hp'
    refine ⟨_, rfl, xp_no (xp_part ?_)⟩
    walk_at "xs"
    rw [cut_to (by omega)]
    rw [← List.map_take]
    have hl := hn.length_eq
    refine k _ _ (((hn.nodup_iff).mpr (by decide)).sublist (List.take_sublist _ _)) (fun n h => hn.mem_iff.mp (List.mem_of_mem_take h)) ?_ hb'
    rw [List.length_take, hl]
    have : pool.length = 14 := rfl
    omega
/-! ### the program: names -/
def letters : Str := "abcdefghijklmnopqrstuvwxyz"
def nmS (s : Str) : Bool := !decide (s = "if") && (decide ((1 : Int) ≤ s.length) && decide ((s.length : Int) ≤ 3)) && s.cps.toList.all fun c => decide (c ∈ letters.cps.toList)
def isNm : D → Bool | .str s => nmS s | _ => false
def ok1 (d : D) : Prop := (∃ t, tyD d = some t) ∧ ∀ s, d = .str s → s.length ≤ sizeLine
def okS (d : D) : Prop := ok1 d ∧ ∀ xs, (d = .lst xs ∨ d = .tup xs) → xs.length ≤ 3000 ∧ ∀ x ∈ xs, ok1 x
def seqOf : D → Option (List D) | .lst xs => some xs | .tup xs => some xs | _ => none
def areNm (d : D) : Bool := match seqOf d with | some xs => xs.all isNm | none => false
def F_is_name : FR := fun ds Φ => ∃ d, ds = [d] ∧ ok1 d ∧ Φ (.d (.bl (isNm d)))
def F_is_sequence : FR := fun ds Φ => ∃ d : D, ds = [d] ∧ (∃ t, tyD d = some t) ∧ Φ (.d (.bl (seqOf d).isSome))
def F_are_names : FR := fun ds Φ => ∃ d, ds = [d] ∧ okS d ∧ Φ (.d (.bl (areNm d)))
def F_lot_of : FR := fun ds Φ => ∃ ws : List Str, (ds = [.tup (ws.map .str)] ∨ ds = [.lst (ws.map .str)]) ∧ ws.length < 4000 ∧ ∀ ys, GS.IsLot ys ws → ys.length ≤ ws.length → Φ (.d (.tup (ys.map .str)))
theorem pool_ok : ∀ n ∈ pool, n.length ≤ sizeLine ∧ nmS n = true ∧ PyData.strOk n = true := by decide +kernel
theorem nms_of : ∀ {xs : List D}, xs.all isNm = true → ∃ ws : List Str, xs = ws.map .str ∧ ∀ w ∈ ws, nmS w = true
  | [], _ => ⟨[], rfl, by simp⟩
  | x :: xs, h => by
    simp only [List.all_cons, Bool.and_eq_true] at h
    obtain ⟨ws, rfl, hw⟩ := nms_of h.2
    cases x with
    | str s => exact ⟨s :: ws, rfl, fun w hw' => by
        rcases List.mem_cons.mp hw' with rfl | q
        · exact h.1
        · exact hw w q⟩
    | _ => cases h.1
theorem areNm_iff {d : D} : areNm d = true ↔ ∃ ws : List Str, (d = .lst (ws.map .str) ∨ d = .tup (ws.map .str)) ∧ ∀ w ∈ ws, nmS w = true := by
  constructor
  · intro h
    unfold areNm at h
    cases d with
    | lst xs => obtain ⟨ws, rfl, hw⟩ := nms_of h; exact ⟨ws, .inl rfl, hw⟩
    | tup xs => obtain ⟨ws, rfl, hw⟩ := nms_of h; exact ⟨ws, .inr rfl, hw⟩
    | _ => cases h
  · rintro ⟨ws, rfl | rfl, hw⟩ <;>
    · simp only [areNm, seqOf, List.all_map, List.all_eq_true]
      exact fun w q => hw w q
theorem ok_str {n : Str} (h : n ∈ pool) : ok1 (.str n) := ⟨⟨_, rfl⟩, fun s e => by cases e; exact (pool_ok n h).1⟩
theorem okS_tup {ws : List Str} (h : ∀ w ∈ ws, w ∈ pool) (l : ws.length ≤ 3000) : okS (.tup (ws.map .str)) := ⟨⟨⟨_, rfl⟩, nofun⟩, fun xs e => by
  rcases e with e | e
  · cases e
  · cases e
    refine ⟨by simpa using l, fun x hx => ?_⟩
    obtain ⟨w, hw, rfl⟩ := List.mem_map.mp hx
    exact ok_str (h w hw)⟩
theorem areNm_tup {ws : List Str} (h : ∀ w ∈ ws, w ∈ pool) : areNm (.tup (ws.map .str)) = true := areNm_iff.mpr ⟨ws, .inr rfl, fun w hw => (pool_ok w (h w hw)).2.1⟩
theorem ok_is_name (T : Txt K mg a) : FnOk P w K mg base CX0 1 a.f_is_name a.fd_is_name ["value"] (spR (ZZ K a) F_is_name) := by
  refine T.F_is_name.ok sc_is_name (fun vs H Q E h => ?_) (fun cdv A outer s H vs Q E hr h => ?_)
  · obtain ⟨M, ds, Φ, _, al, ⟨n, rfl, _⟩, _⟩ := h
    exact al.len
  · obtain ⟨M, ds, Φ, ex, al, ⟨d, rfl, ⟨⟨t, ht⟩, hs⟩, fin⟩, q⟩ := h
    refine ⟨_, (pss_cons (ps_if (PW.pt (pw_or (pt_not (pt_val (pe_callB call_isi (by rfl) T.n_isinstance (by decide +kernel) (pa_cons (pv 0) (pa_cons (pe_bltn (v := .ty "str") (u := .type "str") (by rfl) T.n_str (by decide +kernel) rfl) pa_nil))))) (pw_or1 (pt_cmpR op_eq (pv 0) pe_str (nomark _))))) (pss_one (ps_ret pe_bl)) pss_nil)
      (pss_one (ps_ret (pe_and (pe_chain op_le op_le pe_int (pe_callB (show CallR _ (.builtin "len") (G.rLen K) from call_len) (by rfl) T.n_len PySem.boot_len (pa_cons (pv 0) pa_nil)) pe_int) (pe_one (pe_callB (cr_all rfl) (by rfl) T.n_all (by decide +kernel) (pa_cons (pe_lc (own := [("letter", 1)]) (g := (gName 1)) (tt := tYes) rfl sc_is_name.nd (pi_str (pv 0)) (blkOk_by (N := N_is_name) (sc := defScope s_is_name) (by decide +kernel)) (fun _ _ _ _ _ => (pg_name (i := 1) sc_is_name.nd rfl (Or.inl rfl))) (fun _ _ _ _ _ => pts_nil) (fun _ _ _ _ _ => (pe_cmpR op_in_sign (pv 1) (pe_gc rfl T.m_LETTERS) rfl))) pa_nil))))))), entR (n := 1) ex al rfl q ?_⟩
    walk_at "ent"
    walk_at "xs"
    by_cases hd : ∃ n, d = .str n
    · obtain ⟨n, rfl⟩ := hd
      cases ht
      have p1 := hs n rfl
      refine ⟨_, true, rfl, rfl, ?_⟩
      walk_at "xs"
      refine xe_eq ?_
      walk_at "xs"
      refine ⟨rfl, _, rfl, ?_⟩
      refine ite_b (fun h => ?_) (fun h0 => ?_)
      · have h := V.str.inj (of_decide_eq_true h)
        subst h
        walk_at "xs"
        walk_at "ret"
        exact fin
      have h0 : decide (n = ("if" : Str)) = false := decide_eq_false fun e => of_decide_eq_false h0 (by rw [e])
      walk_at "xs"
      walk_at "ret"
      refine ⟨_, if_pos p1, ?_⟩
      refine ⟨_, _, rfl, rfl, ?_⟩
      refine ite_b (fun h1 => ?_) (fun h1 => ?_)
      · walk_at "xs"
        refine ite_b (fun h2 => ?_) (fun h2 => ?_)
        · refine xe_all (xe_ofO (xo_fg (g := fun c => D.str ⟨#[c]⟩) (f := fun c => D.bl (decide (c ∈ letters.cps.toList))) (p := fun _ => true) (xi_str ?_)))
          walk_at "xs"
          refine ⟨rfl, ?_, fun c hc => xt_yes ⟨rfl, rfl, fun _ => ?_⟩, _, rfl, n.cps.toList.map fun c => decide (c ∈ letters.cps.toList), by rw [filter_tt, List.map_map]; rfl, ?_⟩
          · have : n.cps.toList.length = n.length := by simp [Str.length]
            have := of_decide_eq_true h2
            omega
          · refine xe_inS ?_
            walk_at "xs"
            exact ⟨rfl, rfl⟩
          · have e : ((n.cps.toList.map fun c => decide (c ∈ letters.cps.toList)).all id) = isNm (.str n) := by
              simp only [isNm, nmS, h0, h1, h2, List.all_map]
              rfl
            rw [e]
            exact fin
        · have e : isNm (.str n) = false := by
            simp only [isNm, nmS, h0, h1, h2]
            rfl
          rw [e] at fin
          exact fin
      · have e : isNm (.str n) = false := by
          simp only [isNm, nmS, h0, h1]
          rfl
        rw [e] at fin
        exact ⟨_, rfl, fin⟩
    · have e : isNm d = false := by
        cases d with
        | str n => exact absurd ⟨n, rfl⟩ hd
        | _ => rfl
      have k : kitB t "str" = some false := by
        cases d with
        | str n => exact absurd ⟨n, rfl⟩ hd
        | obj => cases ht
        | scr => cases ht
        | exc => cases ht
        | dic => cases ht
        | tupF => cases ht
        | tupT => cases ht
        | dicF => cases ht
        | dicT => cases ht
        | ref => cases ht
        | _ => cases ht <;> rfl
      refine ⟨t, false, ht, k, ?_⟩
      walk_at "xs"
      walk_at "ret"
      rw [e] at fin
      exact fin
theorem ok_is_sequence (T : Txt K mg a) : FnOk P w K mg base CX0 1 a.f_is_sequence a.fd_is_sequence ["value"] (spR (ZZ K a) F_is_sequence) := by
  refine T.F_is_sequence.ok sc_is_sequence (fun vs H Q E h => ?_) (fun cdv A outer s H vs Q E hr h => ?_)
  · obtain ⟨M, ds, Φ, _, al, ⟨n, rfl, _⟩, _⟩ := h
    exact al.len
  · obtain ⟨M, ds, Φ, ex, al, ⟨d, rfl, ⟨t, ht⟩, fin⟩, q⟩ := h
    refine ⟨_, (pss_one (ps_ret (pe_callB call_isiT (by rfl) T.n_isinstance (by decide +kernel) (pa_cons (pv 0) (pa_cons (pe_tup (pa_cons (pe_bltn (v := .ty "list") (u := .type "list") (by rfl) T.n_list (by decide +kernel) rfl) (pa_cons (pe_bltn (v := .ty "tuple") (u := .type "tuple") (by rfl) T.n_tuple (by decide +kernel) rfl) pa_nil))) pa_nil))))), entR (n := 0) ex al rfl q ?_⟩
    walk_at "ent"
    walk_at "xs"
    walk_at "ret"
    refine ⟨_, ht, ?_⟩
    have e : (t == "list" || t == "tuple") = (seqOf d).isSome := by cases d <;> cases ht <;> rfl
    rw [e]
    exact fin
theorem ok_are_names (T : Txt K mg a) (G_is_name : FnOk P w K mg base CX0 1 a.f_is_name a.fd_is_name ["value"] (spR (ZZ K a) F_is_name)) (G_is_sequence : FnOk P w K mg base CX0 1 a.f_is_sequence a.fd_is_sequence ["value"] (spR (ZZ K a) F_is_sequence)) : FnOk P w K mg base CX0 2 a.f_are_names a.fd_are_names ["value"] (spR (ZZ K a) F_are_names) := by
  refine T.F_are_names.ok sc_are_names (fun vs H Q E h => ?_) (fun cdv A outer s H vs Q E hr h => ?_)
  · obtain ⟨M, ds, Φ, _, al, ⟨n, rfl, _⟩, _⟩ := h
    exact al.len
  · obtain ⟨M, ds, Φ, ex, al, ⟨d, rfl, ⟨hd, hs⟩, fin⟩, q⟩ := h
    refine ⟨_, (pss_one (ps_ret (pe_and (pe_call G_is_sequence (hr.mono (by decide)) (by rfl) T.m_is_sequence T.F_is_sequence.kp T.b_is_sequence .nil pass0 (pa_cons (pv 0) pa_nil)) (pe_one (pe_callB (cr_all rfl) (by rfl) T.n_all (by decide +kernel) (pa_cons (pe_lc (own := [("thing", 1)]) (g := (gName 1)) (tt := tYes) rfl sc_are_names.nd (G.pi_or (pi_list (pv 0)) (pi_tupK (K := K) rfl (pv 0))) (blkOk_by (N := N_are_names) (sc := defScope s_are_names) (by decide +kernel)) (fun _ _ _ _ _ => (pg_name (i := 1) sc_are_names.nd rfl (Or.inl rfl))) (fun _ _ _ _ _ => pts_nil) (fun _ _ _ _ _ => (pe_call G_is_name (hr.mono (by decide)) (by rfl) T.m_is_name T.F_is_name.kp T.b_is_name .nil pass0 (pa_cons (pv 1) pa_nil)))) pa_nil)))))), entR (n := 1) ex al rfl q ?_⟩
    walk_at "ent"
    walk_at "xs"
    walk_at "ret"
    refine xr_call (fun _ => .nil) ?_
    walk_at "xs"
    refine ⟨hd.1, on_d ⟨_, rfl, ?_⟩⟩
    by_cases hq : ∃ xs, d = .lst xs ∨ d = .tup xs
    · obtain ⟨xs, hx⟩ := hq
      have e1 : seqOf d = some xs := by rcases hx with rfl | rfl <;> rfl
      rw [e1, if_pos (by rfl)]
      obtain ⟨l, hx1⟩ := hs xs hx
      refine xe_all (xe_ofO (xo_fg (g := fun x : D => x) (f := fun x => D.bl (isNm x)) (p := fun _ => true) (xi_seqV rfl hx ?_)))
      refine ⟨xs, by simp, rfl, by omega, fun w hw' => xt_yes ⟨rfl, rfl, fun _ => ?_⟩, _, rfl, ?_⟩
      · refine xr_call (fun _ => .nil) ?_
        walk_at "xs"
        exact ⟨hx1 w hw', on_d ⟨rfl, rfl⟩⟩
      · refine ⟨xs.map isNm, by rw [filter_tt, List.map_map]; rfl, ?_⟩
        have e2 : (xs.map isNm).all id = areNm d := by
          unfold areNm
          rw [e1, List.all_map]
          rfl
        rw [e2]
        exact fin
    · have e1 : seqOf d = none := by
        cases d with
        | lst xs => exact absurd ⟨xs, .inl rfl⟩ hq
        | tup xs => exact absurd ⟨xs, .inr rfl⟩ hq
        | _ => rfl
      have e2 : areNm d = false := by unfold areNm; rw [e1]
      rw [e1, if_neg (by simp)]
      rw [e2] at fin
      exact fin
/-! ### lots as bare tuples -/
theorem wkR {k : Nat} {f : Addr} {fd : FuncData} {ps : List Str} {F F0 : FR} (h : FnOk P w K mg base CX0 k f fd ps (spR (ZZ K a) F)) (g : ∀ ds Φ, F0 ds Φ → F ds fun s => ∃ ys, s = .d (.tupF ys) ∧ Φ (.d (.tup ys))) : FnOk P w K mg base CX0 k f fd ps (spR (ZZ K a) F0) := by
  refine FnOk.imp h fun vs H Q E z => ?_
  obtain ⟨M, ds, Φ, ex, al, f0, q⟩ := z
  refine ⟨M, ds, _, ex, al, g ds Φ f0, fun M' H' v s hs a1 a2 a3 a4 r => ?_⟩
  obtain ⟨ys, rfl, hs⟩ := hs
  exact q M' H' v _ hs a1 a2 a3 a4 (At.wk r)
def F_lot_ofF : FR := fun ds Φ => ∃ ws : List Str, (ds = [.tup (ws.map .str)] ∨ ds = [.lst (ws.map .str)]) ∧ ws.length < 4000 ∧ ∀ ys, GS.IsLot ys ws → ys.length ≤ ws.length → Φ (.d (.tupF (ys.map .str)))
theorem ok_lot_ofF (T : Txt K mg a) : FnOk P w K mg base CX0 1 a.f_lot_of a.fd_lot_of ["names"] (spR (ZZ K a) F_lot_ofF) := by
  refine T.F_lot_of.ok sc_lot_of (fun vs H Q E h => ?_) (fun cdv A outer s H vs Q E hr h => ?_)
  · obtain ⟨M, ds, Φ, _, al, ⟨n, h, _⟩, _⟩ := h
    rcases h with rfl | rfl <;> exact al.len
  · obtain ⟨M, ds, Φ, ex, al, ⟨ws, hd, hl, fin⟩, q⟩ := h
    refine ⟨_, (pss_one (ps_ret (pe_callTy GX.call_tupleF (by rfl) T.n_tuple (by decide +kernel) (pa_cons (pe_callB (GS.cr_sortSet rfl) (by rfl) T.n_sorted (by decide +kernel) (pa_cons (pe_callTy (GS.cr_set rfl) (by rfl) T.n_set (by decide +kernel) (pa_cons (pv 0) pa_nil)) pa_nil)) pa_nil)))), entR (n := 0) ex al (by rcases hd with rfl | rfl <;> rfl) q ?_⟩
    refine xs_ret (xe_tupleF (xe_ofO (xo_lot rfl ?_)))
    rcases hd with rfl | rfl
    · exact xe_var rfl ⟨ws, .inr rfl, hl, fun ys hy hl => ⟨_, rfl, _, rfl, fin ys hy hl⟩⟩
    · exact xe_var rfl ⟨ws, .inl rfl, hl, fun ys hy hl => ⟨_, rfl, _, rfl, fin ys hy hl⟩⟩
theorem ok_lot_of (T : Txt K mg a) : FnOk P w K mg base CX0 1 a.f_lot_of a.fd_lot_of ["names"] (spR (ZZ K a) F_lot_of) := wkR (ok_lot_ofF T) fun ds Φ ⟨ws, h1, h2, h3⟩ => ⟨ws, h1, h2, fun ys hy hl => ⟨_, rfl, h3 ys hy hl⟩⟩
def F_Rule_init : FB := fun y ds Φ => ∃ (n : Str) (ws : List Str), y = .ins 0 [] ∧ ds = [.str n, .tup (ws.map .str)] ∧ n ∈ pool ∧ (∀ w ∈ ws, w ∈ pool ∧ w ≠ n) ∧ ws.length ≤ 14 ∧ ∀ lot, GS.IsLot lot ws → lot.length ≤ ws.length → Φ (.d .non) (.ins 0 [("name", .str n), ("gone", .tup (lot.map .str))])
theorem ok_Rule_init (T : Txt K mg a) (G_is_name : FnOk P w K mg base CX0 1 a.f_is_name a.fd_is_name ["value"] (spR (ZZ K a) F_is_name)) (G_are_names : FnOk P w K mg base CX0 2 a.f_are_names a.fd_are_names ["value"] (spR (ZZ K a) F_are_names)) (G_lot_of : FnOk P w K mg base CX0 1 a.f_lot_of a.fd_lot_of ["names"] (spR (ZZ K a) F_lot_of)) : FnOk P w K mg base CX0 3 a.f_Rule_init a.fd_Rule_init ["self", "name", "gone"] (spB (ZZ K a) F_Rule_init) := by
  refine T.F_Rule_init.ok sc_Rule_init (fun vs H Q E h => ?_) (fun cdv A outer s H vs Q E hr h => ?_)
  · obtain ⟨M, p, ws', ho, y, ds, Φ, rfl, _, _, _, _, al, ⟨n, ws, rfl, rfl, _⟩, _⟩ := h
    simp [al.len]
  · obtain ⟨M, p, ws', ho, y, ds, Φ, rfl, hp, hm, hy, ex, al, ⟨n, ws, rfl, rfl, hn, hw, hl, fin⟩, q⟩ := h
    refine ⟨_, (pss_cons (ps_if (pt_not (pt_val (pe_call G_is_name (hr.mono (by decide)) (by rfl) T.m_is_name T.F_is_name.kp T.b_is_name .nil pass0 (pa_cons (pv 1) pa_nil)))) (pss_one ps_never) pss_nil)
      (pss_cons (ps_if (PW.pt (pw_or (pt_not (pt_val (pe_call G_are_names (hr.mono (by decide)) (by rfl) T.m_are_names T.F_are_names.kp T.b_are_names .nil pass0 (pa_cons (pv 2) pa_nil)))) (pw_or1 (pt_cmpR (show OpR _ (compareOp .In) (rIn K false) from op_in_seq) (pv 1) (pv 2) rfl)))) (pss_one ps_never) pss_nil)
      (pss_cons (ps_fld (pv 0) (pv 1) rfl)
      (pss_one (ps_fld (pv 0) (pe_call G_lot_of (hr.mono (by decide)) (by rfl) T.m_lot_of T.F_lot_of.kp T.b_lot_of .nil pass0 (pa_cons (pv 2) pa_nil)) rfl))))), entB (n := 0) hp hm hy ex al rfl q ?_⟩
    walk_at "ent"
    walk_at "xs"
    refine xr_call (fun _ => .nil) ?_
    walk_at "xs"
    refine ⟨ok_str hn, on_d ⟨_, rfl, ?_⟩⟩
    rw [show isNm (.str n) = true from (pool_ok n hn).2.1]
    walk_at "xs"
    refine xr_call (fun _ => .nil) ?_
    walk_at "xs"
    refine ⟨okS_tup (fun w h => (hw w h).1) (by omega), on_d ⟨_, rfl, ?_⟩⟩
    rw [areNm_tup fun w h => (hw w h).1]
    walk_at "xs"
    refine ⟨n, ws, rfl, .inr rfl, ?_⟩
    refine ⟨_, rfl, ?_⟩
    rw [decide_eq_false fun h => (hw n h).2 rfl]
    walk_at "xs"
    refine xs_fldO (c := 0) T.cl_Rule T.no_Rule_name ?_
    walk_at "xs"
    refine xs_fldO (c := 0) T.cl_Rule T.no_Rule_gone ?_
    refine xr_call (fun _ => .nil) ?_
    walk_at "xs"
    refine ⟨ws, .inl rfl, by omega, fun lot hlot hll => ?_⟩
    exact ⟨_, rfl, (show (0 : Nat) + 1 < 1000 by decide), _, rfl, fin lot hlot hll⟩
theorem ndR : ((ZZ K a).cl 0).fs.Nodup := (by decide : (["name", "gone"] : List Str).Nodup)
theorem ndM : ((ZZ K a).cl 1).fs.Nodup := (by decide : (["rules", "names"] : List Str).Nodup)
theorem clR (T : Txt K mg a) : ClOk (ZZ K a) 0 := ⟨T.cl_Rule, fun f hf => by
  rcases List.mem_cons.mp hf with rfl | hf
  · exact T.no_Rule_name
  · rw [List.mem_singleton.mp hf]; exact T.no_Rule_gone⟩
theorem clM (T : Txt K mg a) : ClOk (ZZ K a) 1 := ⟨T.cl_Room, fun f hf => by
  rcases List.mem_cons.mp hf with rfl | hf
  · exact T.no_Room_rules
  · rw [List.mem_singleton.mp hf]; exact T.no_Room_names⟩
theorem xe_rname (T : Txt K mg a) {ta : TE} {δ : List S} {Φ : D → List S → Prop} (h : XE (ZZ K a) ta δ fun x δ1 => ∃ n g, x = .obj 0 [n, g] ∧ Φ n δ1) : XE (ZZ K a) (tFld K ta "name") δ Φ := xe_fld (XR.imp h fun s δ' k => by
  cases s with
  | d x => obtain ⟨n, g, rfl, f⟩ := k; exact ⟨0, _, 0, _, rfl, clR T, ndR (K := K), rfl, rfl, f⟩
  | no => exact k
  | own y => exact k
  | deal _ _ _ => exact k)
theorem xe_rgone (T : Txt K mg a) {ta : TE} {δ : List S} {Φ : D → List S → Prop} (h : XE (ZZ K a) ta δ fun x δ1 => ∃ n g, x = .obj 0 [n, g] ∧ Φ g δ1) : XE (ZZ K a) (tFld K ta "gone") δ Φ := xe_fld (XR.imp h fun s δ' k => by
  cases s with
  | d x => obtain ⟨n, g, rfl, f⟩ := k; exact ⟨0, _, 1, _, rfl, clR T, ndR (K := K), rfl, rfl, f⟩
  | no => exact k
  | own y => exact k
  | deal _ _ _ => exact k)
theorem xe_mrules (T : Txt K mg a) {ta : TE} {δ : List S} {Φ : D → List S → Prop} (h : XE (ZZ K a) ta δ fun x δ1 => ∃ n g, x = .obj 1 [n, g] ∧ Φ n δ1) : XE (ZZ K a) (tFld K ta "rules") δ Φ := xe_fld (XR.imp h fun s δ' k => by
  cases s with
  | d x => obtain ⟨n, g, rfl, f⟩ := k; exact ⟨1, _, 0, _, rfl, clM T, ndM (K := K), rfl, rfl, f⟩
  | no => exact k
  | own y => exact k
  | deal _ _ _ => exact k)
theorem xe_mnames (T : Txt K mg a) {ta : TE} {δ : List S} {Φ : D → List S → Prop} (h : XE (ZZ K a) ta δ fun x δ1 => ∃ n g, x = .obj 1 [n, g] ∧ Φ g δ1) : XE (ZZ K a) (tFld K ta "names") δ Φ := xe_fld (XR.imp h fun s δ' k => by
  cases s with
  | d x => obtain ⟨n, g, rfl, f⟩ := k; exact ⟨1, _, 1, _, rfl, clM T, ndM (K := K), rfl, rfl, f⟩
  | no => exact k
  | own y => exact k
  | deal _ _ _ => exact k)
def ruleO (r : Str × List Str) : D := .obj 0 [.str r.1, .tup (r.2.map .str)]
/-! ### who may leave, who can leave -/
abbrev Rl := Str × List Str
def mayS (os : List Rl) (gs : List Str) : List Str := (os.filter fun r => !decide (r.1 ∈ gs) && r.2.all fun w => decide (w ∈ gs)).map (·.1)
theorem mem_may {os : List Rl} {gs : List Str} {x : Str} : x ∈ mayS os gs ↔ x ∉ gs ∧ ∃ ws, (x, ws) ∈ os ∧ ∀ w ∈ ws, w ∈ gs := by
  simp only [mayS, List.mem_map, List.mem_filter, Bool.and_eq_true, Bool.not_eq_true', decide_eq_false_iff_not, List.all_eq_true, decide_eq_true_eq]
  constructor
  · rintro ⟨⟨n, ws⟩, ⟨h1, h2, h3⟩, rfl⟩
    exact ⟨h2, ws, h1, h3⟩
  · rintro ⟨h1, ws, h2, h3⟩
    exact ⟨(x, ws), ⟨h2, h1, h3⟩, rfl⟩
inductive Run (os : List Rl) (st : List Str) : List Str → List Str → Prop
  | refl (g : List Str) : Run os st g g
  | step {g l : List Str} {x : Str} : Run os st g l → x ∈ mayS os l → x ∉ st → Run os st g (l ++ [x])
structure Leav (os : List Rl) (st g l : List Str) : Prop where
  run : Run os st g l
  stop : ∀ x ∈ mayS os l, x ∈ st
theorem Run.sub {os : List Rl} {st g l : List Str} (h : Run os st g l) : ∀ x ∈ g, x ∈ l := by
  induction h with
  | refl => exact fun x h => h
  | step _ _ _ ih => exact fun x h => List.mem_append_left _ (ih x h)
theorem Run.stays {os : List Rl} {st g l : List Str} (h : Run os st g l) : ∀ x ∈ l, x ∈ g ∨ x ∉ st := by
  induction h with
  | refl => exact fun x h => .inl h
  | step _ _ hs ih => exact fun x h => (List.mem_append.mp h).elim (ih x) fun q => .inr (by rw [List.mem_singleton.mp q]; exact hs)
theorem Run.named {os : List Rl} {st g l : List Str} (h : Run os st g l) : ∀ x ∈ l, x ∈ g ∨ ∃ ws, (x, ws) ∈ os := by
  induction h with
  | refl => exact fun x h => .inl h
  | step _ hm _ ih => exact fun x h => (List.mem_append.mp h).elim (ih x) fun q => .inr (by rw [List.mem_singleton.mp q]; exact (mem_may.mp hm).2.imp fun ws h => h.1)
theorem Run.nodup {os : List Rl} {st g l : List Str} (h : Run os st g l) (n : g.Nodup) : l.Nodup := by
  induction h with
  | refl => exact n
  | step _ hm _ ih =>
    refine List.nodup_append.mpr ⟨ih, by simp, fun x hx y hy e => ?_⟩
    rw [List.mem_singleton.mp hy] at e
    exact (mem_may.mp hm).1 (e ▸ hx)
theorem Run.mono {os : List Rl} {st st' g l : List Str} (h : Run os st g l) (k : ∀ x ∈ l, x ∈ g ∨ x ∉ st') : Run os st' g l := by
  induction h with
  | refl => exact .refl _
  | @step l x r hm hs ih =>
    refine .step (ih fun y hy => k y (List.mem_append_left _ hy)) hm ?_
    rcases k x (by simp) with q | q
    · exact absurd (r.sub x q) (mem_may.mp hm).1
    · exact q
theorem Run.trans {os : List Rl} {st g l m : List Str} (h : Run os st g l) (k : Run os st l m) : Run os st g m := by
  induction k with
  | refl => exact h
  | step _ hm hs ih => exact .step ih hm hs
/-- no one gets further than those who stop -/
theorem Leav.top {os : List Rl} {st st' g g' l m : List Str} (h : Leav os st g l) (r : Run os st' g' m) (hg : ∀ x ∈ g', x ∈ l) (hs : ∀ x ∈ st, x ∈ st') : ∀ x ∈ m, x ∈ l := by
  induction r with
  | refl => exact hg
  | step _ hm hn ih =>
    intro y hy
    rcases List.mem_append.mp hy with q | q
    · exact ih y q
    · rw [List.mem_singleton.mp q]
      rename_i x _
      by_cases c : x ∈ l
      · exact c
      · obtain ⟨_, ws, h1, h2⟩ := mem_may.mp hm
        exact absurd (hs x (h.stop x (mem_may.mpr ⟨c, ws, h1, fun w hw => ih w (h2 w hw)⟩))) hn
theorem Leav.same {os : List Rl} {st g l m : List Str} (h : Leav os st g l) (k : Leav os st g m) : ∀ x, x ∈ l ↔ x ∈ m := fun x =>
  ⟨k.top h.run (fun y hy => k.run.sub y hy) (fun _ q => q) x, h.top k.run (fun y hy => h.run.sub y hy) (fun _ q => q) x⟩
def wantAll (os : List Rl) : List Str := os.flatMap fun r => r.1 :: r.2
theorem mem_wantAll {os : List Rl} {x : Str} : x ∈ wantAll os ↔ ∃ r ∈ os, x = r.1 ∨ x ∈ r.2 := by
  simp [wantAll, List.mem_flatMap]
structure RoomOk (os : List Rl) (ns : List Str) : Prop where
  lot : GS.IsLot ns (wantAll os)
  l : os.length ≤ 200
  w : ∀ r ∈ os, r.2.length ≤ 14
  a : ∀ r ∈ os, GS.Asc r.2
def IsHull (os : List Rl) (ns st hs : List Str) : Prop := ∃ l, Leav os st [] l ∧ hs = ns.filter fun x => !decide (x ∈ l)
theorem IsHull.uniq {os : List Rl} {ns st hs hs' : List Str} (h : IsHull os ns st hs) (k : IsHull os ns st hs') : hs = hs' := by
  obtain ⟨l, h1, rfl⟩ := h
  obtain ⟨m, k1, rfl⟩ := k
  refine List.filter_congr fun x _ => ?_
  rw [decide_eq_decide.mpr (h1.same k1 x)]
theorem nodup_len : ∀ {l ss : List Str}, l.Nodup → (∀ x ∈ l, x ∈ ss) → l.length ≤ ss.length
  | [], _, _, _ => Nat.zero_le _
  | x :: l, ss, nd, h => by
    obtain ⟨n1, n2⟩ := List.nodup_cons.mp nd
    have hx := h x (by simp)
    have := nodup_len (l := l) (ss := ss.erase x) n2 fun y hy => (List.mem_erase_of_ne (fun e => n1 (by rw [← e]; exact hy))).mpr (h y (List.mem_cons_of_mem _ hy))
    rw [List.length_erase_of_mem hx] at this
    have := List.length_pos_of_mem hx
    simp only [List.length_cons]; omega
theorem wantAll_len {os : List Rl} (h : ∀ r ∈ os, r.2.length ≤ 14) : (wantAll os).length ≤ 15 * os.length := by
  unfold wantAll
  induction os with
  | nil => simp
  | cons r os ih =>
    have := ih fun q hq => h q (List.mem_cons_of_mem _ hq)
    have := h r (by simp)
    simp only [List.flatMap_cons, List.length_append, List.length_cons]
    omega
theorem RoomOk.len {os : List Rl} {ns : List Str} (h : RoomOk os ns) : ns.length ≤ 3000 := by
  have := nodup_len (GS.Asc.nodup h.lot.asc) fun x hx => (h.lot.mem x).mp hx
  have := wantAll_len h.w
  have := h.l
  omega
theorem RoomOk.name {os : List Rl} {ns : List Str} (h : RoomOk os ns) {x : Str} {ws : List Str} (hx : (x, ws) ∈ os) : x ∈ ns := (h.lot.mem x).mpr (mem_wantAll.mpr ⟨_, hx, .inl rfl⟩)
theorem RoomOk.want {os : List Rl} {ns : List Str} (h : RoomOk os ns) {x y : Str} {ws : List Str} (hx : (x, ws) ∈ os) (hy : y ∈ ws) : y ∈ ns := (h.lot.mem y).mpr (mem_wantAll.mpr ⟨_, hx, .inr hy⟩)
def roomD (os : List Rl) (ns : List Str) : D := .obj 1 [.tup (os.map ruleO), .tup (ns.map .str)]
/-! ### hulls -/
theorem IsHull.mem {os : List Rl} {ns st hs : List Str} (h : IsHull os ns st hs) : ∀ x ∈ hs, x ∈ ns := by
  obtain ⟨l, _, rfl⟩ := h
  exact fun x hx => (List.mem_filter.mp hx).1
theorem IsHull.asc {os : List Rl} {ns st hs : List Str} (ok : RoomOk os ns) (h : IsHull os ns st hs) : GS.Asc hs := by
  obtain ⟨l, _, rfl⟩ := h
  exact ok.lot.asc.filter _
theorem IsHull.has {os : List Rl} {ns st hs : List Str} (h : IsHull os ns st hs) {x : Str} (hx : x ∈ st) (hn : x ∈ ns) : x ∈ hs := by
  obtain ⟨l, h1, rfl⟩ := h
  refine List.mem_filter.mpr ⟨hn, ?_⟩
  simp only [Bool.not_eq_true', decide_eq_false_iff_not]
  exact fun q => (h1.run.stays x q).elim (by simp) fun k => k hx
/-- more who stay, more who are kept -/
theorem IsHull.grow {os : List Rl} {ns st st' hs hs' : List Str} (h : IsHull os ns st hs) (k : IsHull os ns st' hs') (s : ∀ x ∈ st, x ∈ st') : ∀ x ∈ hs, x ∈ hs' := by
  obtain ⟨l, h1, rfl⟩ := h
  obtain ⟨m, k1, rfl⟩ := k
  intro x hx
  obtain ⟨a, b⟩ := List.mem_filter.mp hx
  refine List.mem_filter.mpr ⟨a, ?_⟩
  simp only [Bool.not_eq_true', decide_eq_false_iff_not] at b ⊢
  exact fun q => b (h1.top k1.run (by simp) s x q)
/-- who is outside can be gone -/
theorem IsHull.out {os : List Rl} {ns st hs ws : List Str} (ok : RoomOk os ns) (h : IsHull os ns st hs) (hw : ∀ x, x ∈ ws ↔ x ∈ ns ∧ x ∉ hs) (nw : ws.Nodup) : ∃ l, Leav os (ns.filter fun n => !decide (n ∈ ws)) [] l ∧ l.length = ws.length := by
  obtain ⟨l, h1, rfl⟩ := h
  have hl : ∀ x, x ∈ l ↔ x ∈ ws := fun x => by
    rw [hw]
    simp only [List.mem_filter, Bool.not_eq_true', decide_eq_false_iff_not, not_and, Classical.not_not]
    refine ⟨fun q => ?_, fun q => q.2 q.1⟩
    rcases h1.run.named x q with c | ⟨us, c⟩
    · cases c
    · exact ⟨ok.name c, fun _ => q⟩
  refine ⟨l, ⟨h1.run.mono fun x q => .inr fun c => ?_, fun x q => ?_⟩, Nat.le_antisymm (nodup_len (h1.run.nodup .nil) fun x => (hl x).mp) (nodup_len nw fun x => (hl x).mpr)⟩
  · have := (List.mem_filter.mp c).2
    simp [(hl x).mp q] at this
  · obtain ⟨a, us, b, _⟩ := mem_may.mp q
    refine List.mem_filter.mpr ⟨ok.name b, ?_⟩
    simp only [Bool.not_eq_true', decide_eq_false_iff_not]
    exact fun c => a ((hl x).mpr c)
/-- each rule for somebody stuck wants somebody stuck -/
theorem IsHull.keep {os : List Rl} {ns hs : List Str} (ok : RoomOk os ns) (h : IsHull os ns [] hs) : ∀ r ∈ os, r.1 ∈ hs → ∃ x ∈ r.2, x ∈ hs := by
  obtain ⟨l, h1, rfl⟩ := h
  rintro ⟨n, us⟩ hr hn
  have hn := (List.mem_filter.mp hn).2
  simp only [Bool.not_eq_true', decide_eq_false_iff_not] at hn
  refine Classical.byContradiction fun c => ?_
  have := h1.stop n (mem_may.mpr ⟨hn, us, hr, fun w hw => ?_⟩)
  · cases this
  · refine Classical.byContradiction fun d => c ⟨w, hw, List.mem_filter.mpr ⟨ok.want hr hw, by simpa using d⟩⟩
/-! ### orders -/
def Steps (rs : List Rl) (o : List Str) : Prop := ∀ (i : Nat) (x : Str), o[i]? = some x → x ∈ mayS rs (o.take i)
def Ord (rs : List Rl) (o : List Str) : Prop := Steps rs o ∧ ∀ x, x ∉ mayS rs o
section
variable {rs os : List Rl} {ns o : List Str} {x : Str}
theorem Steps.nil : Steps rs [] := fun i x h => by simp at h
theorem Steps.snoc (h : Steps rs o) (hx : x ∈ mayS rs o) : Steps rs (o ++ [x]) := fun i y hy => by
  rcases Nat.lt_or_ge i o.length with q | q
  · rw [List.getElem?_append_left q] at hy
    rw [List.take_append_of_le_length (Nat.le_of_lt q)]
    exact h i y hy
  · rw [List.getElem?_append_right q] at hy
    have hi : i - o.length = 0 := by
      rcases Nat.eq_zero_or_pos (i - o.length) with z | z
      · exact z
      · rw [List.getElem?_eq_none (by simp; omega)] at hy; cases hy
    rw [hi] at hy
    cases hy
    have : i = o.length := by omega
    subst this
    simpa using hx
theorem Steps.take (h : Steps rs o) (k : Nat) : Steps rs (o.take k) := fun i y hy => by
  rw [List.getElem?_take] at hy
  split at hy
  · rename_i q
    rw [List.take_take, Nat.min_eq_left (Nat.le_of_lt q)]
    exact h i y hy
  · cases hy
theorem Steps.next (h : Steps rs (o.take k)) (hx : o[k]? = some x) (hm : x ∈ mayS rs (o.take k)) : Steps rs (o.take (k + 1)) := by
  rw [GS.take_get hx]; exact h.snoc hm
theorem Steps.nodup (h : Steps rs o) : o.Nodup := by
  rw [List.nodup_iff_pairwise_ne, List.pairwise_iff_getElem]
  intro i j hi hj hij e
  have := (mem_may.mp (h j _ (List.getElem?_eq_getElem hj))).1
  exact this (List.mem_of_getElem? (i := i) (by rw [List.getElem?_take, if_pos hij, List.getElem?_eq_getElem hi, e]))
theorem Steps.run (h : Steps rs o) : ∀ (k : Nat), Run rs [] [] (o.take k)
  | 0 => .refl _
  | k + 1 => by
    cases e : o[k]? with
    | none =>
      have hk := List.getElem?_eq_none_iff.mp e
      rw [List.take_of_length_le (by omega), ← List.take_of_length_le (i := k) hk]
      exact h.run k
    | some x =>
      rw [GS.take_get e]
      exact .step (h.run k) (h k x e) (by simp)
theorem Steps.mem (h : Steps rs o) (hx : x ∈ o) : ∃ ws, (x, ws) ∈ rs := by
  obtain ⟨i, hi⟩ := List.mem_iff_getElem?.mp hx
  obtain ⟨_, ws, q, _⟩ := mem_may.mp (h i x hi)
  exact ⟨ws, q⟩
end
/-! ### lots as numbers -/
def nbv : List Str → (Str → Bool) → Nat
  | [], _ => 0
  | x :: ns, p => (if p x = true then 1 else 0) + 2 * nbv ns p
def bitAt (ns : List Str) (p : Str → Bool) (i : Nat) : Bool := match ns[i]? with | some x => p x | none => false
theorem nbv_bit : ∀ {ns : List Str} {p : Str → Bool} {i : Nat}, (nbv ns p).testBit i = bitAt ns p i
  | [], p, i => by simp [nbv, bitAt]
  | x :: ns, p, 0 => by
    show ((if p x = true then 1 else 0) + 2 * nbv ns p).testBit 0 = p x
    rw [Nat.testBit_zero]
    cases h : p x
    · simp
    · have : (1 + 2 * nbv ns p) % 2 = 1 := by omega
      simp [this]
  | x :: ns, p, i + 1 => by
    show ((if p x = true then 1 else 0) + 2 * nbv ns p).testBit (i + 1) = bitAt ns p i
    rw [Nat.testBit_succ, show ((if p x = true then 1 else 0) + 2 * nbv ns p) / 2 = nbv ns p from by split <;> omega, nbv_bit]
theorem nbv_lt : ∀ {ns : List Str} {p : Str → Bool}, nbv ns p < 2 ^ ns.length
  | [], p => by simp [nbv]
  | x :: ns, p => by
    have := nbv_lt (ns := ns) (p := p)
    show (if p x = true then 1 else 0) + 2 * nbv ns p < 2 ^ (ns.length + 1)
    rw [Nat.pow_succ]
    split <;> omega
theorem nbv_congr {ns : List Str} {p q : Str → Bool} (h : ∀ x ∈ ns, p x = q x) : nbv ns p = nbv ns q := by
  induction ns with
  | nil => rfl
  | cons x ns ih =>
    show (if p x = true then 1 else 0) + 2 * nbv ns p = (if q x = true then 1 else 0) + 2 * nbv ns q
    rw [h x (by simp), ih fun y hy => h y (by simp [hy])]
theorem nbv_ext {ns : List Str} {p q : Str → Bool} : nbv ns p = nbv ns q ↔ ∀ x ∈ ns, p x = q x := by
  refine ⟨fun e x hx => ?_, nbv_congr⟩
  obtain ⟨i, hi⟩ := List.mem_iff_getElem?.mp hx
  have h1 := nbv_bit (ns := ns) (p := p) (i := i)
  have h2 := nbv_bit (ns := ns) (p := q) (i := i)
  rw [e, h2] at h1
  unfold bitAt at h1
  rw [hi] at h1
  exact h1.symm
theorem nbv_and {ns : List Str} {p q : Str → Bool} : nbv ns p &&& nbv ns q = nbv ns fun x => p x && q x := Nat.eq_of_testBit_eq fun i => by
  rw [Nat.testBit_and, nbv_bit, nbv_bit, nbv_bit]; unfold bitAt; cases ns[i]? <;> rfl
theorem nbv_or {ns : List Str} {p q : Str → Bool} : nbv ns p ||| nbv ns q = nbv ns fun x => p x || q x := Nat.eq_of_testBit_eq fun i => by
  rw [Nat.testBit_or, nbv_bit, nbv_bit, nbv_bit]; unfold bitAt; cases ns[i]? <;> rfl
theorem nbv_none : ∀ {ns : List Str}, nbv ns (fun _ => false) = 0
  | [] => rfl
  | x :: ns => by
    show (if false = true then 1 else 0) + 2 * nbv ns (fun _ => false) = 0
    rw [nbv_none]; rfl
theorem nbv_zero {ns : List Str} {p : Str → Bool} : nbv ns p = 0 ↔ ∀ x ∈ ns, p x = false := by
  rw [← nbv_none (ns := ns), nbv_ext]
/-- the number of some of ns -/
def bo (ns o : List Str) : Nat := nbv ns fun x => decide (x ∈ o)
theorem bo_nil {ns : List Str} : bo ns [] = 0 := nbv_zero.mpr fun x _ => by simp
theorem bo_lt {ns o : List Str} : bo ns o < 2 ^ ns.length := nbv_lt
theorem bo_ext {ns o q : List Str} : bo ns o = bo ns q ↔ ∀ x ∈ ns, x ∈ o ↔ x ∈ q := by
  unfold bo
  rw [nbv_ext]
  exact ⟨fun h x hx => by simpa using h x hx, fun h x hx => by simpa using h x hx⟩
theorem bo_cons : ∀ {ns S : List Str} {x : Str}, ns.Nodup → x ∈ ns → x ∉ S → bo ns (x :: S) = 2 ^ ns.idxOf x + bo ns S
  | y :: ns, S, x, nd, hx, hS => by
    obtain ⟨n1, n2⟩ := List.nodup_cons.mp nd
    show (if decide (y ∈ x :: S) = true then 1 else 0) + 2 * nbv ns (fun z => decide (z ∈ x :: S)) = 2 ^ (y :: ns).idxOf x + ((if decide (y ∈ S) = true then 1 else 0) + 2 * nbv ns (fun z => decide (z ∈ S)))
    by_cases e : y = x
    · subst e
      rw [nbv_congr (p := fun z => decide (z ∈ y :: S)) (q := fun z => decide (z ∈ S)) fun z hz => by
        have : z ≠ y := fun e => n1 (e ▸ hz)
        simp [this]]
      simp [hS]
    · have hx' : x ∈ ns := by
        rcases List.mem_cons.mp hx with h | h
        · exact absurd h.symm e
        · exact h
      have ih := bo_cons n2 hx' hS
      unfold bo at ih
      have : (decide (y ∈ x :: S)) = decide (y ∈ S) := by simp [e]
      rw [ih, this, List.idxOf_cons, show (y == x) = false from beq_eq_false_iff_ne.mpr e]
      show _ = 2 ^ (List.idxOf x ns + 1) + _
      rw [Nat.pow_succ]
      omega
theorem bo_sum {ns : List Str} (nd : ns.Nodup) : ∀ {S : List Str}, S.Nodup → (∀ x ∈ S, x ∈ ns) → (S.map fun x => 2 ^ ns.idxOf x).sum = bo ns S
  | [], _, _ => bo_nil.symm
  | x :: S, n, h => by
    obtain ⟨n1, n2⟩ := List.nodup_cons.mp n
    rw [List.map_cons, List.sum_cons, bo_sum nd n2 fun y hy => h y (by simp [hy]), bo_cons nd (h x (by simp)) n1]
/-- how many bits a small number has -/
def pc (g : Nat) : Nat := ((List.range 7).filter fun i => g.testBit i).length
theorem few_pc : ∀ n < 20, ((List.range 128).filter fun g => decide (pc g = n)).length ≤ 35 := by decide +kernel
theorem pc_bo {ns o : List Str} (nd : ns.Nodup) (l : ns.length ≤ 7) (no : o.Nodup) (sub : ∀ x ∈ o, x ∈ ns) : pc (bo ns o) = o.length := by
  have e : ∀ i, i ∈ (List.range 7).filter (fun i => (bo ns o).testBit i) ↔ i ∈ o.map fun x => ns.idxOf x := fun i => by
    rw [List.mem_filter, List.mem_map]
    unfold bo
    rw [nbv_bit]
    unfold bitAt
    constructor
    · rintro ⟨_, h⟩
      cases hi : ns[i]? with
      | none => rw [hi] at h; cases h
      | some x =>
        rw [hi] at h
        refine ⟨x, by simpa using h, ?_⟩
        obtain ⟨lt, e⟩ := List.getElem?_eq_some_iff.mp hi
        rw [← e]
        exact List.Nodup.idxOf_getElem nd i lt
    · rintro ⟨x, hx, rfl⟩
      have lt := List.idxOf_lt_length_of_mem (sub x hx)
      refine ⟨by simp; omega, ?_⟩
      rw [List.getElem?_eq_getElem lt, List.getElem_idxOf lt]
      simpa using hx
  have n1 : ((List.range 7).filter (fun i => (bo ns o).testBit i)).Nodup := List.nodup_range.filter _
  have n2 : (o.map fun x => ns.idxOf x).Nodup := by
    refine List.pairwise_map.mpr (no.imp_of_mem fun {x y} hx hy ne e => ne ?_)
    have lx := List.idxOf_lt_length_of_mem (sub x hx)
    have ly := List.idxOf_lt_length_of_mem (sub y hy)
    rw [← List.getElem_idxOf lx, ← List.getElem_idxOf ly]
    simp only [e]
  have p := (List.perm_ext_iff_of_nodup n1 n2).mpr e
  unfold pc
  rw [p.length_eq, List.length_map]
/-! ### lots that can be gone, as numbers -/
theorem may_ext {os : List Rl} {g h : List Str} (e : ∀ x, x ∈ g ↔ x ∈ h) {x : Str} : x ∈ mayS os g ↔ x ∈ mayS os h := by
  rw [mem_may, mem_may, e x]
  exact and_congr_right fun _ => ⟨fun ⟨ws, h1, h2⟩ => ⟨ws, h1, fun w hw => (e w).mp (h2 w hw)⟩, fun ⟨ws, h1, h2⟩ => ⟨ws, h1, fun w hw => (e w).mpr (h2 w hw)⟩⟩
theorem Steps.init {os : List Rl} {o : List Str} {x : Str} (h : Steps os (o ++ [x])) : Steps os o ∧ x ∈ mayS os o := by
  refine ⟨by simpa using h.take o.length, ?_⟩
  have := h o.length x (by simp)
  simpa using this
/-- a room with few names, all of them known -/
structure Few (os : List Rl) (ns : List Str) : Prop where
  a : GS.Asc ns
  m : ∀ r ∈ os, ∀ w ∈ r.1 :: r.2, w ∈ ns
  s : ns.length ≤ 7
  l : os.length ≤ 63
  f : ∀ r ∈ os, r.2.length ≤ 14 ∧ r.2.Nodup
section
variable {os : List Rl} {ns : List Str}
theorem Few.nd (h : Few os ns) : ns.Nodup := GS.Asc.nodup h.a
theorem Few.sub (h : Few os ns) {o : List Str} (st : Steps os o) : ∀ x ∈ o, x ∈ ns := fun x hx => by
  obtain ⟨ws, hw⟩ := st.mem hx
  exact h.m _ hw x (by simp)
theorem Few.len (h : Few os ns) {o : List Str} (st : Steps os o) : o.length ≤ ns.length := nodup_len st.nodup (h.sub st)
theorem Few.pcs (h : Few os ns) {o : List Str} (st : Steps os o) : pc (bo ns o) = o.length := pc_bo h.nd h.s st.nodup (h.sub st)
theorem Few.same (h : Few os ns) {o q : List Str} (st : Steps os o) (sq : Steps os q) (e : bo ns o = bo ns q) : ∀ x, x ∈ o ↔ x ∈ q := fun x =>
  ⟨fun hx => ((bo_ext.mp e) x (h.sub st x hx)).mp hx, fun hx => ((bo_ext.mp e) x (h.sub sq x hx)).mpr hx⟩
/-- g is the number of a lot of n who can be gone -/
def LotN (os : List Rl) (ns : List Str) (n g : Nat) : Prop := ∃ o, Steps os o ∧ o.length = n ∧ bo ns o = g
/-- l is one more than g -/
def AftN (os : List Rl) (ns : List Str) (g l : Nat) : Prop := ∃ o x, Steps os (o ++ [x]) ∧ bo ns o = g ∧ bo ns (o ++ [x]) = l
theorem Few.aft (h : Few os ns) {o : List Str} (st : Steps os o) {l : Nat} : AftN os ns (bo ns o) l ↔ ∃ x ∈ mayS os o, bo ns (o ++ [x]) = l := by
  constructor
  · rintro ⟨q, x, sq, e, rfl⟩
    obtain ⟨s1, m1⟩ := sq.init
    have same := h.same s1 st e
    refine ⟨x, (may_ext same).mp m1, bo_ext.mpr fun y _ => ?_⟩
    rw [List.mem_append, List.mem_append, same]
  · rintro ⟨x, hx, rfl⟩
    exact ⟨o, x, st.snoc hx, rfl, rfl⟩
theorem Few.next (h : Few os ns) {n l : Nat} : LotN os ns (n + 1) l ↔ ∃ g, LotN os ns n g ∧ AftN os ns g l := by
  constructor
  · rintro ⟨o, st, hl, rfl⟩
    rcases List.eq_nil_or_concat o with e | ⟨p, x, e⟩
    · rw [e] at hl; cases hl
    · have e : o = p ++ [x] := by simpa using e
      subst e
      exact ⟨_, ⟨p, st.init.1, by simpa using hl, rfl⟩, p, x, st, rfl, rfl⟩
  · rintro ⟨g, ⟨o, st, hl, rfl⟩, q, x, sq, e, rfl⟩
    have := h.pcs st
    have := h.pcs sq.init.1
    rw [e] at this
    exact ⟨q ++ [x], sq, by simp; omega, rfl⟩
theorem bo_snoc {o : List Str} {x : Str} : bo ns o ||| bo ns [x] = bo ns (o ++ [x]) := by
  unfold bo
  rw [nbv_or]
  exact nbv_congr fun y _ => by simp
theorem bo_has {o : List Str} {x : Str} (hx : x ∈ ns) : (bo ns o &&& bo ns [x] = 0) ↔ x ∉ o := by
  unfold bo
  rw [nbv_and, nbv_zero]
  exact ⟨fun h c => by have := h x hx; simp [c] at this, fun h y _ => by
    by_cases e : y = x
    · subst e; simp [h]
    · simp [e]⟩
theorem bo_in {o ws : List Str} (hw : ∀ w ∈ ws, w ∈ ns) : (bo ns o &&& bo ns ws = bo ns ws) ↔ ∀ w ∈ ws, w ∈ o := by
  unfold bo
  rw [nbv_and, nbv_ext]
  exact ⟨fun h w hx => by have := h w (hw w hx); simpa [hx] using this, fun h y _ => by
    by_cases e : y ∈ ws
    · simp [e, h y e]
    · simp [e]⟩
/-- what a level may hold -/
theorem Few.level (h : Few os ns) {n : Nat} {lev : List Nat} (nd : lev.Nodup) (m : ∀ g ∈ lev, LotN os ns n g) : lev.length ≤ 35 := by
  by_cases hn : n < 20
  · refine Nat.le_trans ?_ (few_pc n hn)
    have sub : ∀ g ∈ lev, g ∈ (List.range 128).filter fun g => decide (pc g = n) := fun g hg => by
      obtain ⟨o, st, hl, rfl⟩ := m g hg
      have lt : bo ns o < 2 ^ 7 := Nat.lt_of_lt_of_le bo_lt (Nat.pow_le_pow_right (by decide) h.s)
      rw [List.mem_filter, List.mem_range]
      exact ⟨lt, by rw [h.pcs st]; simpa using hl⟩
    exact nd.length_le_of_subset sub
  · cases lev with
    | nil => simp
    | cons g _ =>
      obtain ⟨o, st, hl, _⟩ := m g (by simp)
      have := h.len st
      have := h.s
      omega
end
/-- the levels below n, one behind the other, each lot with those that are one more -/
structure Aft (os : List Rl) (ns : List Str) (n : Nat) (kvs : List (Nat × List Nat)) : Prop where
  key : ∀ g, g ∈ kvs.map (·.1) ↔ ∃ k < n, LotN os ns k g
  nd : (kvs.map (·.1)).Nodup
  val : ∀ g ls, (g, ls) ∈ kvs → ls.Pairwise (· < ·) ∧ ∀ l, l ∈ ls ↔ AftN os ns g l
  ord : kvs.Pairwise fun a b => pc a.1 ≤ pc b.1
theorem Aft.nil {os : List Rl} {ns : List Str} : Aft os ns 0 [] := ⟨fun g => by simp, by simp, by simp, .nil⟩
/-! ### rooms with their names as a bare tuple -/
def roomF (os : List Rl) (ns : List Str) : D := .obj 1 [.tup (os.map ruleO), .tupF (ns.map .str)]
theorem roomF_wk {Z : Wd} {M : Hp} {v : V} {os : List Rl} {ns : List Str} (h : At Z M v (roomF os ns)) : At Z M v (roomD os ns) := by
  unfold roomF at h
  cases h with
  | obj k l l2 al =>
    refine .obj k l l2 fun i u d hu hd => ?_
    rcases i with _ | _ | i
    · cases hd; exact al 0 u _ hu rfl
    · cases hd; exact At.wk (al 1 u (.tupF (ns.map .str)) hu rfl)
    · cases hd
theorem xe_wkR {Z : Wd} {δ : List S} {te : TE} {Φ : D → List S → Prop} (h : XE Z te δ fun d δ1 => ∃ os ns, d = roomF os ns ∧ Φ (roomD os ns) δ1) : XE Z te δ Φ := XE.mk fun B W M H σ Q I q =>
  h.run I fun M1 H1 δ1 x a h1 e1 I1 at1 => by
    obtain ⟨os, ns, rfl, f⟩ := h1
    exact q M1 H1 δ1 _ _ f e1 I1 (roomF_wk at1)
theorem sum_cast : ∀ (l : List Nat), (l.map fun n : Nat => (n : Int)).sum = ((l.sum : Nat) : Int)
  | [] => rfl
  | n :: l => by rw [List.map_cons, List.sum_cons, List.sum_cons, sum_cast l, Int.natCast_add]
/-! ### bits of lots -/
def F_bits_of : FR := fun ds Φ => ∃ (ns S : List Str) (d : D), ds = [.tupF (ns.map .str), d] ∧ (d = .lst (S.map .str) ∨ d = .tup (S.map .str)) ∧ ns.Nodup ∧ S.Nodup ∧ (∀ x ∈ S, x ∈ ns) ∧ ns.length ≤ 1000 ∧ S.length ≤ 1000 ∧ Φ (.d (.int (bo ns S)))
theorem ok_bits_of (T : Txt K mg a) : FnOk P w K mg base CX0 1 a.f_bits_of a.fd_bits_of ["names", "some"] (spR (ZZ K a) F_bits_of) := by
  refine T.F_bits_of.ok sc_bits_of (fun vs H Q E h => ?_) (fun cdv A outer s H vs Q E hr h => ?_)
  · obtain ⟨M, ds, Φ, _, al, ⟨ns, S, d, rfl, _⟩, _⟩ := h
    exact al.len
  · obtain ⟨M, ds, Φ, ex, al, ⟨ns, S, d, rfl, hd, nn, nS, sub, l1, l2, fin⟩, q⟩ := h
    refine ⟨_, (pss_one (ps_ret (pe_callB (cr_sum rfl) (by rfl) T.n_sum (by decide +kernel) (pa_cons (pe_lc (own := [("name", 2)]) (g := (gName 2)) (tt := tYes) rfl sc_bits_of.nd (G.pi_or (pi_list (pv 1)) (pi_tupK (K := K) rfl (pv 1))) (blkOk_by (N := N_bits_of) (sc := defScope s_bits_of) (by decide +kernel)) (fun _ _ _ _ _ => (pg_name (i := 2) sc_bits_of.nd rfl (Or.inl rfl))) (fun _ _ _ _ _ => pts_nil) (fun _ _ _ _ _ => (pe_op op_oneShl pe_int (GX.pe_tupIx (K := K) rfl (pv 0) (pa_cons (pv 2) pa_nil))))) pa_nil)))), entR (n := 1) ex al rfl q ?_⟩
    walk_at "ent"
    refine xs_ret <| xe_sum <| xe_ofO <| xo_fg (v := 2) (g := fun x : Str => .str x) (f := fun x : Str => .int (2 ^ ns.idxOf x)) (p := fun _ => true) <| xi_seqV rfl hd ⟨S, rfl, rfl, by omega, fun x hx => ?_, _, rfl, S.map fun x => 2 ^ ns.idxOf x, ?_, ?_⟩
    · try dsimp only [List.set]
      have lt := List.idxOf_lt_length_of_mem (sub x hx)
      refine xt_yes ⟨rfl, rfl, fun _ => xe_oneShl <| xe_int ⟨rfl, xe_tupIx <| xe_var rfl ⟨ns, rfl, xe_var rfl ⟨_, rfl, sub x hx, ns.idxOf x, rfl, by omega, rfl, rfl⟩⟩⟩⟩
    · rw [show S.filter (fun _ => true) = S from List.filter_eq_self.mpr fun _ _ => rfl]
      simp [Function.comp_def]
    · have e : (S.map fun x => (2 : Int) ^ ns.idxOf x).sum = ((bo ns S : Nat) : Int) := by
        rw [← bo_sum nn nS sub, ← sum_cast, List.map_map]
        exact congrArg List.sum (List.map_congr_left fun x _ => by simp)
      rw [e]
      exact fin
def F_Room_initF : FB := fun y ds Φ => ∃ (rs : List (Str × List Str)), y = .ins 1 [] ∧ (ds = [.lst (rs.map ruleO)] ∨ ds = [.tup (rs.map ruleO)]) ∧ rs.length ≤ 200 ∧ (∀ r ∈ rs, r.2.length ≤ 14) ∧ ∀ ns, GS.IsLot ns (wantAll rs) → Φ (.d .non) (.ins 1 [("rules", .tup (rs.map ruleO)), ("names", .tupF (ns.map .str))])
theorem ok_Room_initF (T : Txt K mg a) (G_is_sequence : FnOk P w K mg base CX0 1 a.f_is_sequence a.fd_is_sequence ["value"] (spR (ZZ K a) F_is_sequence)) (G_lot_of : FnOk P w K mg base CX0 1 a.f_lot_of a.fd_lot_of ["names"] (spR (ZZ K a) F_lot_ofF)) : FnOk P w K mg base CX0 2 a.f_Room_init a.fd_Room_init ["self", "rules"] (spB (ZZ K a) F_Room_initF) := by
  refine T.F_Room_init.ok sc_Room_init (fun vs H Q E h => ?_) (fun cdv A outer s H vs Q E hr h => ?_)
  · obtain ⟨M, p, ws', ho, y, ds, Φ, rfl, _, _, _, _, al, ⟨rs, rfl, hd, _⟩, _⟩ := h
    rcases hd with rfl | rfl <;> simp [al.len]
  · obtain ⟨M, p, ws', ho, y, ds, Φ, rfl, hp, hm, hy, ex, al, ⟨rs, rfl, hd, hl, hrs, fin⟩, q⟩ := h
    obtain ⟨d, rfl, hd2⟩ : ∃ d, ds = [d] ∧ (d = .lst (rs.map ruleO) ∨ d = .tup (rs.map ruleO)) := by
      rcases hd with rfl | rfl
      · exact ⟨_, rfl, .inl rfl⟩
      · exact ⟨_, rfl, .inr rfl⟩
    clear hd
    refine ⟨_, PSs.nox ((pss_cons (ps_if (pt_not (pt_val (pe_call G_is_sequence (hr.mono (by decide)) (by rfl) T.m_is_sequence T.F_is_sequence.kp T.b_is_sequence .nil pass0 (pa_cons (pv 1) pa_nil)))) (pss_one ps_never) pss_nil)
      (pss_cons (ps_for PassesOwn.never rfl (G.pi_or (pi_enum (by rfl) T.n_enumerate (pa_cons (pv 1) pa_nil)) (GE.pi_enumT (by rfl) T.n_enumerate (pa_cons (pv 1) pa_nil))) (pg_tup rfl (pgs_cons (pg_name (i := 2) sc_Room_init.nd rfl (Or.inl rfl)) (pgs_cons (pg_name (i := 3) sc_Room_init.nd rfl (Or.inl rfl)) pgs_nil)))
      (pss_one (ps_if (pt_not (pt_val (pe_callB (C8.call_isC T.isC_Rule) (by rfl) T.n_isinstance (by decide +kernel) (pa_cons (pv 3) (pa_cons (pe_glob (v := .ref a.C_Rule) rfl T.m_Rule rfl) pa_nil))))) (pss_one ps_never) pss_nil)))
      (pss_cons (ps_fld (pv 0) (pe_callTy call_tuple_of (by rfl) T.n_tuple (by decide +kernel) (pa_cons (pv 1) pa_nil)) rfl)
      (pss_one (ps_fld (pv 0) (pe_call G_lot_of (hr.mono (by decide)) (by rfl) T.m_lot_of T.F_lot_of.kp T.b_lot_of .nil pass0 (pa_cons (pe_lc2 (own := [("rule", 3), ("name", 4)]) (vs1 := [4]) (g := (gName 3)) (g1 := (gName 4)) (tt := tYes) (tt1 := tYes) rfl sc_Room_init.nd (G.pi_or (pi_list (pv 1)) (pi_tupK (K := K) rfl (pv 1))) (blkOk_by (N := N_Room_init) (sc := defScope s_Room_init) (by decide +kernel)) (by decide) (fun _ _ _ _ _ => (pg_name (i := 3) sc_Room_init.nd rfl (Or.inl rfl))) (fun _ _ _ _ _ => pts_nil) (fun _ _ _ _ _ => (pi_tupK (K := K) rfl (pe_tup (pa_cons (pe_fldK (K := K) rfl (pv 3) rfl) (pa_starK (K := K) rfl (pe_fldK (K := K) rfl (pv 3) rfl) pa_nil))))) (fun _ _ _ _ _ => (pg_name (i := 4) sc_Room_init.nd rfl (Or.inl rfl))) (fun _ _ _ _ _ => pts_nil) (fun _ _ _ _ _ => (pv 4))) pa_nil)) rfl)))))), entB (n := 3) hp hm hy ex al rfl q ?_⟩
    walk_at "ent"
    walk_at "xs"
    refine xr_call (fun _ => .nil) ?_
    walk_at "xs"
    refine ⟨(by rcases hd2 with rfl | rfl <;> exact ⟨_, rfl⟩), on_d ⟨_, rfl, ?_⟩⟩
    rw [show (seqOf d).isSome = true by rcases hd2 with rfl | rfl <;> rfl]
    walk_at "xs"
    refine xs_for (vs := [2, 3]) (xi_enumV rfl hd2 ?_)
    refine ⟨fun i δ => ∃ s2 s3 : S, δ = [.own (.ins 1 []), .d d, s2, s3, .no], ⟨_, _, rfl⟩, ?_, ?_⟩
    · rintro i x δ1 hi ⟨s2, s3, rfl⟩
      obtain ⟨x, hx, rfl⟩ := enumD_at hi
      obtain ⟨r, hr, rfl⟩ : ∃ r, rs[i]? = some r ∧ ruleO r = x := by simpa using hx
      refine xg_tup (by rfl) (xgs_cons (xg_name (by decide) (by decide) (xgs_cons (xg_name (by decide) (by decide) (xgs_nil ?_)))))
      walk_at "xs"
      exact ⟨_, _, rfl⟩
    · rintro δ1 ⟨s2, s3, rfl⟩
      walk_at "xs"
      refine xs_forget (i := 3) (by decide) ?_
      walk_at "xs"
      refine xs_fldO (c := 1) T.cl_Room T.no_Room_rules (xe_tuple (xe_var rfl ⟨_, hd2, [], rfl, by decide, ?_⟩))
      walk_at "xs"
      refine xs_fldO (c := 1) T.cl_Room T.no_Room_names ?_
      refine xr_call (fun _ => .nil) ?_
      walk_at "xs"
      refine xe_ofO (xo_lc2 (xi_seqV rfl hd2 ?_))
      refine ⟨fun v hv => by simp at hv; rcases hv with rfl | rfl <;> rfl, by simp, by simp; omega, fun i acc δ => δ = [.own (.ins 1 (putD "rules" (.tup (rs.map ruleO)) [])), .d d, s2, .no, .no] ∧ acc = (wantAll (rs.take i)).map .str, ⟨rfl, rfl⟩, ?_, ?_⟩
      · rintro i x acc δ1 bs hb hx ⟨rfl, rfl⟩
        obtain ⟨r, hr, rfl⟩ : ∃ r, rs[i]? = some r ∧ ruleO r = x := by simpa using hx
        have hrl := hrs r (List.mem_of_getElem? hr)
        refine xg_name (by decide) (hb 3 (by decide)) ?_
        refine xt_yes (if_tt (xi_tup (xe_tup (xa_cons (xe_rname T (xe_var rfl ⟨_, _, rfl, xa_star (xe_rgone T (xe_var rfl ⟨_, _, rfl, _, .inr rfl, xa_nil ?_⟩))⟩))))))
        refine ⟨by simp; omega, _, rfl, by simp; omega, fun v hv => by simp at hv; subst hv; rfl, fun j acc δ => δ = [.own (.ins 1 (putD "rules" (.tup (rs.map ruleO)) [])), .d d, s2, .d (ruleO r), .no] ∧ acc = (wantAll (rs.take i) ++ (r.1 :: r.2).take j).map .str, ⟨rfl, by simp⟩, ?_, ?_⟩
        · rintro j e acc δ5 bs hb he ⟨rfl, rfl⟩
          obtain ⟨w, hw, rfl⟩ : ∃ w, (r.1 :: r.2)[j]? = some w ∧ D.str w = e := by
            have : (D.str r.1 :: (r.2.map .str ++ [])) = (r.1 :: r.2).map .str := by simp
            rw [this, List.getElem?_map] at he
            exact Option.map_eq_some_iff.mp he
          refine xg_name (by decide) (hb 4 (by decide)) ?_
          refine xt_yes (if_tt (xe_var rfl ⟨rfl, ?_⟩))
          rw [GS.take_get hw]
          simp
        · rintro acc δ5 ⟨rfl, rfl⟩
          refine ⟨rfl, ?_⟩
          have e : ∀ n, n = r.2.length + 1 → (r.1 :: r.2).take n = r.1 :: r.2 := fun n h => List.take_of_length_le (by simp [h])
          rw [GS.take_get hr, wantAll, wantAll, List.flatMap_append, e _ (by simp)]
          simp
      · rintro acc δ1 ⟨rfl, rfl⟩
        rw [List.length_map, List.take_length]
        refine ⟨_, rfl, xa_nil ?_⟩
        have hz := wantAll_len hrs
        refine ⟨wantAll rs, .inr rfl, by omega, fun ys hy _ => ?_⟩
        exact ⟨_, rfl, (show (0 : Nat) + 1 < 1000 by decide), _, rfl, fin _ hy⟩
/-! ### who can be gone after whom -/
theorem band (a b : Nat) : PySem.Builtin.bitAnd (a : Int) (b : Int) = ((a &&& b : Nat) : Int) := PySem.W.os_band a b
theorem bor (a b : Nat) : PySem.Builtin.bitOr (a : Int) (b : Int) = ((a ||| b : Nat) : Int) := by
  rw [bitOr_nn (Int.natCast_nonneg a) (Int.natCast_nonneg b), Int.toNat_natCast, Int.toNat_natCast]
def intL (l : List Nat) : List D := l.map fun n : Nat => .int n
def dicE (kv : Nat × List Nat) : Key × D := (.inl kv.1, .lst (intL kv.2))
theorem dget_none {g : Nat} {kvs : List (Nat × List Nat)} (h : g ∉ kvs.map (·.1)) : dget (kvs.map dicE) (.inl g) = none := by
  unfold dget
  rw [List.find?_eq_none.mpr]
  · rfl
  · intro kv hkv
    obtain ⟨e, he, rfl⟩ := List.mem_map.mp hkv
    have : e.1 ≠ g := fun z => h (List.mem_map.mpr ⟨e, he, z⟩)
    simp [dicE]; omega
theorem dget_some {g : Nat} {ls : List Nat} : ∀ {kvs : List (Nat × List Nat)}, (kvs.map (·.1)).Nodup → (g, ls) ∈ kvs → dget (kvs.map dicE) (.inl g) = some (.lst (intL ls))
  | (h, ms) :: kvs, nd, hm => by
    obtain ⟨n1, n2⟩ := List.nodup_cons.mp nd
    rcases List.mem_cons.mp hm with e | hm
    · cases e; simp [dget, dicE]
    · have : h ≠ g := fun z => n1 (List.mem_map.mpr ⟨_, hm, z.symm⟩)
      have ih := dget_some n2 hm
      unfold dget at ih ⊢
      rw [List.map_cons, List.find?_cons_of_neg]
      · exact ih
      · simp [dicE]; omega
theorem nat_of_ints {ms : List Int} (h : ∀ k ∈ ms, ∃ n : Nat, (n : Int) = k) (asc : ms.Pairwise (· < ·)) : ∃ ls : List Nat, ms = ls.map (fun n : Nat => (n : Int)) ∧ ls.Pairwise (· < ·) := by
  have e : ms = (ms.map Int.toNat).map (fun n : Nat => (n : Int)) := by
    rw [List.map_map]
    refine (List.map_id ms).symm.trans (List.map_congr_left fun k hk => ?_)
    obtain ⟨n, rfl⟩ := h k hk
    simp
  refine ⟨ms.map Int.toNat, e, ?_⟩
  rw [e] at asc
  exact (List.pairwise_map.mp asc).imp fun h => by omega
theorem int_in {l : Nat} {ls : List Nat} : l ∈ ls ↔ (l : Int) ∈ ls.map fun n : Nat => (n : Int) := by
  rw [List.mem_map]
  exact ⟨fun h => ⟨l, h, rfl⟩, fun ⟨k, h, e⟩ => by rwa [show l = k by omega]⟩
theorem intL_of (ls : List Nat) : (ls.map (fun n : Nat => (n : Int))).map D.int = intL ls := by rw [List.map_map]; rfl
theorem Aft.top {os : List Rl} {ns : List Str} {n m : Nat} {kvs : List (Nat × List Nat)} (f : Few os ns) (h : Aft os ns n kvs) (no : ∀ g, ¬ LotN os ns n g) (l : n ≤ m) : Aft os ns m kvs := by
  have none' : ∀ k, n ≤ k → ∀ g, ¬ LotN os ns k g := fun k => by
    induction k with
    | zero => intro hk g; obtain rfl : n = 0 := by omega
              exact no g
    | succ k ih =>
      intro hk g c
      rcases Nat.eq_or_lt_of_le hk with e | e
      · rw [← e] at c; exact no g c
      · obtain ⟨g', c', _⟩ := f.next.mp c
        exact ih (by omega) g' c'
  exact ⟨fun g => (h.key g).trans ⟨fun ⟨k, hk, c⟩ => ⟨k, by omega, c⟩, fun ⟨k, hk, c⟩ => ⟨k, by
    rcases Nat.lt_or_ge k n with z | z
    · exact z
    · exact absurd c (none' k z g), c⟩⟩, h.nd, h.val, h.ord⟩
theorem Aft.more {os : List Rl} {ns : List Str} {n : Nat} {kvs kv2 : List (Nat × List Nat)} {lev : List Nat} (f : Few os ns) (h : Aft os ns n kvs) (nd : lev.Nodup) (mem : ∀ g, g ∈ lev ↔ LotN os ns n g) (k2 : kv2.map (·.1) = lev) (v2 : ∀ g ls, (g, ls) ∈ kv2 → ls.Pairwise (· < ·) ∧ ∀ l, l ∈ ls ↔ AftN os ns g l) : Aft os ns (n + 1) (kvs ++ kv2) := by
  have size : ∀ {k g}, LotN os ns k g → pc g = k := fun {k g} ⟨o, st, hl, e⟩ => by rw [← e, f.pcs st, hl]
  refine ⟨fun g => ?_, ?_, fun g ls hg => ?_, ?_⟩
  · rw [List.map_append, List.mem_append, h.key, k2, mem]
    constructor
    · rintro (⟨k, hk, c⟩ | c)
      · exact ⟨k, by omega, c⟩
      · exact ⟨n, by omega, c⟩
    · rintro ⟨k, hk, c⟩
      rcases Nat.lt_or_ge k n with z | z
      · exact .inl ⟨k, z, c⟩
      · obtain rfl : k = n := by omega
        exact .inr c
  · rw [List.map_append, List.nodup_append, k2]
    refine ⟨h.nd, nd, fun x hx y hy e => ?_⟩
    subst e
    obtain ⟨k, hk, c⟩ := (h.key x).mp hx
    have := size c
    have := size ((mem x).mp hy)
    omega
  · rcases List.mem_append.mp hg with z | z
    · exact h.val g ls z
    · exact v2 g ls z
  · have in2 : ∀ b ∈ kv2, pc b.1 = n := fun b hb => size ((mem _).mp (k2 ▸ List.mem_map_of_mem (f := (·.1)) hb))
    refine List.pairwise_append.mpr ⟨h.ord, List.pairwise_of_forall_mem_list fun a ha b hb => by rw [in2 a ha, in2 b hb]; exact Nat.le_refl _, fun a ha b hb => ?_⟩
    obtain ⟨k, hk, c⟩ := (h.key a.1).mp (List.mem_map_of_mem (f := (·.1)) ha)
    rw [size c, in2 b hb]; omega
def F_lots_after : FR := fun ds Φ => ∃ (os : List Rl) (ns : List Str), ds = [roomF os ns] ∧ Few os ns ∧ ∀ kvs, Aft os ns 20 kvs → Φ (.own (.dic (kvs.map dicE)))
theorem ok_lots_after (T : Txt K mg a) (G_bits_of : FnOk P w K mg base CX0 1 a.f_bits_of a.fd_bits_of ["names", "some"] (spR (ZZ K a) F_bits_of)) : FnOk P w K mg base CX0 2 a.f_lots_after a.fd_lots_after ["room"] (spR (ZZ K a) F_lots_after) := by
  refine T.F_lots_after.ok sc_lots_after (fun vs H Q E h => ?_) (fun cdv A outer s H vs Q E hr h => ?_)
  · obtain ⟨M, ds, Φ, _, al, ⟨os, ns, rfl, _⟩, _⟩ := h
    exact al.len
  · obtain ⟨M, ds, Φ, ex, al, ⟨os, ns, rfl, few, fin⟩, q⟩ := h
    refine ⟨_, (pss_cons (ps_setLc (own := [("rule", 5)]) (g := (gName 5)) (tt := tYes) (i := 1) rfl sc_lots_after.nd rfl rfl (sw_true rfl rfl rfl (by decide +kernel)) (pi_tupK (K := K) rfl (pe_fldK (K := K) rfl (pv 0) rfl)) (blkOk_by (N := N_lots_after) (sc := defScope s_lots_after) (by decide +kernel)) (fun _ _ _ _ _ => (pg_name (i := 5) sc_lots_after.nd rfl (Or.inl rfl))) (fun _ _ _ _ _ => pts_nil) (fun _ _ _ _ _ => (pe_tup (pa_cons (pe_call G_bits_of (hr.mono (by decide)) (by rfl) T.m_bits_of T.F_bits_of.kp T.b_bits_of .nil pass0 (pa_cons (pe_fldK (K := K) rfl (pv 0) rfl) (pa_cons (pe_lst (pa_cons (pe_fldK (K := K) rfl (pv 5) rfl) pa_nil)) pa_nil))) (pa_cons (pe_call G_bits_of (hr.mono (by decide)) (by rfl) T.m_bits_of T.F_bits_of.kp T.b_bits_of .nil pass0 (pa_cons (pe_fldK (K := K) rfl (pv 0) rfl) (pa_cons (pe_fldK (K := K) rfl (pv 5) rfl) pa_nil))) pa_nil)))))
      (pss_cons (ps_set (i := 2) sc_lots_after.nd rfl (Or.inr rfl) pe_dnewK)
      (pss_cons (ps_set (i := 3) sc_lots_after.nd rfl (Or.inl rfl) (pe_lst (pa_cons pe_int pa_nil)))
      (pss_cons (ps_while PassesOwn.never (pt_truth (pv 3) (by intro _; rfl)) (pss_cons (ps_for PassesOwn.never rfl (pi_list (pv 3)) (pg_name (i := 4) sc_lots_after.nd rfl (Or.inr rfl))
      (pss_one (ps_dput (units1 hr) (pv 2) (pv 4) (pe_callB (cr_sortedSet rfl) (by rfl) T.n_sorted (by decide +kernel) (pa_cons (GX.pe_set1 (own := [("one", 6), ("wanted", 7)]) (g := (gTup K 2 (gCons (gName 6) (gCons (gName 7) gNil)))) rfl sc_lots_after.nd (pi_list (pv 1)) (blkOk_by (N := N_lots_after) (sc := defScope s_lots_after) (by decide +kernel)) (fun _ _ _ _ _ => (pg_tup rfl (pgs_cons (pg_name (i := 6) sc_lots_after.nd rfl (Or.inl rfl)) (pgs_cons (pg_name (i := 7) sc_lots_after.nd rfl (Or.inl rfl)) pgs_nil)))) (fun _ _ _ _ _ => pts_one (PW.pt (pw_and (pt_not (pt_truthK (K := K) rfl (pe_op op_and (pv 4) (pv 6)) (by intro _; rfl))) (pw_and1 (pt_cmpR op_eq (pe_op op_and (pv 4) (pv 7)) (pv 7) (nomark _)))))) (fun _ _ _ _ _ => (pe_op op_or (pv 4) (pv 6)))) pa_nil)) (by rfl))))
      (pss_one (ps_set (i := 3) sc_lots_after.nd rfl (Or.inl rfl) (pe_callB (cr_sortedSet rfl) (by rfl) T.n_sorted (by decide +kernel) (pa_cons (GX.pe_set2 (own := [("lot", 8), ("bits", 9)]) (vs1 := [9]) (g := (gName 8)) (g1 := (gName 9))  rfl sc_lots_after.nd (pi_list (pv 3)) (blkOk_by (N := N_lots_after) (sc := defScope s_lots_after) (by decide +kernel)) (by decide) (fun _ _ _ _ _ => (pg_name (i := 8) sc_lots_after.nd rfl (Or.inl rfl))) (fun _ _ _ _ _ => (pi_listK (K := K) rfl (pe_dget (units1 hr) (pv 2) (pv 8) (fun _ _ => rfl)))) (fun _ _ _ _ _ => (pg_name (i := 9) sc_lots_after.nd rfl (Or.inl rfl))) (fun _ _ _ _ _ => (pv 9))) pa_nil))))))
      (pss_one (ps_ret (pv 2))))))), entR (n := 9) ex al rfl q ?_⟩
    walk_at "ent"
    have l7 := few.s
    have l42 := few.l
    refine xs_seq <| xs_set (by decide) <| xe_ofO <| xo_fg (v := 5) (g := ruleO) (f := fun r => .tup [.int (bo ns [r.1]), .int (bo ns r.2)]) (p := fun _ => true) <| xi_tup <| xe_mrules T <| xe_var rfl ⟨_, _, rfl, _, rfl, os, rfl, rfl, by omega, fun r hr => ?_, _, rfl, ?_⟩
    · have f := few.f r hr
      have m := few.m r hr
      try dsimp only [List.set]
      refine xt_yes ⟨rfl, rfl, fun _ => xe_tup <| xa_cons <| xr_call (fun _ => .nil) <| xa_cons <| xe_mnames T <| xe_var rfl ⟨_, _, rfl, xa_cons <| xe_ofO <| xo_lst <| xa_cons <| xe_rname T <| xe_var rfl ⟨_, _, rfl, xa_nil ⟨by simp, _, rfl, xa_nil ⟨ns, [r.1], _, rfl, .inl rfl, few.nd, by simp, fun x hx => m x (by rw [List.mem_singleton.mp hx]; simp), by omega, by simp, on_d ?_⟩⟩⟩⟩⟩
      exact xa_cons <| xr_call (fun _ => .nil) <| xa_cons <| xe_mnames T <| xe_var rfl ⟨_, _, rfl, xa_cons <| xe_rgone T <| xe_var rfl ⟨_, _, rfl, xa_nil ⟨ns, r.2, _, rfl, .inr rfl, few.nd, f.2, fun x hx => m x (by simp [hx]), by omega, by omega, on_d <| xa_nil ⟨by simp, rfl, rfl⟩⟩⟩⟩
    rw [show os.filter (fun _ => true) = os from List.filter_eq_self.mpr fun _ _ => rfl]
    try dsimp only [List.set]
    refine xs_seq <| xs_setO (by decide) <| xo_dnew ⟨by simp, ?_⟩
    try dsimp only [List.set]
    refine xs_seq <| xs_set (by decide) <| xe_ofO <| xo_lst <| xa_cons <| xe_int <| xa_nil ⟨by simp, _, rfl, ?_⟩
    try dsimp only [List.set]
    refine xs_seq <| xs_while (fun m δ => ∃ (n : Nat) (lev : List Nat) (kvs : List (Nat × List Nat)) (s4 : S), δ = [.d (roomF os ns), .d (.lst (os.map fun r => .tup [.int (bo ns [r.1]), .int (bo ns r.2)])), .own (.dic (kvs.map dicE)), .d (.lst (intL lev)), s4, .no, .no, .no, .no, .no] ∧ Aft os ns n kvs ∧ lev.Pairwise (· < ·) ∧ (∀ g, g ∈ lev ↔ LotN os ns n g) ∧ m = ns.length + 1 - n ∧ n ≤ 8) ⟨_, 0, [0], [], _, rfl, .nil, by simp, fun g => ?_, rfl, by omega⟩ ?_
    · rw [List.mem_singleton]
      exact ⟨fun e => ⟨[], Steps.nil, rfl, by rw [e]; exact bo_nil⟩, fun ⟨o, _, hl, e⟩ => by rw [List.length_eq_zero_iff.mp hl] at e; rw [← e]; exact bo_nil⟩
    rintro m δ ⟨n, lev, kvs, s4, rfl, ha, asc, mem, rfl, n8⟩
    have nd : lev.Nodup := asc.imp fun h => by omega
    have l35 := few.level nd fun g hg => (mem g).mp hg
    refine xt_truth <| xe_var rfl ⟨nofun, _, rfl, ?_⟩
    by_cases ne : lev = []
    · subst ne
      refine if_ff <| xs_retV (by decide) rfl <| fin kvs (ha.top few (fun g c => by simpa using (mem g).mpr c) (by omega))
    have nlen : n ≤ ns.length := by
      obtain ⟨g, hg⟩ := List.exists_mem_of_ne_nil _ ne
      obtain ⟨o, st, hl, _⟩ := (mem g).mp hg
      have := few.len st
      omega
    rw [show (!(intL lev).isEmpty) = true from by cases lev with | nil => exact absurd rfl ne | cons _ _ => rfl]
    refine if_tt ?_
    refine xs_seq <| xs_for (vs := [4]) <| xi_list <| xe_var rfl ⟨_, .inl rfl, ?_⟩
    refine ⟨fun i δ => ∃ (kv2 : List (Nat × List Nat)) (s4 : S), δ = [.d (roomF os ns), .d (.lst (os.map fun r => .tup [.int (bo ns [r.1]), .int (bo ns r.2)])), .own (.dic ((kvs ++ kv2).map dicE)), .d (.lst (intL lev)), s4, .no, .no, .no, .no, .no] ∧ kv2.map (·.1) = lev.take i ∧ ∀ g ls, (g, ls) ∈ kv2 → ls.Pairwise (· < ·) ∧ ∀ l, l ∈ ls ↔ AftN os ns g l, ⟨[], s4, by simp, by simp, by simp⟩, ?_, ?_⟩
    · rintro i d δ1 hi ⟨kv2, s4, rfl, k2, v2⟩
      obtain ⟨g, hg, rfl⟩ : ∃ g : Nat, lev[i]? = some g ∧ D.int g = d := by simpa [intL] using hi
      have gl := List.mem_of_getElem? hg
      have il := (List.getElem?_eq_some_iff.mp hg).1
      obtain ⟨o, st, hl, eo⟩ := (mem g).mp gl
      refine xg_name (by decide) (by decide) ?_
      try dsimp only [List.set]
      have hit : ∀ r ∈ os, (g &&& bo ns [r.1] = 0 ∧ g &&& bo ns r.2 = bo ns r.2) ↔ r.1 ∉ o ∧ ∀ w ∈ r.2, w ∈ o := fun r hr => by
        rw [← eo, bo_has (few.m r hr r.1 (by simp)), bo_in fun w hw => few.m r hr w (by simp [hw])]
      refine xs_dput <| xe_ofO <| xo_sort1 <| xi_list <| xe_var rfl ⟨_, .inl rfl, fun v hv => by simp at hv; rcases hv with rfl | rfl <;> rfl, by simp; omega, fun t acc δ => δ = [.d (roomF os ns), .d (.lst (os.map fun r => .tup [.int (bo ns [r.1]), .int (bo ns r.2)])), .own (.dic ((kvs ++ kv2).map dicE)), .d (.lst (intL lev)), .d (.int g), .no, .no, .no, .no, .no] ∧ acc.length ≤ t ∧ ∀ k, k ∈ acc ↔ ∃ r ∈ os.take t, (r.1 ∉ o ∧ ∀ w ∈ r.2, w ∈ o) ∧ (((g ||| bo ns [r.1] : Nat) : Int) = k), ⟨rfl, by simp, by simp⟩, ?_, ?_⟩
      · rintro t d acc δ1 bs hb ht ⟨rfl, la, ma⟩
        obtain ⟨r, hr, rfl⟩ : ∃ r, os[t]? = some r ∧ D.tup [.int (bo ns [r.1]), .int (bo ns r.2)] = d := by simpa using ht
        have rm := List.mem_of_getElem? hr
        have tk : os.take (t + 1) = os.take t ++ [r] := GS.take_get hr
        have go : ∀ (b : Bool), (b = true ↔ r.1 ∉ o ∧ ∀ w ∈ r.2, w ∈ o) → ∀ k, k ∈ (if b then acc ++ [((g ||| bo ns [r.1] : Nat) : Int)] else acc) ↔ ∃ r ∈ os.take (t + 1), (r.1 ∉ o ∧ ∀ w ∈ r.2, w ∈ o) ∧ (((g ||| bo ns [r.1] : Nat) : Int) = k) := fun b hb k => by
          rw [tk]
          constructor
          · intro hk
            cases b with
            | true =>
              rcases List.mem_append.mp hk with z | z
              · obtain ⟨r', h1, h2⟩ := (ma k).mp z
                exact ⟨r', by simp [h1], h2⟩
              · exact ⟨r, by simp, hb.mp rfl, (List.mem_singleton.mp z).symm⟩
            | false =>
              obtain ⟨r', h1, h2⟩ := (ma k).mp hk
              exact ⟨r', by simp [h1], h2⟩
          · rintro ⟨r', h1, h2, h3⟩
            rcases List.mem_append.mp h1 with z | z
            · have := (ma k).mpr ⟨r', z, h2, h3⟩
              cases b <;> simp [this]
            · rw [List.mem_singleton.mp z] at h2 h3
              rw [hb.mpr h2]
              simp [h3]
        refine xg_tup (by rfl) (xgs_cons (xg_name (by decide) (hb _ (by decide)) (xgs_cons (xg_name (by decide) (hb _ (by decide)) (xgs_nil ?_)))))
        try dsimp only [List.set]
        refine xt_and <| xt_not <| xt_truth <| xe_I0 <| xe_var rfl <| xe_var rfl ⟨_, _, rfl, rfl, nofun, _, rfl, ?_⟩
        rw [band]
        by_cases c1 : g &&& bo ns [r.1] = 0
        · rw [c1]
          refine if_nf <| xt_test <| xe_eq <| xe_I0 <| xe_var rfl <| xe_var rfl ⟨_, _, rfl, rfl, xe_var rfl ⟨_, _, rfl, rfl, rfl, _, rfl, ?_⟩⟩
          rw [band]
          by_cases c2 : g &&& bo ns r.2 = bo ns r.2
          · rw [c2, decide_eq_true rfl]
            refine if_tt <| xe_I0 <| xe_var rfl <| xe_var rfl ⟨_, _, rfl, rfl, _, rfl, ?_⟩
            rw [bor]
            exact ⟨rfl, by rw [List.length_append, List.length_singleton]; omega, go true ⟨fun _ => (hit r rm).mp ⟨c1, c2⟩, fun _ => rfl⟩⟩
          · rw [decide_eq_false fun e => c2 (by have := V.int.inj e; omega)]
            exact if_ff ⟨rfl, by omega, go false ⟨nofun, fun z => absurd ((hit r rm).mpr z).2 c2⟩⟩
        · rw [show (((g &&& bo ns [r.1] : Nat) : Int) != 0) = true from by simpa using c1]
          exact if_nt <| if_ff ⟨rfl, by omega, go false ⟨nofun, fun z => absurd ((hit r rm).mpr z).1 c1⟩⟩
      · rintro acc δ1 ⟨rfl, la, ma⟩
        rw [List.length_map] at la ma
        rw [List.take_length] at ma
        refine ⟨acc, by omega, fun _ h => h, fun ms msa msm => ?_⟩
        obtain ⟨ls, rfl, lsa⟩ := nat_of_ints (ms := ms) (fun k hk => by
          obtain ⟨r, _, _, e⟩ := (ma k).mp ((msm k).mp hk)
          exact ⟨_, e⟩) msa
        rw [intL_of]
        have lsm : ∀ l, l ∈ ls ↔ AftN os ns g l := fun l => by
          rw [← eo, few.aft st]
          have e1 : l ∈ ls ↔ (l : Int) ∈ ls.map fun n : Nat => (n : Int) := int_in
          rw [e1, msm, ma]
          constructor
          · rintro ⟨r, hr, hc, e⟩
            refine ⟨r.1, mem_may.mpr ⟨hc.1, r.2, hr, hc.2⟩, ?_⟩
            rw [← bo_snoc, eo]; omega
          · rintro ⟨x, hx, e⟩
            obtain ⟨h1, ws, h2, h3⟩ := mem_may.mp hx
            exact ⟨(x, ws), h2, ⟨h1, h3⟩, by rw [← e, ← bo_snoc, eo]⟩
        have gnew : g ∉ (kvs ++ kv2).map (·.1) := fun c => by
          rw [List.map_append, List.mem_append, k2, ha.key] at c
          rcases c with ⟨k, hk, o', st', hl', e'⟩ | c
          · have h1 := few.pcs st
            have h2 := few.pcs st'
            rw [eo] at h1; rw [e'] at h2
            omega
          · obtain ⟨j, hj⟩ := List.mem_iff_getElem?.mp c
            rw [List.getElem?_take] at hj
            split at hj
            · rename_i ji
              have jl := (List.getElem?_eq_some_iff.mp hj).1
              have := (List.pairwise_iff_getElem.mp asc) j i jl il ji
              have e1 := (List.getElem?_eq_some_iff.mp hj).2
              have e2 := (List.getElem?_eq_some_iff.mp hg).2
              omega
            · cases hj
        have small : (kvs ++ kv2).length ≤ 1000 := by
          have kl : (kvs.map (·.1)).length ≤ (List.range 128).length := ha.nd.length_le_of_subset fun g hg => by
            obtain ⟨k, hk, o, st, hl, rfl⟩ := (ha.key g).mp hg
            exact List.mem_range.mpr (Nat.lt_of_lt_of_le bo_lt (Nat.pow_le_pow_right (by decide) few.s))
          have kl2 := congrArg List.length k2
          rw [List.length_map, List.length_take] at kl2
          rw [List.length_map, List.length_range] at kl
          rw [List.length_append]; omega
        refine ⟨_, rfl, ⟨_, rfl⟩, xe_var rfl ⟨(kvs ++ kv2).map dicE, .inl g, rfl, rfl, dget_none gnew, by simp at small ⊢; omega, ?_⟩⟩
        refine ⟨kv2 ++ [(g, ls)], .d (.int g), ?_, ?_, fun g' ls' h' => ?_⟩
        · rw [← List.append_assoc, List.map_append (l₁ := kvs ++ kv2)]; rfl
        · rw [List.map_append, k2]
          rw [show lev.take (i + 1) = lev.take i ++ [g] from GS.take_get hg]
          rfl
        · rcases List.mem_append.mp h' with z | z
          · exact v2 g' ls' z
          · cases List.mem_singleton.mp z
            exact ⟨lsa, lsm⟩
    rintro δ1 ⟨kv2, s4, rfl, k2, v2⟩
    rw [show (intL lev).length = lev.length by simp [intL], List.take_length] at k2
    have ha' := ha.more few nd mem k2 v2
    refine xs_forget (i := 4) (by decide) ?_
    try dsimp only [List.set]
    refine xs_set (by decide) <| xe_ofO <| xo_sort2 <| xi_list <| xe_var rfl ⟨_, .inl rfl, fun v hv => by simp at hv; rcases hv with rfl | rfl <;> rfl, by simp [intL]; omega, fun t acc δ => δ = [.d (roomF os ns), .d (.lst (os.map fun r => .tup [.int (bo ns [r.1]), .int (bo ns r.2)])), .own (.dic ((kvs ++ kv2).map dicE)), .d (.lst (intL lev)), .no, .no, .no, .no, .no, .no] ∧ ∀ k, k ∈ acc ↔ ∃ g ∈ lev.take t, ∃ l, AftN os ns g l ∧ (l : Int) = k, ⟨rfl, by simp⟩, ?_, ?_⟩
    · rintro t d acc δ1 bs hb ht ⟨rfl, ma⟩
      obtain ⟨g, hg, rfl⟩ : ∃ g : Nat, lev[t]? = some g ∧ D.int g = d := by simpa [intL] using ht
      obtain ⟨ls, hls⟩ : ∃ ls, (g, ls) ∈ kv2 := by
        have : g ∈ kv2.map (·.1) := by rw [k2]; exact List.mem_of_getElem? hg
        obtain ⟨⟨g', ls⟩, h1, rfl⟩ := List.mem_map.mp this
        exact ⟨ls, h1⟩
      obtain ⟨la, lm⟩ := v2 g ls hls
      have l35b := few.level (n := n + 1) (la.imp fun h => by omega) fun l hl => few.next.mpr ⟨g, (mem g).mp (List.mem_of_getElem? hg), (lm l).mp hl⟩
      refine xg_name (by decide) (hb _ (by decide)) ?_
      try dsimp only [List.set]
      refine xi_list <| xe_dgetO ⟨_, rfl⟩ <| xe_var rfl ⟨_, .inl g, _, rfl, rfl, dget_some ha'.nd (List.mem_append_right _ hls), _, .inl rfl, by simp [intL]; omega, fun v hv => by simp at hv; subst hv; rfl, fun j acc' δ => δ = [.d (roomF os ns), .d (.lst (os.map fun r => .tup [.int (bo ns [r.1]), .int (bo ns r.2)])), .own (.dic ((kvs ++ kv2).map dicE)), .d (.lst (intL lev)), .no, .no, .no, .no, .d (.int g), .no] ∧ ∀ k, k ∈ acc' ↔ k ∈ acc ∨ ∃ l ∈ ls.take j, (l : Int) = k, ⟨rfl, by simp⟩, ?_, ?_⟩
      · rintro j e acc' δ5 bs5 hb5 he ⟨rfl, mb⟩
        obtain ⟨l, hl, rfl⟩ : ∃ l : Nat, ls[j]? = some l ∧ D.int l = e := by simpa [intL] using he
        refine xg_name (by decide) (hb5 _ (by decide)) ?_
        try dsimp only [List.set]
        refine xe_var rfl ⟨l, rfl, rfl, fun k => ?_⟩
        rw [show ls.take (j + 1) = ls.take j ++ [l] from GS.take_get hl, List.mem_append, mb, List.mem_singleton]
        constructor
        · rintro ((z | ⟨l', h1, h2⟩) | z)
          · exact .inl z
          · exact .inr ⟨l', by simp [h1], h2⟩
          · exact .inr ⟨l, by simp, z.symm⟩
        · rintro (z | ⟨l', h1, h2⟩)
          · exact .inl (.inl z)
          · rcases List.mem_append.mp h1 with z | z
            · exact .inl (.inr ⟨l', z, h2⟩)
            · rw [List.mem_singleton.mp z] at h2; exact .inr h2.symm
      · rintro acc' δ5 ⟨rfl, mb⟩
        refine ⟨rfl, fun k => ?_⟩
        rw [show (intL ls).length = ls.length by simp [intL], List.take_length] at mb
        rw [mb, ma, show lev.take (t + 1) = lev.take t ++ [g] from GS.take_get hg]
        constructor
        · rintro (⟨g', h1, h2⟩ | ⟨l, h1, h2⟩)
          · exact ⟨g', by simp [h1], h2⟩
          · exact ⟨g, by simp, l, (lm l).mp h1, h2⟩
        · rintro ⟨g', h1, l, h2, h3⟩
          rcases List.mem_append.mp h1 with z | z
          · exact .inl ⟨g', z, l, h2, h3⟩
          · rw [List.mem_singleton.mp z] at h2
            exact .inr ⟨l, (lm l).mpr h2, h3⟩
    · rintro acc δ1 ⟨rfl, ma⟩
      rw [show (intL lev).length = lev.length by simp [intL], List.take_length] at ma
      have nx : ∀ k, k ∈ acc ↔ ∃ l : Nat, LotN os ns (n + 1) l ∧ (l : Int) = k := fun k => by
        rw [ma]
        constructor
        · rintro ⟨g, hg, l, h1, h2⟩
          exact ⟨l, few.next.mpr ⟨g, (mem g).mp hg, h1⟩, h2⟩
        · rintro ⟨l, h1, h2⟩
          obtain ⟨g, h3, h4⟩ := few.next.mp h1
          exact ⟨g, (mem g).mpr h3, l, h4, h2⟩
      refine ⟨((List.range 128).filter fun g => decide (pc g = n + 1)).map fun n : Nat => (n : Int), by rw [List.length_map]; have := few_pc (n + 1) (by omega); omega, fun k hk => ?_, fun ms msa msm => ?_⟩
      · obtain ⟨l, ⟨o, st, hl, rfl⟩, rfl⟩ := (nx k).mp hk
        have lt : bo ns o < 2 ^ 7 := Nat.lt_of_lt_of_le bo_lt (Nat.pow_le_pow_right (by decide) few.s)
        exact List.mem_map.mpr ⟨_, by rw [List.mem_filter, List.mem_range]; exact ⟨lt, by rw [few.pcs st]; simpa using hl⟩, rfl⟩
      · obtain ⟨ls, rfl, lsa⟩ := nat_of_ints (ms := ms) (fun k hk => by
          obtain ⟨l, _, e⟩ := (nx k).mp ((msm k).mp hk)
          exact ⟨_, e⟩) msa
        rw [intL_of]
        refine ⟨_, rfl, ns.length + 1 - (n + 1), by omega, n + 1, ls, kvs ++ kv2, _, rfl, ha', lsa, fun g => ?_, rfl, by omega⟩
        have e1 : g ∈ ls ↔ (g : Int) ∈ ls.map fun n : Nat => (n : Int) := int_in
        rw [e1, msm, nx]
        exact ⟨fun ⟨l, h1, h2⟩ => by rwa [show l = g by omega] at h1, fun h => ⟨g, h, rfl⟩⟩
/-! ### the names of an integer -/
def F_names_of : FR := fun ds Φ => ∃ (ns S : List Str), ds = [.tupF (ns.map .str), .int (bo ns S)] ∧ ns.length ≤ 1000 ∧ Φ (.d (.tupF ((ns.filter fun n => decide (n ∈ S)).map .str)))
theorem ok_names_of (T : Txt K mg a) : FnOk P w K mg base CX0 1 a.f_names_of a.fd_names_of ["names", "bits"] (spR (ZZ K a) F_names_of) := by
  refine T.F_names_of.ok sc_names_of (fun vs H Q E h => ?_) (fun cdv A outer s H vs Q E hr h => ?_)
  · obtain ⟨M, ds, Φ, _, al, ⟨ns, S, rfl, _⟩, _⟩ := h
    exact al.len
  · obtain ⟨M, ds, Φ, ex, al, ⟨ns, S, rfl, l1, fin⟩, q⟩ := h
    refine ⟨_, (pss_one (ps_ret (pe_callTy GX.call_tupleF (by rfl) T.n_tuple (by decide +kernel) (pa_cons (pe_lc (own := [("at", 2), ("name", 3)]) (g := (gTup K 2 (gCons (gName 2) (gCons (gName 3) gNil))))  rfl sc_names_of.nd (GE.pi_enumT (by rfl) T.n_enumerate (pa_cons (pv 0) pa_nil)) (blkOk_by (N := N_names_of) (sc := defScope s_names_of) (by decide +kernel)) (fun _ _ _ _ _ => (pg_tup rfl (pgs_cons (pg_name (i := 2) sc_names_of.nd rfl (Or.inl rfl)) (pgs_cons (pg_name (i := 3) sc_names_of.nd rfl (Or.inl rfl)) pgs_nil)))) (fun _ _ _ _ _ => pts_one (pt_truthK (K := K) rfl (pe_op op_and (pe_op op_shr (pv 1) (pv 2)) pe_int) (by intro _; rfl))) (fun _ _ _ _ _ => (pv 3))) pa_nil)))), entR (n := 2) ex al rfl q ?_⟩
    walk_at "ent"
    refine xs_ret <| xe_tupleF <| xe_ofO <| xo_lc <| xi_enumT <| xe_wk <| xe_var rfl ⟨ns.map .str, rfl, ns.map .str, rfl, fun v hv => by simp at hv; rcases hv with rfl | rfl <;> rfl, by simp [enumD]; omega, fun i acc δ => δ = [.d (.tupF (ns.map .str)), .d (.int (bo ns S)), .no, .no] ∧ acc = ((ns.take i).filter fun n => decide (n ∈ S)).map .str, ⟨rfl, rfl⟩, ?_, ?_⟩
    · rintro i d acc δ1 bs hb hi ⟨rfl, rfl⟩
      obtain ⟨x, hx, rfl⟩ := enumD_at hi
      obtain ⟨n, hn, rfl⟩ : ∃ n, ns[i]? = some n ∧ D.str n = x := by simpa using hx
      have tk : ns.take (i + 1) = ns.take i ++ [n] := GS.take_get hn
      refine xg_tup (by rfl) (xgs_cons (xg_name (by decide) (hb _ (by decide)) (xgs_cons (xg_name (by decide) (hb _ (by decide)) (xgs_nil ?_)))))
      try dsimp only [List.set]
      refine xt_truth <| xe_I0 <| xe_I <| xe_var rfl <| xe_var rfl ⟨_, _, rfl, rfl, Int.natCast_nonneg _, xe_int ⟨_, _, rfl, rfl, nofun, _, rfl, ?_⟩⟩
      have e : (PySem.Builtin.bitAnd (((bo ns S : Nat) : Int) / 2 ^ ((i : Nat) : Int).toNat) 1 != 0) = decide (n ∈ S) := by
        rw [Int.toNat_natCast, show ((bo ns S : Nat) : Int) / 2 ^ i = ((bo ns S / 2 ^ i : Nat) : Int) from by simp, show (1 : Int) = ((1 : Nat) : Int) from rfl, band]
        have h1 := nbv_bit (ns := ns) (p := fun x => decide (x ∈ S)) (i := i)
        rw [show bitAt ns (fun x => decide (x ∈ S)) i = decide (n ∈ S) from by unfold bitAt; rw [hn]] at h1
        rw [← h1, Nat.testBit, Nat.shiftRight_eq_div_pow, Nat.and_comm]
        unfold bo
        generalize nbv ns (fun x => decide (x ∈ S)) / 2 ^ i &&& 1 = q
        rw [Bool.eq_iff_iff]
        simp only [bne_iff_ne, ne_eq]
        exact not_congr (by omega)
      rw [e]
      by_cases c : n ∈ S
      · rw [decide_eq_true c, if_pos rfl]
        exact xe_var rfl ⟨rfl, by rw [tk, List.filter_append]; simp [c]⟩
      · rw [decide_eq_false c, if_neg (by simp)]
        exact ⟨rfl, by rw [tk, List.filter_append]; simp [c]⟩
    · rintro acc δ1 ⟨rfl, rfl⟩
      rw [enumD_len, List.length_map, List.take_length]
      exact ⟨_, rfl, _, rfl, fin⟩
/-! ### all lots that can be gone -/
theorem Aft.small {os : List Rl} {ns : List Str} {n : Nat} {kvs : List (Nat × List Nat)} (h : Aft os ns n kvs) (few : Few os ns) : kvs.length ≤ 128 := by
  have kl : (kvs.map (·.1)).length ≤ (List.range 128).length := h.nd.length_le_of_subset fun g hg => by
    obtain ⟨k, hk, o, st, hl, rfl⟩ := (h.key g).mp hg
    exact List.mem_range.mpr (Nat.lt_of_lt_of_le bo_lt (Nat.pow_le_pow_right (by decide) few.s))
  simpa using kl
def isStrs (d : D) (ws : List Str) : Prop := d = .lst (ws.map .str) ∨ d = .tup (ws.map .str)
theorem isStrs.len {d : D} {ws : List Str} (h : isStrs d ws) : lenD d = some ws.length := by
  rcases h with rfl | rfl <;> simp [lenD]
def F_is_fulfilled : FR := fun ds Φ => ∃ (r : Str × List Str) (d : D) (gs : List Str), ds = [ruleO r, d] ∧ (d = .lst (gs.map .str) ∨ d = .tup (gs.map .str)) ∧ r.2.length ≤ 1000 ∧ Φ (.d (.bl (r.2.all fun w => decide (w ∈ gs))))
theorem ok_is_fulfilled (T : Txt K mg a) : FnOk P w K mg base CX0 1 a.f_is_fulfilled a.fd_is_fulfilled ["rule", "gone"] (spR (ZZ K a) F_is_fulfilled) := by
  refine T.F_is_fulfilled.ok sc_is_fulfilled (fun vs H Q E h => ?_) (fun cdv A outer s H vs Q E hr h => ?_)
  · obtain ⟨M, ds, Φ, _, al, ⟨n, d, gs, rfl, _⟩, _⟩ := h
    exact al.len
  · obtain ⟨M, ds, Φ, ex, al, ⟨r, d, gs, rfl, hd, hl, fin⟩, q⟩ := h
    refine ⟨_, (pss_one (ps_ret (pe_callB (cr_all rfl) (by rfl) T.n_all (by decide +kernel) (pa_cons (pe_lc (own := [("name", 2)]) (g := (gName 2)) (tt := tYes) rfl sc_is_fulfilled.nd (pi_tupK (K := K) rfl (pe_fldK (K := K) rfl (pv 0) rfl)) (blkOk_by (N := N_is_fulfilled) (sc := defScope s_is_fulfilled) (by decide +kernel)) (fun _ _ _ _ _ => (pg_name (i := 2) sc_is_fulfilled.nd rfl (Or.inl rfl))) (fun _ _ _ _ _ => pts_nil) (fun _ _ _ _ _ => (pe_cmpR (show OpR _ (compareOp .In) (rIn K false) from op_in_seq) (pv 2) (pv 1) rfl))) pa_nil)))), entR (n := 1) ex al rfl q ?_⟩
    walk_at "ent"
    walk_at "xs"
    walk_at "ret"
    refine xe_all (xe_ofO (xo_fg (g := D.str) (f := fun w => D.bl (decide (w ∈ gs))) (p := fun _ => true) (xi_tup (xe_rgone T ?_))))
    walk_at "xs"
    refine ⟨_, _, rfl, _, rfl, r.2, rfl, rfl, by omega, fun x hx => xt_yes ⟨rfl, rfl, fun _ => ?_⟩, _, rfl, ?_⟩
    · walk_at "xs"
      exact ⟨x, gs, rfl, hd, rfl, rfl⟩
    · refine ⟨r.2.map fun w => decide (w ∈ gs), by rw [filter_tt, List.map_map]; rfl, ?_⟩
      rw [List.all_map]
      exact fin
def F_may : FR := fun ds Φ => ∃ (rs : List (Str × List Str)) (x d : D) (gs : List Str), ds = [.obj 1 [.tup (rs.map ruleO), x], d] ∧ (d = .lst (gs.map .str) ∨ d = .tup (gs.map .str)) ∧ rs.length ≤ 1000 ∧ (∀ r ∈ rs, r.2.length ≤ 1000) ∧ ∀ ys, GS.IsLot ys ((rs.filter fun r => !decide (r.1 ∈ gs) && r.2.all fun w => decide (w ∈ gs)).map (·.1)) → Φ (.d (.tup (ys.map .str)))
theorem ok_may (T : Txt K mg a) (G_is_fulfilled : FnOk P w K mg base CX0 1 a.f_is_fulfilled a.fd_is_fulfilled ["rule", "gone"] (spR (ZZ K a) F_is_fulfilled)) (G_lot_of : FnOk P w K mg base CX0 1 a.f_lot_of a.fd_lot_of ["names"] (spR (ZZ K a) F_lot_of)) : FnOk P w K mg base CX0 2 a.f_may a.fd_may ["room", "gone"] (spR (ZZ K a) F_may) := by
  refine T.F_may.ok sc_may (fun vs H Q E h => ?_) (fun cdv A outer s H vs Q E hr h => ?_)
  · obtain ⟨M, ds, Φ, _, al, ⟨rs, x, d, gs, rfl, _⟩, _⟩ := h
    exact al.len
  · obtain ⟨M, ds, Φ, ex, al, ⟨rs, x, d, gs, rfl, hd, hl, hrs, fin⟩, q⟩ := h
    refine ⟨_, (pss_one (ps_ret (pe_call G_lot_of (hr.mono (by decide)) (by rfl) T.m_lot_of T.F_lot_of.kp T.b_lot_of .nil pass0 (pa_cons (pe_lc (own := [("rule", 2)]) (g := (gName 2))  rfl sc_may.nd (pi_tupK (K := K) rfl (pe_fldK (K := K) rfl (pv 0) rfl)) (blkOk_by (N := N_may) (sc := defScope s_may) (by decide +kernel)) (fun _ _ _ _ _ => (pg_name (i := 2) sc_may.nd rfl (Or.inl rfl))) (fun _ _ _ _ _ => pts_one (PW.pt (pw_and (pt_cmpR (show OpR _ (compareOp .NotIn) (rIn K true) from op_notIn_seq) (pe_fldK (K := K) rfl (pv 2) rfl) (pv 1) rfl) (pw_and1 (pt_val (pe_call G_is_fulfilled (hr.mono (by decide)) (by rfl) T.m_is_fulfilled T.F_is_fulfilled.kp T.b_is_fulfilled .nil pass0 (pa_cons (pv 2) (pa_cons (pv 1) pa_nil)))))))) (fun _ _ _ _ _ => (pe_fldK (K := K) rfl (pv 2) rfl))) pa_nil)))), entR (n := 1) ex al rfl q ?_⟩
    walk_at "ent"
    walk_at "xs"
    refine xs_ret (xr_call (fun _ => .nil) ?_)
    walk_at "xs"
    refine xe_ofO (xo_fg (g := ruleO) (f := fun r => D.str r.1) (p := fun r => !decide (r.1 ∈ gs) && r.2.all fun w => decide (w ∈ gs)) (xi_tup (xe_mrules T ?_)))
    walk_at "xs"
    refine ⟨_, _, rfl, _, rfl, rs, rfl, rfl, by omega, fun r hr => ?_, _, rfl, ?_⟩
    · refine xt_and (xt_test (xe_ninT (xe_rname T ?_)))
      walk_at "xs"
      refine ⟨_, _, rfl, ?_⟩
      walk_at "xs"
      refine ⟨r.1, gs, rfl, hd, _, rfl, ?_⟩
      refine ite_b (fun h => ?_) (fun h => ⟨by rw [h]; rfl, rfl, fun z => by cases z⟩)
      rw [h]
      refine xt_B (xr_call (fun _ => .nil) ?_)
      walk_at "xs"
      refine ⟨r, d, gs, rfl, hd, hrs r hr, on_d ⟨_, rfl, rfl, rfl, fun _ => ?_⟩⟩
      refine xe_rname T ?_
      walk_at "xs"
    · walk_at "xs"
      refine ⟨_, .inr (by rw [List.map_map]; rfl), ?_, fun ys hy _ => on_d (fin ys hy)⟩
      rw [List.length_map]
      exact Nat.lt_of_le_of_lt (List.length_filter_le _ _) (by omega)
/-! ### orders that there are -/
theorem idx_le : ∀ {l : List Str} {i : Nat} {x : Str}, l[i]? = some x → l.idxOf x ≤ i
  | [], i, x, h => by simp at h
  | a :: l, 0, x, h => by cases h; simp
  | a :: l, i + 1, x, h => by
    have := idx_le (l := l) (by simpa using h)
    rw [List.idxOf_cons]
    by_cases e : a == x
    · simp [e]
    · simp [e]; omega
theorem Steps.more {rs : List Rl} {us : List Str} (hu : ∀ r ∈ rs, r.1 ∈ us) : ∀ (n : Nat) {o : List Str}, Steps rs o → us.length - o.length ≤ n → ∃ r, Ord rs (o ++ r)
  | n, o, h, hn => by
    by_cases c : ∃ x, x ∈ mayS rs o
    · obtain ⟨x, hx⟩ := c
      have h2 := h.snoc hx
      have l2 : (o ++ [x]).length ≤ us.length := nodup_len h2.nodup fun y hy => by
        obtain ⟨ws, q⟩ := h2.mem hy
        exact hu _ q
      match n, hn with
      | 0, hn => simp at l2 hn; omega
      | n + 1, hn =>
        obtain ⟨r, hr⟩ := Steps.more hu n h2 (by simp at l2 ⊢; omega)
        exact ⟨x :: r, by simpa using hr⟩
    · exact ⟨[], by simpa using ⟨h, fun x hx => c ⟨x, hx⟩⟩⟩
theorem Ord.leav {rs : List Rl} {o : List Str} (h : Ord rs o) : Leav rs [] [] o := ⟨by simpa using h.1.run o.length, fun x hx => absurd hx (h.2 x)⟩
/-! ### the orders in their order -/
def nxt (os : List Rl) (ns o : List Str) : List Str := ns.filter fun x => decide (x ∈ mayS os o)
def dfs (os : List Rl) (ns : List Str) : Nat → List Str → List (List Str)
  | 0, _ => [[]]
  | k + 1, o => (nxt os ns o).flatMap fun x => (dfs os ns k (o ++ [x])).map fun r => x :: r
section
variable {os rs : List Rl} {ns o q : List Str} {x : Str} {k n s : Nat} {kvs : List (Nat × List Nat)}
theorem mem_nxt (f : Few os ns) : x ∈ nxt os ns o ↔ x ∈ mayS os o := by
  unfold nxt
  rw [List.mem_filter, decide_eq_true_eq]
  exact ⟨fun h => h.2, fun h => ⟨by
    obtain ⟨_, ws, q, _⟩ := mem_may.mp h
    exact f.m _ q x (by simp), h⟩⟩
theorem nxt_asc (f : Few os ns) : GS.Asc (nxt os ns o) := f.a.sublist List.filter_sublist
theorem nxt_congr {o' : List Str} (h : ∀ x, x ∈ mayS os o ↔ x ∈ mayS rs o') : nxt os ns o = nxt rs ns o' := by
  unfold nxt
  exact List.filter_congr fun x _ => by rw [decide_eq_decide]; exact h x
theorem dfs_set : ∀ (k : Nat) {o q : List Str}, (∀ x, x ∈ o ↔ x ∈ q) → dfs os ns k o = dfs os ns k q
  | 0, _, _, _ => rfl
  | k + 1, o, q, h => by
    unfold dfs
    rw [nxt_congr (o := o) (o' := q) fun x => may_ext h]
    congr 1; funext x
    rw [dfs_set k (o := o ++ [x]) (q := q ++ [x]) fun y => by simp [h y]]
theorem fm_inv {α β : Type} {B : α → List β} {r : β} : ∀ {xs : List α} {n : Nat}, (xs.flatMap B)[n]? = some r → ∃ j x m, xs[j]? = some x ∧ n = ((xs.take j).map fun y => (B y).length).sum + m ∧ (B x)[m]? = some r
  | [], _, h => by simp at h
  | x :: xs, n, h => by
    rw [List.flatMap_cons] at h
    rcases Nat.lt_or_ge n (B x).length with l | l
    · rw [List.getElem?_append_left l] at h
      exact ⟨0, x, n, rfl, by simp, h⟩
    · rw [List.getElem?_append_right l] at h
      obtain ⟨j, y, m, h1, h2, h3⟩ := fm_inv h
      exact ⟨j + 1, y, m, h1, by rw [List.take_succ_cons, List.map_cons, List.sum_cons]; omega, h3⟩
/-- what leads on from the order with a number -/
theorem dfs_inv {r : List Str} (h : (dfs os ns (k + 1) o)[n]? = some r) : ∃ j x m t, (nxt os ns o)[j]? = some x ∧ n = (((nxt os ns o).take j).map fun y => (dfs os ns k (o ++ [y])).length).sum + m ∧ r = x :: t ∧ (dfs os ns k (o ++ [x]))[m]? = some t := by
  obtain ⟨j, x, m, h1, h2, h3⟩ := fm_inv (show ((nxt os ns o).flatMap fun x => (dfs os ns k (o ++ [x])).map fun r => x :: r)[n]? = some r from h)
  rw [List.getElem?_map] at h3
  obtain ⟨t, h4, rfl⟩ := Option.map_eq_some_iff.mp h3
  exact ⟨j, x, m, t, h1, by simpa using h2, rfl, h4⟩
theorem dfs_len {r : List Str} : ∀ {k : Nat} {o : List Str}, r ∈ dfs os ns k o → r.length = k := by
  induction r with
  | nil =>
    intro k o h
    cases k with
    | zero => rfl
    | succ k =>
      obtain ⟨x, _, h2⟩ := List.mem_flatMap.mp h
      obtain ⟨t, _, e⟩ := List.mem_map.mp h2
      cases e
  | cons y r ih =>
    intro k o h
    cases k with
    | zero => cases List.mem_singleton.mp h
    | succ k =>
      obtain ⟨x, _, h2⟩ := List.mem_flatMap.mp h
      obtain ⟨t, h3, e⟩ := List.mem_map.mp h2
      cases e
      rw [List.length_cons, ih h3]
theorem dfs_steps (f : Few os ns) {r : List Str} : ∀ {k : Nat} {o : List Str}, Steps os o → r ∈ dfs os ns k o → Steps os (o ++ r) := by
  induction r with
  | nil => intro k o so h; simpa using so
  | cons y r ih =>
    intro k o so h
    cases k with
    | zero => cases List.mem_singleton.mp h
    | succ k =>
      obtain ⟨x, hx, h2⟩ := List.mem_flatMap.mp h
      obtain ⟨t, h3, e⟩ := List.mem_map.mp h2
      cases e
      have := ih (so.snoc ((mem_nxt f).mp hx)) h3
      simpa using this
/-- all orders have the same number of names -/
structure Size (os : List Rl) (s : Nat) : Prop where
  i : ∀ o, Steps os o → (o.length = s ↔ ∀ x, x ∉ mayS os o)
  l : ∀ o, Steps os o → o.length ≤ s
theorem Size.go (h : Size os s) (f : Few os ns) {o : List Str} (so : Steps os o) : nxt os ns o = [] ↔ o.length = s := by
  rw [h.i o so, List.eq_nil_iff_forall_not_mem]
  exact forall_congr' fun x => not_congr (mem_nxt f)
open Classical in
/-- how many orders lead on from a lot -/
noncomputable def cof (os : List Rl) (ns : List Str) (s g : Nat) : Nat := if h : ∃ o, Steps os o ∧ bo ns o = g then (dfs os ns (s - (choose h).length) (choose h)).length else 0
theorem cof_is (f : Few os ns) (so : Steps os o) : cof os ns s (bo ns o) = (dfs os ns (s - o.length) o).length := by
  have h : ∃ q, Steps os q ∧ bo ns q = bo ns o := ⟨o, so, rfl⟩
  unfold cof
  rw [dif_pos h]
  have c := Classical.choose_spec h
  have sm := f.same c.1 so c.2
  have le : (Classical.choose h).length = o.length := Nat.le_antisymm (nodup_len c.1.nodup fun x hx => (sm x).mp hx) (nodup_len so.nodup fun x hx => (sm x).mpr hx)
  rw [le, dfs_set _ sm]
theorem cof_end (z : Size os s) (f : Few os ns) (so : Steps os o) (e : nxt os ns o = []) : cof os ns s (bo ns o) = 1 := by
  rw [cof_is f so, (z.go f so).mp e, Nat.sub_self]; rfl
theorem cof_go (z : Size os s) (f : Few os ns) (so : Steps os o) (e : nxt os ns o ≠ []) : cof os ns s (bo ns o) = (((nxt os ns o).map fun x => bo ns (o ++ [x])).map (cof os ns s)).sum := by
  have lt : o.length < s := Nat.lt_of_le_of_ne (z.l o so) fun h => e ((z.go f so).mpr h)
  obtain ⟨k, hk⟩ : ∃ k, s - o.length = k + 1 := ⟨s - o.length - 1, by omega⟩
  rw [cof_is f so, hk]
  show (List.flatMap (fun x => (dfs os ns k (o ++ [x])).map fun r => x :: r) (nxt os ns o)).length = _
  rw [List.length_flatMap, List.map_map]
  congr 1
  refine List.map_congr_left fun x hx => ?_
  show _ = cof os ns s (bo ns (o ++ [x]))
  rw [cof_is f (so.snoc ((mem_nxt f).mp hx)), List.length_map, List.length_append, List.length_singleton, show s - (o.length + 1) = k by omega]
theorem bo_more (f : Few os ns) (so : Steps os o) (hx : x ∈ mayS os o) : bo ns (o ++ [x]) = bo ns o + 2 ^ ns.idxOf x := by
  obtain ⟨no, ws, q, _⟩ := mem_may.mp hx
  rw [← Nat.add_comm, ← bo_cons f.nd (f.m _ q x (by simp)) no]
  exact bo_ext.mpr fun y _ => by simp [or_comm]
theorem idx_lt {ns : List Str} (nd : ns.Nodup) : ∀ {l : List Str}, l.Sublist ns → l.Pairwise fun a b => ns.idxOf a < ns.idxOf b := fun {l} h => by
  refine (List.Pairwise.sublist h ?_)
  rw [List.pairwise_iff_getElem]
  intro i j hi hj ij
  have at' : ∀ {k : Nat} (hk : k < ns.length), ns.idxOf ns[k] = k := fun {k} hk => by
    have hm : ns[k] ∈ ns := List.getElem_mem hk
    have h1 := List.getElem_idxOf (List.idxOf_lt_length_of_mem hm)
    have h2 := idx_le (List.getElem?_eq_getElem hk)
    rcases Nat.lt_or_ge (ns.idxOf ns[k]) k with q | q
    · exact absurd h1 ((List.pairwise_iff_getElem.mp (List.nodup_iff_pairwise_ne.mp nd)) _ _ _ hk q)
    · omega
  rw [at' hi, at' hj]; exact ij
theorem natAsc_uniq : ∀ {a b : List Nat}, a.Pairwise (· < ·) → b.Pairwise (· < ·) → (∀ x, x ∈ a ↔ x ∈ b) → a = b
  | [], [], _, _, _ => rfl
  | [], y :: b, _, _, h => absurd ((h y).mpr (by simp)) (by simp)
  | x :: a, [], _, _, h => absurd ((h x).mp (by simp)) (by simp)
  | x :: a, y :: b, ha, hb, h => by
    obtain ⟨a1, a2⟩ := List.pairwise_cons.mp ha
    obtain ⟨b1, b2⟩ := List.pairwise_cons.mp hb
    have e : x = y := by
      rcases List.mem_cons.mp ((h x).mp (by simp)) with q | q
      · exact q
      · rcases List.mem_cons.mp ((h y).mpr (by simp)) with p | p
        · exact p.symm
        · have := a1 y p; have := b1 x q; omega
    subst e
    refine congrArg (x :: ·) (natAsc_uniq a2 b2 fun z => ?_)
    constructor
    · intro hz
      rcases List.mem_cons.mp ((h z).mp (by simp [hz])) with q | q
      · have := a1 z hz; omega
      · exact q
    · intro hz
      rcases List.mem_cons.mp ((h z).mpr (by simp [hz])) with q | q
      · have := b1 z hz; omega
      · exact q
/-- the lots with one more, told by the names -/
theorem Aft.lots {kvs : List (Nat × List Nat)} {ls : List Nat} (h : Aft os ns n kvs) (f : Few os ns) (so : Steps os o) (m : (bo ns o, ls) ∈ kvs) : ls = (nxt os ns o).map fun x => bo ns (o ++ [x]) := by
  obtain ⟨asc, mem⟩ := h.val _ _ m
  refine natAsc_uniq asc ?_ fun l => ?_
  · rw [List.pairwise_map]
    refine (List.Pairwise.imp_of_mem (fun {x y} hx hy lt => ?_) (idx_lt f.nd (List.filter_sublist (l := ns) (p := fun x => decide (x ∈ mayS os o)))))
    rw [bo_more f so ((mem_nxt f).mp hx), bo_more f so ((mem_nxt f).mp hy)]
    have := Nat.pow_lt_pow_right (a := 2) (by decide) lt
    omega
  · rw [mem, f.aft so, List.mem_map]
    exact ⟨fun ⟨x, h1, h2⟩ => ⟨x, (mem_nxt f).mpr h1, h2⟩, fun ⟨x, h1, h2⟩ => ⟨x, (mem_nxt f).mp h1, h2⟩⟩
theorem Aft.at (h : Aft os ns 20 kvs) (f : Few os ns) (so : Steps os o) : (bo ns o, (nxt os ns o).map fun x => bo ns (o ++ [x])) ∈ kvs := by
  have l1 := f.len so
  have l2 := f.s
  have := (h.key (bo ns o)).mpr ⟨o.length, by omega, o, so, rfl, rfl⟩
  obtain ⟨⟨g, ls⟩, h1, h2⟩ := List.mem_map.mp this
  cases h2
  rwa [h.lots f so h1] at h1
end
def F_is_int : FR := fun ds Φ => ∃ i : Int, ds = [.int i] ∧ Φ (.d (.bl true))
theorem ok_is_int (T : Txt K mg a) : FnOk P w K mg base CX0 1 a.f_is_int a.fd_is_int ["value"] (spR (ZZ K a) F_is_int) := by
  refine T.F_is_int.ok sc_is_int (fun vs H Q E h => ?_) (fun cdv A outer s H vs Q E hr h => ?_)
  · obtain ⟨M, ds, Φ, _, al, ⟨i, rfl, _⟩, _⟩ := h
    exact al.len
  · obtain ⟨M, ds, Φ, ex, al, ⟨i, rfl, fin⟩, q⟩ := h
    refine ⟨_, (pss_one (ps_ret (pe_and (pe_callB call_isi (by rfl) T.n_isinstance (by decide +kernel) (pa_cons (pv 0) (pa_cons (pe_bltn (v := .ty "int") (u := .type "int") (by rfl) T.n_int (by decide +kernel) rfl) pa_nil))) (pe_one (pe_not (pe_callB call_isi (by rfl) T.n_isinstance (by decide +kernel) (pa_cons (pv 0) (pa_cons (pe_bltn (v := .ty "bool") (u := .type "bool") (by rfl) T.n_bool (by decide +kernel) rfl) pa_nil)))))))), entR (n := 0) ex al rfl q ?_⟩
    walk_at "ent"
    refine xs_ret <| xe_andV <| xe_isi <| xe_var rfl ⟨_, _, rfl, rfl, _, rfl, if_tt ?_⟩
    exact xe_notV <| xe_isi <| xe_var rfl ⟨_, _, rfl, rfl, _, rfl, fin⟩
def F_is_index : FR := fun ds Φ => ∃ i m : Int, ds = [.int i, .int m] ∧ Φ (.d (.bl (decide (0 ≤ i ∧ i < m))))
theorem ok_is_index (T : Txt K mg a) (G_is_int : FnOk P w K mg base CX0 1 a.f_is_int a.fd_is_int ["value"] (spR (ZZ K a) F_is_int)) : FnOk P w K mg base CX0 2 a.f_is_index a.fd_is_index ["value", "many"] (spR (ZZ K a) F_is_index) := by
  refine T.F_is_index.ok sc_is_index (fun vs H Q E h => ?_) (fun cdv A outer s H vs Q E hr h => ?_)
  · obtain ⟨M, ds, Φ, _, al, ⟨i, m, rfl, _⟩, _⟩ := h
    exact al.len
  · obtain ⟨M, ds, Φ, ex, al, ⟨i, m, rfl, fin⟩, q⟩ := h
    refine ⟨_, (pss_one (ps_ret (pe_and (pe_call G_is_int (hr.mono (by decide)) (by rfl) T.m_is_int T.F_is_int.kp T.b_is_int .nil pass0 (pa_cons (pv 0) pa_nil)) (pe_one (pe_chain op_le op_lt pe_int (pv 0) (pv 1)))))), entR (n := 0) ex al rfl q ?_⟩
    walk_at "ent"
    refine xs_ret <| xe_andV <| xr_call (fun _ => .nil) <| xa_cons <| xe_var rfl <| xa_nil ⟨i, rfl, on_d ⟨_, rfl, if_tt ?_⟩⟩
    refine xe_chain <| xe_int <| xe_var rfl ⟨_, _, rfl, rfl, ?_⟩
    by_cases c : 0 ≤ i
    · rw [if_pos (by simpa using c)]
      refine xe_var rfl ⟨_, rfl, ?_⟩
      rw [show decide (0 ≤ i ∧ i < m) = decide (i < m) from by simp [c]] at fin
      exact fin
    · rw [if_neg (by simpa using c)]
      rw [show decide (0 ≤ i ∧ i < m) = false from by simp [c]] at fin
      exact fin
/-! ### how many orders lead on from each lot -/
noncomputable def cE (os : List Rl) (ns : List Str) (s : Nat) (kv : Nat × List Nat) : Key × D := (.inl kv.1, .int (cof os ns s kv.1))
def dicD (kvs : List (Key × D)) : D := .dic (kvs.map (·.1)) (kvs.map (·.2))
theorem dget_cE {os : List Rl} {ns : List Str} {s g : Nat} : ∀ {l : List (Nat × List Nat)}, g ∈ l.map (·.1) → dget (l.map (cE os ns s)) (.inl g) = some (.int (cof os ns s g))
  | [], h => by cases h
  | kv :: l, h => by
    by_cases c : kv.1 = g
    · subst c; simp [dget, cE]
    · have ih := dget_cE (os := os) (ns := ns) (s := s) (l := l) (g := g) (by
        rcases List.mem_cons.mp h with e | h
        · exact absurd e.symm c
        · exact h)
      unfold dget at ih ⊢
      rw [List.map_cons, List.find?_cons_of_neg]
      · exact ih
      · simp [cE]; omega
theorem dget_cE0 {os : List Rl} {ns : List Str} {s g : Nat} {l : List (Nat × List Nat)} (h : g ∉ l.map (·.1)) : dget (l.map (cE os ns s)) (.inl g) = none := by
  unfold dget
  rw [List.find?_eq_none.mpr]
  · rfl
  · intro kv hkv
    obtain ⟨e, he, rfl⟩ := List.mem_map.mp hkv
    have : e.1 ≠ g := fun z => h (List.mem_map.mpr ⟨e, he, z⟩)
    simp [cE]; omega
def F_orders_on : FR := fun ds Φ => ∃ (os : List Rl) (ns : List Str) (s : Nat) (kvs : List (Nat × List Nat)), ds = [dicD (kvs.map dicE)] ∧ Few os ns ∧ Size os s ∧ Aft os ns 20 kvs ∧ Φ (.own (.dic (kvs.reverse.map (cE os ns s))))
theorem ok_orders_on (T : Txt K mg a) : FnOk P w K mg base CX0 1 a.f_orders_on a.fd_orders_on ["after"] (spR (ZZ K a) F_orders_on) := by
  refine T.F_orders_on.ok sc_orders_on (fun vs H Q E h => ?_) (fun cdv A outer s H vs Q E hr h => ?_)
  · obtain ⟨M, ds, Φ, _, al, ⟨os, ns, s, kvs, rfl, _⟩, _⟩ := h
    exact al.len
  · obtain ⟨M, ds, Φ, ex, al, ⟨os, ns, z, kvs, rfl, few, size, aft, fin⟩, q⟩ := h
    refine ⟨_, (pss_cons (ps_set (i := 1) sc_orders_on.nd rfl (Or.inr rfl) pe_dnewK)
      (pss_cons (ps_for PassesOwn.never rfl (pi_reversed (by rfl) T.n_reversed (pa_cons (pe_callTy (call_listD rfl) (by rfl) T.n_list (by decide +kernel) (pa_cons (pv 0) pa_nil)) pa_nil)) (pg_name (i := 2) sc_orders_on.nd rfl (Or.inl rfl))
      (pss_one (ps_dput (units1 hr) (pv 1) (pv 2) (pe_ifExp (pt_truth (pe_dget (units1 hr) (pv 0) (pv 2) (fun _ _ => rfl)) (by intro _; rfl)) (pe_callB (cr_sum rfl) (by rfl) T.n_sum (by decide +kernel) (pa_cons (pe_lc (own := [("lot", 3)]) (g := (gName 3)) (tt := tYes) rfl sc_orders_on.nd (pi_list (pe_dget (units1 hr) (pv 0) (pv 2) (fun _ _ => rfl))) (blkOk_by (N := N_orders_on) (sc := defScope s_orders_on) (by decide +kernel)) (fun _ _ _ _ _ => (pg_name (i := 3) sc_orders_on.nd rfl (Or.inl rfl))) (fun _ _ _ _ _ => pts_nil) (fun _ _ _ _ _ => (pe_dget (units1 hr) (pv 1) (pv 3) (fun _ _ => rfl)))) pa_nil)) pe_int) (by rfl))))
      (pss_one (ps_ret (pv 1))))), entR (n := 3) ex al rfl q ?_⟩
    walk_at "ent"
    have l128 := aft.small few
    refine xs_seq <| xs_setO (by decide) <| xo_dnew ⟨by simp, ?_⟩
    try dsimp only [List.set]
    refine xs_seq <| xs_for (vs := [2]) <| xi_rev <| xe_ofO <| xo_listD <| xe_var rfl ⟨kvs.map dicE, rfl, _, rfl, _, rfl, ?_⟩
    refine ⟨fun i δ => ∃ s2 : S, δ = [.d (dicD (kvs.map dicE)), .own (.dic ((kvs.reverse.take i).map (cE os ns z))), s2, .no], ⟨_, rfl⟩, ?_, ?_⟩
    · rintro i d δ1 hi ⟨s2, rfl⟩
      obtain ⟨⟨g, ls⟩, hg, rfl⟩ : ∃ kv : Nat × List Nat, kvs.reverse[i]? = some kv ∧ D.int kv.1 = d := by
        rw [← List.map_reverse, List.getElem?_map, ← List.map_reverse, List.getElem?_map] at hi
        cases e : kvs.reverse[i]? with
        | none => rw [e] at hi; cases hi
        | some kv => rw [e] at hi; cases hi; exact ⟨kv, rfl, rfl⟩
      have gl : (g, ls) ∈ kvs := by
        have := List.mem_of_getElem? hg
        simpa using this
      have il := (List.getElem?_eq_some_iff.mp hg).1
      rw [List.length_reverse] at il
      obtain ⟨k, hk, o, so, ho, eo⟩ := (aft.key g).mp (List.mem_map_of_mem (f := (·.1)) gl)
      have els := aft.lots few so (eo ▸ gl)
      have tk : kvs.reverse.take (i + 1) = kvs.reverse.take i ++ [(g, ls)] := GS.take_get hg
      have ndr : (kvs.reverse.map (·.1)).Nodup := by rw [List.map_reverse, List.nodup_iff_pairwise_ne, List.pairwise_reverse]; exact (List.nodup_iff_pairwise_ne.mp aft.nd).imp fun h => h.symm
      have gnew : g ∉ (kvs.reverse.take i).map (·.1) := fun c => by
        have e1 : kvs.reverse.take (i + 1) ++ kvs.reverse.drop (i + 1) = kvs.reverse := List.take_append_drop _ _
        rw [← e1, tk, List.map_append, List.map_append] at ndr
        have := (List.nodup_append.mp (List.nodup_append.mp ndr).1).2.2 g c g (by simp)
        exact this rfl
      have dg : dget (kvs.map dicE) (.inl g) = some (.lst (intL ls)) := dget_some aft.nd gl
      refine xg_name (by decide) (by decide) ?_
      try dsimp only [List.set]
      have ready : ∀ l ∈ ls, l ∈ (kvs.reverse.take i).map (·.1) := fun l hl => by
        have al := ((aft.val g ls gl).2 l).mp hl
        obtain ⟨o', x, st', h1, h2⟩ := al
        have p1 := few.pcs st'
        have p2 := few.pcs (Steps.init st').1
        rw [h2] at p1
        rw [h1] at p2
        have l8 := few.len st'
        have l7 := few.s
        have lk := (aft.key l).mpr ⟨(o' ++ [x]).length, by omega, _, st', rfl, h2⟩
        obtain ⟨⟨l', ms⟩, h3, h4⟩ := List.mem_map.mp lk
        have h4 : l = l' := h4.symm
        subst h4
        have h5 : (l, ms) ∈ kvs.reverse := by simpa using h3
        rw [← List.take_append_drop i kvs.reverse] at h5
        rcases List.mem_append.mp h5 with h6 | h6
        · exact List.mem_map_of_mem (f := (·.1)) h6
        · have ordr : kvs.reverse.Pairwise fun a b => pc b.1 ≤ pc a.1 := List.pairwise_reverse.mpr aft.ord
          obtain ⟨j, hj⟩ := List.mem_iff_getElem?.mp h6
          rw [List.getElem?_drop] at hj
          have jl := (List.getElem?_eq_some_iff.mp hj).1
          have gi := (List.getElem?_eq_some_iff.mp hg)
          rcases Nat.eq_zero_or_pos j with z | z
          · subst z
            rw [Nat.add_zero, hg] at hj; cases hj
            simp at p1; omega
          · have := List.pairwise_iff_getElem.mp ordr i (i + j) gi.1 jl (by omega)
            rw [gi.2, (List.getElem?_eq_some_iff.mp hj).2] at this
            simp at p1; simp at this; omega
      have put : ∀ (v : Int), v = cof os ns z g → XE (ZZ K a) (tVar 2) [.d (dicD (kvs.map dicE)), .own (.dic ((kvs.reverse.take i).map (cE os ns z))), .d (.int g), .no] fun b δ2 => ∃ kvs' k, δ2[1]? = some (.own (.dic kvs')) ∧ b = keyD k ∧ dget kvs' k = none ∧ kvs'.length < 1000000 ∧ ∃ s2 : S, δ2.set 1 (.own (.dic (kvs' ++ [(k, .int v)]))) = [.d (dicD (kvs.map dicE)), .own (.dic ((kvs.reverse.take (i + 1)).map (cE os ns z))), s2, .no] := fun v hv => by
        refine xe_var rfl ⟨_, .inl g, rfl, rfl, dget_cE0 gnew, by rw [List.length_map, List.length_take, List.length_reverse]; omega, .d (.int g), ?_⟩
        rw [tk, List.map_append, hv]; rfl
      refine xs_dput <| xr_if <| xt_truth <| xe_dget <| xe_var rfl <| xe_var rfl ⟨kvs.map dicE, .inl g, _, rfl, rfl, dg, nofun, _, rfl, ?_⟩
      by_cases ne : ls = []
      · subst ne
        refine if_ff <| xe_int ⟨⟨_, rfl⟩, put 1 ?_⟩
        rw [← eo, cof_end size few so (List.map_eq_nil_iff.mp els.symm)]; rfl
      · rw [show (!(intL ls).isEmpty) = true from by cases ls with | nil => exact absurd rfl ne | cons _ _ => rfl]
        have l35 := (few.level (n := k + 1) (lev := ls) ((aft.val g ls gl).1.imp fun h => by omega) fun l hl => few.next.mpr ⟨g, ⟨o, so, ho, eo⟩, ((aft.val g ls gl).2 l).mp hl⟩)
        refine if_tt <| xe_sum <| xe_ofO <| xo_fg (v := 3) (g := fun n : Nat => .int (n : Int)) (f := fun l => .int (cof os ns z l)) (p := fun _ => true) <| xi_list <| xe_dget <| xe_var rfl <| xe_var rfl ⟨kvs.map dicE, .inl g, _, rfl, rfl, dg, _, .inl rfl, ls, rfl, rfl, by omega, fun l hl => ?_, _, rfl, (ls.map (cof os ns z)).map (fun n : Nat => (n : Int)), ?_, ?_⟩
        · try dsimp only [List.set]
          refine xt_yes ⟨rfl, rfl, fun _ => xe_dgetO ⟨_, rfl⟩ <| xe_var rfl ⟨_, .inl l, _, rfl, rfl, dget_cE (ready l hl), rfl, rfl⟩⟩
        · rw [show ls.filter (fun _ => true) = ls from List.filter_eq_self.mpr fun _ _ => rfl]
          simp [Function.comp_def]
        · refine ⟨⟨_, rfl⟩, put _ ?_⟩
          rw [sum_cast, ← eo, cof_go size few so (fun e => ne (by rw [els, e]; rfl)), ← els]
    · rintro δ1 ⟨s2, rfl⟩
      refine xs_retV (by decide) rfl ?_
      rw [show ((List.map (fun kv => keyD kv.fst) (kvs.map dicE)).reverse).length = kvs.reverse.length by simp, List.take_length]
      exact fin
/-! ### the number of orders, the order with a number -/
theorem bxor (ns : List Str) {o : List Str} {x : Str} (nd : ns.Nodup) (hx : x ∈ ns) (no : x ∉ o) : PySem.Builtin.bitXor ((bo ns (o ++ [x]) : Nat) : Int) ((bo ns o : Nat) : Int) = ((bo ns [x] : Nat) : Int) := by
  rw [PyProof.Rows.bitXor_and, band]
  have e1 : bo ns (o ++ [x]) &&& bo ns o = bo ns o := by
    unfold bo
    rw [nbv_and]
    exact nbv_congr fun y _ => by by_cases h : y ∈ o <;> simp [h]
  have e2 : bo ns (o ++ [x]) = bo ns o + bo ns [x] := by
    have h1 : bo ns (o ++ [x]) = bo ns (x :: o) := bo_ext.mpr fun y _ => by simp [or_comm]
    have h2 := bo_cons nd hx no
    have h3 := bo_cons (S := []) nd hx (by simp)
    rw [bo_nil] at h3
    omega
  rw [e1, e2]; omega
theorem cut_but {α : Type} {xs : List α} : G.cut xs none (some (-1)) = xs.take (xs.length - 1) := by
  unfold G.cut HT.sIx
  simp
  omega
theorem asc_filter {ls : List Nat} (asc : ls.Pairwise (· < ·)) {j l : Nat} (h : ls[j]? = some l) : ls.filter (fun k => decide (k < l)) = ls.take j := by
  obtain ⟨hj, e⟩ := List.getElem?_eq_some_iff.mp h
  have e1 : ls = ls.take j ++ ls.drop j := (List.take_append_drop _ _).symm
  conv => lhs; rw [e1]
  rw [List.filter_append, List.filter_eq_self.mpr, List.filter_eq_nil_iff.mpr, List.append_nil]
  · intro k hk
    obtain ⟨i, hi⟩ := List.mem_iff_getElem?.mp hk
    rw [List.getElem?_drop] at hi
    obtain ⟨h1, h2⟩ := List.getElem?_eq_some_iff.mp hi
    rcases Nat.eq_zero_or_pos i with q | q
    · subst q; simp at h2; subst h2; subst e; simp
    · have := List.pairwise_iff_getElem.mp asc j (j + i) hj h1 (by omega)
      simp; omega
  · intro k hk
    obtain ⟨i, hi⟩ := List.mem_iff_getElem?.mp hk
    rw [List.getElem?_take] at hi
    split at hi
    · rename_i q
      obtain ⟨h1, h2⟩ := List.getElem?_eq_some_iff.mp hi
      have := List.pairwise_iff_getElem.mp asc i j h1 hj q
      simp; omega
    · cases hi
def F_many : FR := fun ds Φ => ∃ (os : List Rl) (ns : List Str) (s : Nat), ds = [roomF os ns] ∧ Few os ns ∧ Size os s ∧ Φ (.d (.int (dfs os ns s []).length))
theorem ok_many (T : Txt K mg a) (G_lots_after : FnOk P w K mg base CX0 2 a.f_lots_after a.fd_lots_after ["room"] (spR (ZZ K a) F_lots_after)) (G_orders_on : FnOk P w K mg base CX0 1 a.f_orders_on a.fd_orders_on ["after"] (spR (ZZ K a) F_orders_on)) : FnOk P w K mg base CX0 3 a.f_many a.fd_many ["room"] (spR (ZZ K a) F_many) := by
  refine T.F_many.ok sc_many (fun vs H Q E h => ?_) (fun cdv A outer s H vs Q E hr h => ?_)
  · obtain ⟨M, ds, Φ, _, al, ⟨os, ns, s, rfl, _⟩, _⟩ := h
    exact al.len
  · obtain ⟨M, ds, Φ, ex, al, ⟨os, ns, z, rfl, few, size, fin⟩, q⟩ := h
    refine ⟨_, (pss_one (ps_ret (pe_dget (units1 hr) (pe_call G_orders_on (hr.mono (by decide)) (by rfl) T.m_orders_on T.F_orders_on.kp T.b_orders_on .nil pass0 (pa_cons (pe_call G_lots_after (hr.mono (by decide)) (by rfl) T.m_lots_after T.F_lots_after.kp T.b_lots_after .nil pass0 (pa_cons (pv 0) pa_nil)) pa_nil)) pe_int (fun _ _ => rfl)))), entR (n := 0) ex al rfl q ?_⟩
    walk_at "ent"
    refine xs_ret <| xe_dget <| xe_ofOD <| xr_call (fun _ => .nil) <| xa_cons <| xe_ofOD <| xr_call (fun _ => .nil) <| xa_cons <| xe_var rfl <| xa_nil ⟨os, ns, rfl, few, fun kvs aft => on_o ⟨_, rfl, xa_nil ⟨os, ns, z, kvs, rfl, few, size, aft, on_o ⟨kvs.reverse.map (cE os ns z), rfl, xe_int ⟨kvs.reverse.map (cE os ns z), .inl 0, .int (cof os ns z 0), rfl, rfl, dget_cE ?_, ?_⟩⟩⟩⟩⟩
    · rw [List.map_reverse, List.mem_reverse]
      exact (aft.key 0).mpr ⟨0, by omega, [], Steps.nil, rfl, bo_nil⟩
    · have := cof_is (s := z) few (Steps.nil (rs := os))
      rw [bo_nil] at this
      rw [this]; exact fin
def F_lot_at : FR := fun ds Φ => ∃ (ls : List Nat) (cs : List (Key × D)) (f : Nat → Nat) (j m l : Nat), ds = [.lst (intL ls), dicD cs, .int ((((ls.take j).map f).sum + m : Nat) : Int)] ∧ ls[j]? = some l ∧ m < f l ∧ (∀ l ∈ ls, dget cs (.inl l) = some (.int (f l))) ∧ ls.length ≤ 1000 ∧ Φ (.d (.tup [.int l, .int m]))
theorem ok_lot_at (T : Txt K mg a) : FnOk P w K mg base CX0 1 a.f_lot_at a.fd_lot_at ["after", "counts", "at"] (spR (ZZ K a) F_lot_at) := by
  refine T.F_lot_at.ok sc_lot_at (fun vs H Q E h => ?_) (fun cdv A outer s H vs Q E hr h => ?_)
  · obtain ⟨M, ds, Φ, _, al, ⟨ls, cs, f, j, m, l, rfl, _⟩, _⟩ := h
    exact al.len
  · obtain ⟨M, ds, Φ, ex, al, ⟨ls, cs, f, j, m, l, rfl, hj, hm, hd, hl, fin⟩, q⟩ := h
    refine ⟨_, (pss_cons (ps_for PassesOwn.never rfl (pi_list (pe_slice (show SlR _ (rSlL K) from sl_list) (pv 0) po_none (po_some (pe_un un_neg pe_int)))) (pg_name (i := 3) sc_lot_at.nd rfl (Or.inl rfl))
      (pss_cons (ps_if (pt_cmpR op_lt (pv 2) (pe_dget (units1 hr) (pv 1) (pv 3) (fun _ _ => rfl)) (nomark _)) (pss_one (ps_ret (pe_tup (pa_cons (pv 3) (pa_cons (pv 2) pa_nil))))) pss_nil)
      (pss_one (ps_aug (i := 2) sc_lot_at.nd rfl (Or.inl rfl) (pe_dget (units1 hr) (pv 1) (pv 3) (fun _ _ => rfl)) ip_sub))))
      (pss_one (ps_ret (pe_tup (pa_cons (pe_ix (show IxR _ (rIx K) from ix_seq) (pv 0) (pe_un un_neg pe_int) (fun _ _ => rfl)) (pa_cons (pv 2) pa_nil)))))), entR (n := 1) ex al rfl q ?_⟩
    walk_at "ent"
    have jl := (List.getElem?_eq_some_iff.mp hj).1
    have hl1 : l = ls[j] := (List.getElem?_eq_some_iff.mp hj).2.symm
    have sumS : ∀ i (h : i < ls.length), ((ls.take (i + 1)).map f).sum = ((ls.take i).map f).sum + f ls[i] := fun i h => by
      rw [GS.take_get (List.getElem?_eq_getElem h), List.map_append, List.sum_append]
      simp only [List.map_cons, List.map_nil, List.sum_cons, List.sum_nil, Nat.add_zero]
    have sumM : ∀ i k, i ≤ k → ((ls.take i).map f).sum ≤ ((ls.take k).map f).sum := fun i k h => by
      obtain ⟨e, rfl⟩ : ∃ e, k = i + e := ⟨k - i, by omega⟩
      rw [List.take_add, List.map_append, List.sum_append]; omega
    refine xs_seq <| xs_for (vs := [3]) <| xi_list <| xe_ofO <| xo_sl <| xe_var rfl <| xp_no <| xp_part <| xe_neg <| xe_int ⟨_, rfl, _, rfl, _, rfl, _, rfl, _, .inl rfl, ?_⟩
    rw [show G.cut (intL ls) none (some (-1)) = intL (ls.take (ls.length - 1)) from by rw [cut_but]; simp [intL]]
    refine ⟨fun i δ => i ≤ j ∧ i ≤ ls.length - 1 ∧ ∃ (n : Nat) (s3 : S), δ = [.d (.lst (intL ls)), .d (dicD cs), .d (.int n), s3] ∧ n + ((ls.take i).map f).sum = ((ls.take j).map f).sum + m, ⟨by omega, by omega, _, _, rfl, by simp⟩, ?_, ?_⟩
    · rintro i d δ1 hi ⟨ij, il, n, s3, rfl, hn⟩
      obtain ⟨g, hg, rfl⟩ : ∃ g : Nat, (ls.take (ls.length - 1))[i]? = some g ∧ D.int g = d := by
        unfold intL at hi
        rw [List.getElem?_map] at hi
        exact Option.map_eq_some_iff.mp hi
      rw [List.getElem?_take] at hg
      split at hg
      case isFalse => cases hg
      rename_i i1
      have gm := List.mem_of_getElem? hg
      have gl := List.getElem?_eq_some_iff.mp hg
      have s1 := sumS i gl.1
      rw [gl.2] at s1
      refine xg_name (by decide) (by decide) ?_
      try dsimp only [List.set]
      refine xs_seq <| xs_if <| xt_test <| xe_B0 <| xe_var rfl <| xe_dget <| xe_var rfl <| xe_var rfl ⟨cs, .inl g, _, rfl, rfl, hd g gm, _, _, rfl, rfl, _, rfl, ?_⟩
      rcases Nat.lt_or_ge i j with c | c
      · have s2 := sumM (i + 1) j c
        rw [decide_eq_false (by omega)]
        refine if_ff <| xs_next <| xs_augI (by decide) (m := n) ?_ rfl
        refine xe_dget <| xe_var rfl <| xe_var rfl ⟨cs, .inl g, _, rfl, rfl, hd g gm, _, rfl, ?_⟩
        refine ⟨c, by omega, n - f g, .d (.int g), ?_, by omega⟩
        rw [show ((n : Int) - (f g : Int)) = ((n - f g : Nat) : Int) by omega]; rfl
      · obtain rfl : i = j := by omega
        obtain rfl : g = l := by rw [hj] at hg; cases hg; rfl
        have : n = m := by omega
        subst this
        rw [decide_eq_true (by omega)]
        exact if_tt <| xs_ret <| xe_tup <| xa_cons <| xe_var rfl <| xa_cons <| xe_var rfl <| xa_nil ⟨by simp, fin⟩
    · rintro δ1 ⟨ij, il, n, s3, rfl, hn⟩
      rw [show (intL (ls.take (ls.length - 1))).length = ls.length - 1 by simp [intL]] at ij hn
      obtain rfl : j = ls.length - 1 := by omega
      have : n = m := by omega
      subst this
      refine xs_ret <| xe_tup <| xa_cons <| xe_ix <| xe_var rfl <| xe_neg <| xe_int ⟨_, rfl, _, .int l, rfl, ?_, xa_cons <| xe_var rfl <| xa_nil ⟨by simp, fin⟩⟩
      show L2.atI (intL ls) (-1) = _
      obtain ⟨ys, e⟩ : ∃ ys, ls = ys ++ [l] := by
        have := GS.take_get hj
        rw [show ls.length - 1 + 1 = ls.length by omega, List.take_length] at this
        exact ⟨_, this⟩
      rw [e]
      unfold intL
      rw [List.map_append]
      exact L2.atI_last _ _
def F_order_at : FR := fun ds Φ => ∃ (os : List Rl) (ns : List Str) (s n : Nat) (r : List Str), ds = [roomF os ns, .int n] ∧ Few os ns ∧ Size os s ∧ (dfs os ns s [])[n]? = some r ∧ Φ (.d (.tup (r.map .str)))
theorem ok_order_at (T : Txt K mg a) (G_lots_after : FnOk P w K mg base CX0 2 a.f_lots_after a.fd_lots_after ["room"] (spR (ZZ K a) F_lots_after)) (G_orders_on : FnOk P w K mg base CX0 1 a.f_orders_on a.fd_orders_on ["after"] (spR (ZZ K a) F_orders_on)) (G_is_index : FnOk P w K mg base CX0 2 a.f_is_index a.fd_is_index ["value", "many"] (spR (ZZ K a) F_is_index)) (G_lot_at : FnOk P w K mg base CX0 1 a.f_lot_at a.fd_lot_at ["after", "counts", "at"] (spR (ZZ K a) F_lot_at)) (G_names_of : FnOk P w K mg base CX0 1 a.f_names_of a.fd_names_of ["names", "bits"] (spR (ZZ K a) F_names_of)) : FnOk P w K mg base CX0 3 a.f_order_at a.fd_order_at ["room", "at"] (spR (ZZ K a) F_order_at) := by
  refine T.F_order_at.ok sc_order_at (fun vs H Q E h => ?_) (fun cdv A outer s H vs Q E hr h => ?_)
  · obtain ⟨M, ds, Φ, _, al, ⟨os, ns, s, i, r, rfl, _⟩, _⟩ := h
    exact al.len
  · obtain ⟨M, ds, Φ, ex, al, ⟨os, ns, z, n0, r0, rfl, few, size, hr00, fin0⟩, q⟩ := h
    obtain ⟨i, hi0⟩ : ∃ i : Int, i = (n0 : Int) := ⟨_, rfl⟩
    have lt00 := (List.getElem?_eq_some_iff.mp hr00).1
    have fin : ∀ (n : Nat) r, i = n → (dfs os ns z [])[n]? = some r → Φ (.d (.tup (r.map .str))) := fun n r h1 h2 => by
      obtain rfl : n = n0 := by omega
      rw [hr00] at h2; cases h2; exact fin0
    rw [← hi0] at al
    refine ⟨_, PSs.nox ((pss_cons (ps_set (i := 2) sc_order_at.nd rfl (Or.inl rfl) (pe_call G_lots_after (hr.mono (by decide)) (by rfl) T.m_lots_after T.F_lots_after.kp T.b_lots_after .nil pass0 (pa_cons (pv 0) pa_nil)))
      (pss_cons (ps_set (i := 3) sc_order_at.nd rfl (Or.inl rfl) (pe_call G_orders_on (hr.mono (by decide)) (by rfl) T.m_orders_on T.F_orders_on.kp T.b_orders_on .nil pass0 (pa_cons (pv 2) pa_nil)))
      (pss_cons (ps_if (pt_not (pt_val (pe_call G_is_index (hr.mono (by decide)) (by rfl) T.m_is_index T.F_is_index.kp T.b_is_index .nil pass0 (pa_cons (pv 1) (pa_cons (pe_dget (units1 hr) (pv 3) pe_int (fun _ _ => rfl)) pa_nil))))) (pss_one ps_never) pss_nil)
      (pss_cons (ps_set (i := 4) sc_order_at.nd rfl (Or.inl rfl) (pe_lst pa_nil))
      (pss_cons (ps_set (i := 5) sc_order_at.nd rfl (Or.inl rfl) pe_int)
      (pss_cons (ps_while PassesOwn.never (pt_truth (pe_dget (units1 hr) (pv 2) (pv 5) (fun _ _ => rfl)) (by intro _; rfl)) (pss_cons (ps_asg (pe_call G_lot_at (hr.mono (by decide)) (by rfl) T.m_lot_at T.F_lot_at.kp T.b_lot_at .nil pass0 (pa_cons (pe_dget (units1 hr) (pv 2) (pv 5) (fun _ _ => rfl)) (pa_cons (pv 3) (pa_cons (pv 1) pa_nil)))) (pg_tup rfl (pgs_cons (pg_name (i := 6) sc_order_at.nd rfl (Or.inl rfl)) (pgs_cons (pg_name (i := 1) sc_order_at.nd rfl (Or.inl rfl)) pgs_nil))))
      (pss_cons (ps_expr (pe_bm PySem.F.plainAttrs_list PySem.F.slot_list_extend PySem.F.type_list_extend GX.mt_extF (pv 4) (pa_cons (pe_call G_names_of (hr.mono (by decide)) (by rfl) T.m_names_of T.F_names_of.kp T.b_names_of .nil pass0 (pa_cons (pe_fldK (K := K) rfl (pv 0) rfl) (pa_cons (pe_op op_xor (pv 6) (pv 5)) pa_nil))) pa_nil)))
      (pss_one (ps_set (i := 5) sc_order_at.nd rfl (Or.inl rfl) (pv 6))))))
      (pss_one (ps_ret (pe_callTy call_tuple_of (by rfl) T.n_tuple (by decide +kernel) (pa_cons (pv 4) pa_nil))))))))))), entR (n := 5) ex al rfl q ?_⟩
    walk_at "ent"
    refine xs_seq <| xs_setO (by decide) <| xr_call (fun _ => .nil) <| xa_cons <| xe_var rfl <| xa_nil ⟨os, ns, rfl, few, fun kvs aft => on_o ⟨by simp, ?_⟩⟩
    try dsimp only [List.set]
    refine xs_freezeD (i := 2) (by decide) rfl ?_
    try dsimp only [List.set]
    refine xs_seq <| xs_setO (by decide) <| xr_call (fun _ => .nil) <| xa_cons <| xe_var rfl <| xa_nil ⟨os, ns, z, kvs, rfl, few, size, aft, on_o ⟨by simp, ?_⟩⟩
    try dsimp only [List.set]
    refine xs_freezeD (i := 3) (by decide) rfl ?_
    try dsimp only [List.set]
    have inKeys : ∀ {o}, Steps os o → bo ns o ∈ kvs.reverse.map (·.1) := fun {o} so => by
      rw [List.map_reverse, List.mem_reverse]
      have := few.len so
      have := few.s
      exact (aft.key _).mpr ⟨o.length, by omega, o, so, rfl, rfl⟩
    have c0 : cof os ns z 0 = (dfs os ns z []).length := by
      have := cof_is (s := z) few (Steps.nil (rs := os))
      rwa [bo_nil] at this
    have k0 : (0 : Nat) ∈ kvs.reverse.map (·.1) := by have := inKeys (Steps.nil (rs := os)); rwa [bo_nil] at this
    refine xs_seq <| xs_if <| xt_not <| xt_test <| xr_call (fun _ => .nil) <| xa_cons <| xe_var rfl <| xa_cons <| xe_dget <| xe_var rfl <| xe_int ⟨_, .inl 0, _, rfl, rfl, dget_cE k0, xa_nil ⟨i, _, rfl, on_d ⟨_, rfl, ite_b (fun c => ?_) (fun c => ?_)⟩⟩⟩
    · have c : ¬ (0 ≤ i ∧ i < (dfs os ns z []).length) := fun k => by rw [c0, decide_eq_true k] at c; cases c
      exact absurd ⟨by omega, by omega⟩ c
    have c : 0 ≤ i ∧ i < (dfs os ns z []).length := by rw [c0] at c; simpa using c
    obtain ⟨n, rfl⟩ : ∃ n : Nat, i = n := ⟨i.toNat, by omega⟩
    obtain ⟨r, hr0⟩ : ∃ r, (dfs os ns z [])[n]? = some r := ⟨_, List.getElem?_eq_getElem (by omega)⟩
    refine xs_next <| xs_seq <| xs_setO (by decide) <| xo_lst <| xa_nil ⟨by simp, by simp, ?_⟩
    try dsimp only [List.set]
    refine xs_seq <| xs_set (by decide) <| xe_int ?_
    try dsimp only [List.set]
    refine xs_seq <| xs_while (fun m δ => ∃ (o t : List Str) (n' : Nat) (s6 : S), δ = [.d (roomF os ns), .d (.int n'), .d (dicD (kvs.map dicE)), .d (dicD (kvs.reverse.map (cE os ns z))), .own (.lst (o.map .str)), .d (.int (bo ns o)), s6] ∧ Steps os o ∧ r = o ++ t ∧ (dfs os ns (z - o.length) o)[n']? = some t ∧ m = t.length) ⟨_, [], r, n, _, by rw [bo_nil]; rfl, Steps.nil, rfl, hr0, rfl⟩ ?_
    rintro m δ ⟨o, t, n', s6, rfl, so, er, ht, rfl⟩
    have dg : dget (kvs.map dicE) (.inl (bo ns o)) = some (.lst (intL ((nxt os ns o).map fun x => bo ns (o ++ [x])))) := dget_some aft.nd (aft.at few so)
    refine xt_truth <| xe_dget <| xe_var rfl <| xe_var rfl ⟨kvs.map dicE, .inl (bo ns o), _, rfl, rfl, dg, nofun, _, rfl, ?_⟩
    by_cases ne : nxt os ns o = []
    · rw [ne]
      refine if_ff <| xs_ret <| xe_tupleO rfl ?_
      have e := (size.go few so).mp ne
      rw [e, Nat.sub_self] at ht
      have tl := dfs_len (List.mem_of_getElem? ht)
      rw [List.length_eq_zero_iff.mp tl, List.append_nil] at er
      subst er
      exact fin n r rfl hr0
    · have lt : o.length < z := Nat.lt_of_le_of_ne (size.l o so) fun h => ne ((size.go few so).mpr h)
      obtain ⟨k, hk⟩ : ∃ k, z - o.length = k + 1 := ⟨z - o.length - 1, by omega⟩
      rw [hk] at ht
      obtain ⟨j, x, m, t', h1, h2, rfl, h4⟩ := dfs_inv ht
      have xm := (mem_nxt few).mp (List.mem_of_getElem? h1)
      have sx := so.snoc xm
      obtain ⟨xo, ws, xr, _⟩ := mem_may.mp xm
      have xn : x ∈ ns := few.m _ xr x (by simp)
      rw [show (!(intL ((nxt os ns o).map fun x => bo ns (o ++ [x]))).isEmpty) = true from by cases e : nxt os ns o with | nil => exact absurd e ne | cons _ _ => rfl]
      have cofx : ∀ y ∈ nxt os ns o, cof os ns z (bo ns (o ++ [y])) = (dfs os ns k (o ++ [y])).length := fun y hy => by
        rw [cof_is few (so.snoc ((mem_nxt few).mp hy)), List.length_append, List.length_singleton, show z - (o.length + 1) = k by omega]
      have l7 : (nxt os ns o).length ≤ ns.length := List.length_filter_le _ _
      have l8 := few.s
      refine if_tt <| xs_seq <| xs_asg (vs := [6, 1]) <| xr_call (fun _ => .nil) <| xa_cons <| xe_dget <| xe_var rfl <| xe_var rfl ⟨kvs.map dicE, .inl (bo ns o), _, rfl, rfl, dg, xa_cons <| xe_var rfl <| xa_cons <| xe_var rfl <| xa_nil ⟨(nxt os ns o).map fun x => bo ns (o ++ [x]), kvs.reverse.map (cE os ns z), cof os ns z, j, m, bo ns (o ++ [x]), ?_, ?_, ?_, ?_, by simp; omega, on_d ?_⟩⟩
      · have e : ((((nxt os ns o).map fun x => bo ns (o ++ [x])).take j).map (cof os ns z)).sum = (((nxt os ns o).take j).map fun y => (dfs os ns k (o ++ [y])).length).sum := by
          rw [← List.map_take, List.map_map]
          exact congrArg List.sum (List.map_congr_left fun y hy => cofx y (List.mem_of_mem_take hy))
        rw [e, ← h2]; rfl
      · rw [List.getElem?_map, h1]; rfl
      · rw [cofx x (List.mem_of_getElem? h1)]
        exact (List.getElem?_eq_some_iff.mp h4).1
      · intro l hl
        obtain ⟨y, hy, rfl⟩ := List.mem_map.mp hl
        exact dget_cE (inKeys (so.snoc ((mem_nxt few).mp hy)))
      refine xg_tup (xs := [.int (bo ns (o ++ [x])), .int m]) (by rfl) (xgs_cons (xg_name (by decide) (by decide) (xgs_cons (xg_name (by decide) (by decide) (xgs_nil ?_)))))
      try dsimp only [List.set]
      have one : ns.filter (fun n => decide (n ∈ [x])) = [x] := GS.Asc.uniq (few.a.sublist List.filter_sublist) (List.pairwise_singleton _ _) fun y => by
        rw [List.mem_filter]
        simp
        exact fun e => e ▸ xn
      refine xs_seq <| xs_drop <| xe_extF ⟨_, rfl⟩ <| xr_call (fun _ => .nil) <| xa_cons <| xe_mnames T <| xe_var rfl ⟨_, _, rfl, xa_cons <| xe_I0 <| xe_var rfl <| xe_var rfl ⟨_, _, rfl, rfl, xa_nil ⟨ns, [x], ?_, by omega, on_d ?_⟩⟩⟩
      · rw [bxor ns few.nd xn xo]; rfl
      rw [one]
      have ol := few.len so
      refine ⟨_, _, rfl, rfl, by simp; omega, ?_⟩
      try dsimp only [List.set]
      refine xs_set (by decide) <| xe_var rfl ?_
      refine ⟨_, ?_, o ++ [x], t', m, .d (.int (bo ns (o ++ [x]))), by simp, sx, by rw [er]; simp, ?_, rfl⟩
      · simp
      · rw [List.length_append, List.length_singleton, show z - (o.length + 1) = k by omega]; exact h4
/-- where a sequence of names is no order -/
def WrongAt (os : List Rl) (ws : List Str) : Option Nat → Prop
  | none => Ord os ws
  | some k => Steps os (ws.take k) ∧ k ≤ ws.length ∧ (∀ x, ws[k]? = some x → x ∉ mayS os (ws.take k)) ∧ (k = ws.length → ∃ x, x ∈ mayS os ws)
def optD : Option Nat → D | none => .non | some k => .int k
def F_wrong_at : FR := fun ds Φ => ∃ (os : List Rl) (ns ws : List Str) (d : D), ds = [roomD os ns, d] ∧ isStrs d ws ∧ ws.length ≤ 3000 ∧ os.length ≤ 200 ∧ (∀ r ∈ os, r.2.length ≤ 14) ∧ ∀ r, WrongAt os ws r → Φ (.d (optD r))
theorem ok_wrong_at (T : Txt K mg a) (G_may : FnOk P w K mg base CX0 2 a.f_may a.fd_may ["room", "gone"] (spR (ZZ K a) F_may)) : FnOk P w K mg base CX0 3 a.f_wrong_at a.fd_wrong_at ["room", "order"] (spR (ZZ K a) F_wrong_at) := by
  refine T.F_wrong_at.ok sc_wrong_at (fun vs H Q E h => ?_) (fun cdv A outer s H vs Q E hr h => ?_)
  · obtain ⟨M, ds, Φ, _, al, ⟨os, ns, ws, d, rfl, _⟩, _⟩ := h
    exact al.len
  · obtain ⟨M, ds, Φ, ex, al, ⟨os, ns, ws, d, rfl, hd, hw, h1, h2, fin⟩, q⟩ := h
    refine ⟨_, (pss_cons (ps_set (i := 2) sc_wrong_at.nd rfl (Or.inl rfl) (pe_lst pa_nil))
      (pss_cons (ps_for PassesOwn.never rfl (G.pi_or (pi_enum (by rfl) T.n_enumerate (pa_cons (pv 1) pa_nil)) (GE.pi_enumT (by rfl) T.n_enumerate (pa_cons (pv 1) pa_nil))) (pg_tup rfl (pgs_cons (pg_name (i := 3) sc_wrong_at.nd rfl (Or.inl rfl)) (pgs_cons (pg_name (i := 4) sc_wrong_at.nd rfl (Or.inl rfl)) pgs_nil)))
      (pss_cons (ps_if (pt_cmpR (show OpR _ (compareOp .NotIn) (rIn K true) from op_notIn_seq) (pv 4) (pe_call G_may (hr.mono (by decide)) (by rfl) T.m_may T.F_may.kp T.b_may .nil pass0 (pa_cons (pv 0) (pa_cons (pv 2) pa_nil))) rfl) (pss_one (ps_ret (pv 3))) pss_nil)
      (pss_one (ps_expr (pe_bm PySem.F.plainAttrs_list PySem.F.slot_list_append PySem.F.type_list_append mt_append (pv 2) (pa_cons (pv 4) pa_nil))))))
      (pss_one (ps_ret (pe_ifExp (pt_truth (pe_call G_may (hr.mono (by decide)) (by rfl) T.m_may T.F_may.kp T.b_may .nil pass0 (pa_cons (pv 0) (pa_cons (pv 2) pa_nil))) (by intro _; rfl)) (pe_callB (show CallR _ (.builtin "len") (G.rLen K) from call_len) (by rfl) T.n_len PySem.boot_len (pa_cons (pv 2) pa_nil)) pe_non))))), entR (n := 3) ex al rfl q ?_⟩
    walk_at "ent"
    refine xs_seq <| xs_setO (by decide) <| xo_lst <| xa_nil ⟨by decide, by simp, ?_⟩
    dsimp only [List.set]
    refine xs_seq <| xs_for (vs := [3, 4]) (xi_enumV (xs := ws.map .str) rfl hd ?_)
    have may : ∀ {bs : List Nat} {δ : List S} {te : TE} {i : Nat} (gs : List Str) {Φ : D → List S → Prop}, XE (ZZ K a) te δ (fun d δ1 => d = roomD os ns ∧ δ1[i]? = some (.own (.lst (gs.map .str))) ∧ ∀ ys, GS.IsLot ys (mayS os gs) → Φ (.tup (ys.map .str)) δ1) → XE (ZZ K a) (tCall (spR (ZZ K a) F_may) [] E0 (tCons te (tCons (tVar i) tNil))) δ Φ := fun {bs δ te i} gs {Φ} h => by
      refine xr_callL2 (fun _ => .nil) (XR.imp h fun s δ' k => ?_)
      cases s with
      | d x =>
        obtain ⟨rfl, k1, k2⟩ := k
        refine ⟨_, k1, os, .tup (ns.map .str), .lst (gs.map .str), gs, rfl, .inl rfl, by omega, fun r hr => Nat.le_trans (h2 r hr) (by decide), fun ys hys => ⟨?_, on_d (k2 ys hys)⟩⟩
        show (List.map D.str ys).all loose1 = true
        simp [loose1]
      | _ => exact k.elim
    refine ⟨fun i δ => ∃ s3 s4 : S, δ = [.d (roomD os ns), .d d, .own (.lst ((ws.take i).map .str)), s3, s4] ∧ Steps os (ws.take i), ⟨_, _, rfl, Steps.nil⟩, ?_, ?_⟩
    · rintro i x δ1 hi ⟨s3, s4, rfl, st⟩
      obtain ⟨y, hy, rfl⟩ := enumD_at hi
      obtain ⟨n, hn, rfl⟩ : ∃ n, ws[i]? = some n ∧ D.str n = y := by simpa using hy
      have hil := (List.getElem?_eq_some_iff.mp hn).1
      refine xg_tup (by rfl) (xgs_cons (xg_name (by decide) (by decide) (xgs_cons (xg_name (by decide) (by decide) (xgs_nil ?_)))))
      dsimp only [List.set]
      refine xs_seq <| xs_if <| xt_test <| xe_ninT <| xe_var rfl <| may (bs := []) (ws.take i) <| xe_var rfl ⟨rfl, rfl, fun ys hys => ⟨n, ys, rfl, .inr rfl, _, rfl, ite_b (fun h => ?_) (fun h => ?_)⟩⟩
      · refine xs_ret <| xe_var rfl <| fin (some i) ⟨st, by omega, fun x hx => ?_, fun e => by omega⟩
        rw [hn] at hx; cases hx
        exact fun q => by simp [(hys.mem n).mpr q] at h
      · refine xs_next <| xs_drop <| xe_app ⟨_, rfl⟩ <| xe_var rfl ⟨_, rfl, by simp; omega, .d (.int i), .d (.str n), ?_, st.next hn ?_⟩
        · rw [GS.take_get hn]; simp
        · exact (hys.mem n).mp (by simpa using h)
    · rintro δ1 ⟨s3, s4, rfl, st⟩
      rw [enumD_len, List.length_map, List.take_length] at *
      refine xs_ret <| xr_if <| xt_truth <| may (bs := []) ws <| xe_var rfl ⟨rfl, rfl, fun ys hys => ⟨nofun, _, rfl, ite_b (fun h => ?_) (fun h => ?_)⟩⟩
      · refine xe_lenO rfl ?_
        have : ys ≠ [] := fun e => by subst e; simp at h
        obtain ⟨x, hx⟩ := List.exists_mem_of_ne_nil _ this
        rw [List.length_map]
        exact fin (some ws.length) ⟨by rw [List.take_length]; exact st, Nat.le_refl _, fun x hx => by simp at hx, fun _ => ⟨x, (hys.mem x).mp hx⟩⟩
      · refine xe_non <| fin none ⟨st, fun x hx => ?_⟩
        have : ys ≠ [] := List.ne_nil_of_mem ((hys.mem x).mpr hx)
        cases ys with
        | nil => exact this rfl
        | cons y ys => simp at h
def F_check_order : FR := fun ds Φ => ∃ (os : List Rl) (ns ws : List Str) (d : D), ds = [roomD os ns, d] ∧ isStrs d ws ∧ ws.length ≤ 3000 ∧ os.length ≤ 200 ∧ (∀ r ∈ os, r.2.length ≤ 14) ∧ Ord os ws ∧ Φ (.d .non)
theorem WrongAt.ord {os : List Rl} {ws : List Str} {r : Option Nat} (h : WrongAt os ws r) (o : Ord os ws) : r = none := by
  cases r with
  | none => rfl
  | some k =>
    obtain ⟨_, h1, h2, h3⟩ := h
    rcases Nat.lt_or_ge k ws.length with q | q
    · exact absurd (o.1 k _ (List.getElem?_eq_getElem q)) (h2 _ (List.getElem?_eq_getElem q))
    · obtain ⟨x, hx⟩ := h3 (by omega)
      exact absurd hx (o.2 x)
theorem isStrs.ty {d : D} {ws : List Str} (h : isStrs d ws) : ∃ t, tyD d = some t := by rcases h with rfl | rfl <;> exact ⟨_, rfl⟩
theorem isStrs.seq {d : D} {ws : List Str} (h : isStrs d ws) : (seqOf d).isSome = true := by rcases h with rfl | rfl <;> rfl
theorem ok_check_order (T : Txt K mg a) (G_is_sequence : FnOk P w K mg base CX0 1 a.f_is_sequence a.fd_is_sequence ["value"] (spR (ZZ K a) F_is_sequence)) (G_wrong_at : FnOk P w K mg base CX0 3 a.f_wrong_at a.fd_wrong_at ["room", "order"] (spR (ZZ K a) F_wrong_at)) : FnOk P w K mg base CX0 4 a.f_check_order a.fd_check_order ["room", "order"] (spR (ZZ K a) F_check_order) := by
  refine T.F_check_order.ok sc_check_order (fun vs H Q E h => ?_) (fun cdv A outer s H vs Q E hr h => ?_)
  · obtain ⟨M, ds, Φ, _, al, ⟨os, ns, ws, d, rfl, _⟩, _⟩ := h
    exact al.len
  · obtain ⟨M, ds, Φ, ex, al, ⟨os, ns, ws, d, rfl, hd, hw, h1, h2, od, fin⟩, q⟩ := h
    refine ⟨_, PSs.nox ((pss_cons (ps_if (pt_not (pt_val (pe_call G_is_sequence (hr.mono (by decide)) (by rfl) T.m_is_sequence T.F_is_sequence.kp T.b_is_sequence .nil pass0 (pa_cons (pv 1) pa_nil)))) (pss_one ps_never) pss_nil)
      (pss_cons (ps_set (i := 2) sc_check_order.nd rfl (Or.inl rfl) (pe_call G_wrong_at (hr.mono (by decide)) (by rfl) T.m_wrong_at T.F_wrong_at.kp T.b_wrong_at .nil pass0 (pa_cons (pv 0) (pa_cons (pv 1) pa_nil))))
      (pss_one (ps_if (pt_cmpR GS.op_notX (pv 2) pe_non (nomark _)) (pss_one ps_never) pss_nil))))), entR (n := 1) ex al rfl q ?_⟩
    walk_at "ent"
    refine xs_seq <| xs_if <| xt_not <| xt_test <| xr_call (fun _ => .nil) <| xa_cons <| xe_var rfl <| xa_nil ⟨d, rfl, hd.ty, on_d ⟨_, rfl, ?_⟩⟩
    rw [hd.seq]
    refine if_nt <| xs_next <| xs_seq <| xs_set (by decide) <| xr_call (fun _ => .nil) <| xa_cons <| xe_var rfl <| xa_cons <| xe_var rfl <| xa_nil ⟨os, ns, ws, d, rfl, hd, hw, h1, h2, fun r hr => on_d ?_⟩
    cases hr.ord od
    dsimp only [List.set]
    exact xs_if <| xt_test <| xe_notN <| xe_var rfl ⟨_, rfl, if_ff (xs_next fin)⟩
def F_is_orderS : FR := fun ds Φ => ∃ (os : List Rl) (ns ws : List Str) (d : D), ds = [roomD os ns, d] ∧ isStrs d ws ∧ ws.length ≤ 3000 ∧ os.length ≤ 200 ∧ (∀ r ∈ os, r.2.length ≤ 14) ∧ Ord os ws ∧ Φ (.d (.bl true))
theorem ok_is_orderS (T : Txt K mg a) (G_is_sequence : FnOk P w K mg base CX0 1 a.f_is_sequence a.fd_is_sequence ["value"] (spR (ZZ K a) F_is_sequence)) (G_wrong_at : FnOk P w K mg base CX0 3 a.f_wrong_at a.fd_wrong_at ["room", "order"] (spR (ZZ K a) F_wrong_at)) : FnOk P w K mg base CX0 4 a.f_is_order a.fd_is_order ["room", "value"] (spR (ZZ K a) F_is_orderS) := by
  refine T.F_is_order.ok sc_is_order (fun vs H Q E h => ?_) (fun cdv A outer s H vs Q E hr h => ?_)
  · obtain ⟨M, ds, Φ, _, al, ⟨os, ns, ws, d, rfl, _⟩, _⟩ := h
    exact al.len
  · obtain ⟨M, ds, Φ, ex, al, ⟨os, ns, ws, d, rfl, hd, hw, h1, h2, od, fin⟩, q⟩ := h
    refine ⟨_, (pss_one (ps_ret (pe_and (pe_call G_is_sequence (hr.mono (by decide)) (by rfl) T.m_is_sequence T.F_is_sequence.kp T.b_is_sequence .nil pass0 (pa_cons (pv 1) pa_nil)) (pe_one (pe_cmpR GS.op_isX (pe_call G_wrong_at (hr.mono (by decide)) (by rfl) T.m_wrong_at T.F_wrong_at.kp T.b_wrong_at .nil pass0 (pa_cons (pv 0) (pa_cons (pv 1) pa_nil))) pe_non (nomark _)))))), entR (n := 0) ex al rfl q ?_⟩
    walk_at "ent"
    refine xs_ret <| xe_andV <| xr_call (fun _ => .nil) <| xa_cons <| xe_var rfl <| xa_nil ⟨d, rfl, hd.ty, on_d ⟨_, rfl, ?_⟩⟩
    rw [hd.seq]
    refine if_tt <| xe_isN <| xr_call (fun _ => .nil) <| xa_cons <| xe_var rfl <| xa_cons <| xe_var rfl <| xa_nil ⟨os, ns, ws, d, rfl, hd, hw, h1, h2, fun r hr => on_d ?_⟩
    cases hr.ord od
    exact fin
def F_number_of : FR := fun ds Φ => ∃ (os : List Rl) (ns : List Str) (s n : Nat) (ws : List Str) (d : D), ds = [roomF os ns, d] ∧ isStrs d ws ∧ Few os ns ∧ Size os s ∧ (dfs os ns s [])[n]? = some ws ∧ Φ (.d (.int n))
theorem ok_number_of (T : Txt K mg a) (G_lots_after : FnOk P w K mg base CX0 2 a.f_lots_after a.fd_lots_after ["room"] (spR (ZZ K a) F_lots_after)) (G_orders_on : FnOk P w K mg base CX0 1 a.f_orders_on a.fd_orders_on ["after"] (spR (ZZ K a) F_orders_on)) (G_check_order : FnOk P w K mg base CX0 4 a.f_check_order a.fd_check_order ["room", "order"] (spR (ZZ K a) F_check_order)) (G_bits_of : FnOk P w K mg base CX0 1 a.f_bits_of a.fd_bits_of ["names", "some"] (spR (ZZ K a) F_bits_of)) : FnOk P w K mg base CX0 5 a.f_number_of a.fd_number_of ["room", "order"] (spR (ZZ K a) F_number_of) := by
  refine T.F_number_of.ok sc_number_of (fun vs H Q E h => ?_) (fun cdv A outer s H vs Q E hr h => ?_)
  · obtain ⟨M, ds, Φ, _, al, ⟨os, ns, s, n, ws, d, rfl, _⟩, _⟩ := h
    exact al.len
  · obtain ⟨M, ds, Φ, ex, al, ⟨os, ns, z, n, ws, d, rfl, hd, few, size, hn, fin⟩, q⟩ := h
    refine ⟨_, (pss_cons (ps_expr (pe_call G_check_order (hr.mono (by decide)) (by rfl) T.m_check_order T.F_check_order.kp T.b_check_order .nil pass0 (pa_cons (pv 0) (pa_cons (pv 1) pa_nil))))
      (pss_cons (ps_set (i := 2) sc_number_of.nd rfl (Or.inl rfl) (pe_call G_lots_after (hr.mono (by decide)) (by rfl) T.m_lots_after T.F_lots_after.kp T.b_lots_after .nil pass0 (pa_cons (pv 0) pa_nil)))
      (pss_cons (ps_set (i := 3) sc_number_of.nd rfl (Or.inr rfl) (pe_call G_orders_on (hr.mono (by decide)) (by rfl) T.m_orders_on T.F_orders_on.kp T.b_orders_on .nil pass0 (pa_cons (pv 2) pa_nil)))
      (pss_cons (ps_set (i := 4) sc_number_of.nd rfl (Or.inl rfl) pe_int)
      (pss_cons (ps_set (i := 5) sc_number_of.nd rfl (Or.inl rfl) pe_int)
      (pss_cons (ps_for PassesOwn.never rfl (G.pi_or (pi_list (pv 1)) (pi_tupK (K := K) rfl (pv 1))) (pg_name (i := 6) sc_number_of.nd rfl (Or.inl rfl))
      (pss_cons (ps_set (i := 7) sc_number_of.nd rfl (Or.inr rfl) (pe_op op_or (pv 5) (pe_call G_bits_of (hr.mono (by decide)) (by rfl) T.m_bits_of T.F_bits_of.kp T.b_bits_of .nil pass0 (pa_cons (pe_fldK (K := K) rfl (pv 0) rfl) (pa_cons (pe_lst (pa_cons (pv 6) pa_nil)) pa_nil)))))
      (pss_cons (ps_aug (i := 4) sc_number_of.nd rfl (Or.inl rfl) (pe_callB (cr_sum rfl) (by rfl) T.n_sum (by decide +kernel) (pa_cons (pe_lc (own := [("other", 8)]) (g := (gName 8))  rfl sc_number_of.nd (pi_list (pe_dget (units1 hr) (pv 2) (pv 5) (fun _ _ => rfl))) (blkOk_by (N := N_number_of) (sc := defScope s_number_of) (by decide +kernel)) (fun _ _ _ _ _ => (pg_name (i := 8) sc_number_of.nd rfl (Or.inl rfl))) (fun _ _ _ _ _ => pts_one (pt_cmpR op_lt (pv 8) (pv 7) (nomark _))) (fun _ _ _ _ _ => (pe_dget (units1 hr) (pv 3) (pv 8) (fun _ _ => rfl)))) pa_nil)) ip_add)
      (pss_one (ps_set (i := 5) sc_number_of.nd rfl (Or.inl rfl) (pv 7))))))
      (pss_one (ps_ret (pv 4))))))))), entR (n := 7) ex al rfl q ?_⟩
    walk_at "ent"
    have st := dfs_steps few (Steps.nil (rs := os)) (List.mem_of_getElem? hn)
    rw [List.nil_append] at st
    have wl := dfs_len (List.mem_of_getElem? hn)
    have ord : Ord os ws := ⟨st, (size.i ws st).mp wl⟩
    have l1 := few.len st
    have l2 := few.s
    have l3 := few.l
    refine xs_seq <| xs_drop <| xr_call (fun _ => .nil) <| xa_cons <| xe_wkR <| xe_var rfl ⟨os, ns, rfl, xa_cons <| xe_var rfl <| xa_nil ⟨os, ns, ws, d, rfl, hd, by omega, by omega, fun r hr => (few.f r hr).1, ord, ?_⟩⟩
    refine xs_seq <| xs_setO (by decide) <| xr_call (fun _ => .nil) <| xa_cons <| xe_var rfl <| xa_nil ⟨os, ns, rfl, few, fun kvs aft => on_o ⟨by simp, ?_⟩⟩
    try dsimp only [List.set]
    refine xs_freezeD (i := 2) (by decide) rfl ?_
    try dsimp only [List.set]
    refine xs_seq <| xs_setO (by decide) <| xr_call (fun _ => .nil) <| xa_cons <| xe_var rfl <| xa_nil ⟨os, ns, z, kvs, rfl, few, size, aft, on_o ⟨by simp, ?_⟩⟩
    try dsimp only [List.set]
    refine xs_freezeD (i := 3) (by decide) rfl ?_
    try dsimp only [List.set]
    have inKeys : ∀ {o}, Steps os o → bo ns o ∈ kvs.reverse.map (·.1) := fun {o} so => by
      rw [List.map_reverse, List.mem_reverse]
      have := few.len so
      have := few.s
      exact (aft.key _).mpr ⟨o.length, by omega, o, so, rfl, rfl⟩
    refine xs_seq <| xs_set (by decide) <| xe_int ?_
    try dsimp only [List.set]
    refine xs_seq <| xs_set (by decide) <| xe_int ?_
    try dsimp only [List.set]
    refine xs_seq <| xs_for (vs := [6]) <| xi_seqV rfl hd ?_
    refine ⟨fun i δ => ∃ (acc m : Nat) (s6 s7 : S), δ = [.d (roomF os ns), .d d, .d (dicD (kvs.map dicE)), .d (dicD (kvs.reverse.map (cE os ns z))), .d (.int acc), .d (.int (bo ns (ws.take i))), s6, s7, .no] ∧ acc + m = n ∧ (dfs os ns (z - i) (ws.take i))[m]? = some (ws.drop i), ⟨0, n, _, _, by rw [List.take_zero, bo_nil]; rfl, by omega, by simpa using hn⟩, ?_, ?_⟩
    · rintro i d δ1 hi ⟨acc, m, s6, s7, rfl, hm, ht⟩
      obtain ⟨x, hx, rfl⟩ : ∃ x, ws[i]? = some x ∧ D.str x = d := by simpa using hi
      have il := (List.getElem?_eq_some_iff.mp hx).1
      have so := st.take i
      have ol : (ws.take i).length = i := by rw [List.length_take]; omega
      have tk : ws.take (i + 1) = ws.take i ++ [x] := GS.take_get hx
      have dr : ws.drop i = x :: ws.drop (i + 1) := by
        rw [List.drop_eq_getElem_cons il, (List.getElem?_eq_some_iff.mp hx).2]
      obtain ⟨k, hk⟩ : ∃ k, z - i = k + 1 := ⟨z - i - 1, by omega⟩
      rw [hk, dr] at ht
      obtain ⟨j, y, m', t', h1, h2, h3, h4⟩ := dfs_inv ht
      cases h3
      generalize eo : ws.take i = o at *
      have xm := (mem_nxt few).mp (List.mem_of_getElem? h1)
      have sx := so.snoc xm
      obtain ⟨xo, wr, xr, _⟩ := mem_may.mp xm
      have xn : x ∈ ns := few.m _ xr x (by simp)
      have dg : dget (kvs.map dicE) (.inl (bo ns o)) = some (.lst (intL ((nxt os ns o).map fun x => bo ns (o ++ [x])))) := dget_some aft.nd (aft.at few so)
      have asc : ((nxt os ns o).map fun x => bo ns (o ++ [x])).Pairwise (· < ·) := (aft.val _ _ (aft.at few so)).1
      have cofx : ∀ y ∈ nxt os ns o, cof os ns z (bo ns (o ++ [y])) = (dfs os ns k (o ++ [y])).length := fun y hy => by
        rw [cof_is few (so.snoc ((mem_nxt few).mp hy)), List.length_append, List.length_singleton, show z - (o.length + 1) = k by omega]
      have l7 : (nxt os ns o).length ≤ ns.length := List.length_filter_le _ _
      refine xg_name (by decide) (by decide) ?_
      try dsimp only [List.set]
      refine xs_seq <| xs_set (by decide) <| xe_I0 <| xe_var rfl <| xr_call (fun _ => .nil) <| xa_cons <| xe_mnames T <| xe_var rfl ⟨_, _, rfl, xa_cons <| xe_ofO <| xo_lst <| xa_cons <| xe_var rfl <| xa_nil ⟨by simp, _, rfl, xa_nil ⟨ns, [x], _, rfl, .inl rfl, few.nd, by simp, fun y hy => by rw [List.mem_singleton.mp hy]; exact xn, by omega, by simp, on_d ⟨_, _, rfl, rfl, ?_⟩⟩⟩⟩
      rw [bor, bo_snoc]
      try dsimp only [List.set]
      have filt := asc_filter asc (j := j) (l := bo ns (o ++ [x])) (by rw [List.getElem?_map, h1]; rfl)
      refine xs_seq <| xs_augI (by decide) (m := acc) (xe_sum <| xe_ofO <| xo_fg (v := 8) (g := fun n : Nat => .int (n : Int)) (f := fun l => .int (cof os ns z l)) (p := fun l => decide (l < bo ns (o ++ [x]))) <| xi_list <| xe_dget <| xe_var rfl <| xe_var rfl ⟨kvs.map dicE, .inl (bo ns o), _, rfl, rfl, dg, _, .inl rfl, (nxt os ns o).map fun x => bo ns (o ++ [x]), rfl, rfl, by simp; omega, fun l hl => ?_, _, rfl, ((((nxt os ns o).map fun x => bo ns (o ++ [x])).take j).map (cof os ns z)).map (fun n : Nat => (n : Int)), ?_, _, rfl, ?_⟩) rfl
      · try dsimp only [List.set]
        obtain ⟨y, hy, rfl⟩ := List.mem_map.mp hl
        refine xt_test <| xe_B0 <| xe_var rfl <| xe_var rfl ⟨_, _, rfl, rfl, _, rfl, ?_, rfl, fun _ => xe_dget <| xe_var rfl <| xe_var rfl ⟨_, .inl _, _, rfl, rfl, dget_cE (inKeys (so.snoc ((mem_nxt few).mp hy))), rfl, rfl⟩⟩
        rw [decide_eq_decide]; omega
      · rw [filt]
        simp [Function.comp_def]
      · try dsimp only [List.set]
        have e : ((((nxt os ns o).map fun x => bo ns (o ++ [x])).take j).map (cof os ns z)).sum = (((nxt os ns o).take j).map fun y => (dfs os ns k (o ++ [y])).length).sum := by
          rw [← List.map_take, List.map_map]
          exact congrArg List.sum (List.map_congr_left fun y hy => cofx y (List.mem_of_mem_take hy))
        rw [sum_cast, e]
        refine xs_set (by decide) <| xe_var rfl ?_
        refine ⟨acc + (((nxt os ns o).take j).map fun y => (dfs os ns k (o ++ [y])).length).sum, m', .d (.str x), .d (.int (bo ns (o ++ [x]))), ?_, by omega, ?_⟩
        · rw [tk, Int.natCast_add]; rfl
        · rw [tk, show z - (i + 1) = k by omega]; exact h4
    · rintro δ1 ⟨acc, m, s6, s7, rfl, hm, ht⟩
      rw [List.length_map, wl, Nat.sub_self] at ht
      have m0 := (List.getElem?_eq_some_iff.mp ht).1
      have : m = 0 := by simpa [dfs] using m0
      refine xs_ret <| xe_var rfl ?_
      rw [show acc = n by omega]
      exact fin
/-! ### how long orders are -/
def Same (a b : List Str) : Prop := ∀ x, x ∈ a ↔ x ∈ b
theorem Steps.full {rs : List Rl} {t l : List Str} (hl : Leav rs [] [] l) (st : Same t l) (nt : t.Nodup) {o : List Str} (h : Steps rs o) : o.length = t.length ↔ Ord rs o := by
  have sub : ∀ {m : List Str}, Steps rs m → ∀ x ∈ m, x ∈ t := fun {m} hm x hx => by
    have r : Run rs [] [] m := by simpa using hm.run m.length
    exact (st x).mpr (Leav.top hl r (fun y hy => nomatch hy) (fun y hy => hy) x hx)
  constructor
  · intro e
    refine ⟨h, fun x hx => ?_⟩
    have h2 := h.snoc hx
    have := nodup_len h2.nodup (sub h2)
    simp at this; omega
  · intro ho
    have q := Leav.same hl ho.leav
    exact Nat.le_antisymm (nodup_len h.nodup (sub h)) (nodup_len nt fun x hx => (q x).mp ((st x).mp hx))
theorem Size.of {rs : List Rl} {t l : List Str} (hl : Leav rs [] [] l) (st : Same t l) (nt : t.Nodup) : Size rs t.length :=
  ⟨fun o so => (so.full hl st nt).trans ⟨fun h => h.2, fun h => ⟨so, h⟩⟩, fun o so => nodup_len so.nodup fun x hx => by
    have r : Run rs [] [] o := by simpa using so.run o.length
    exact (st x).mpr (Leav.top hl r (fun y hy => nomatch hy) (fun y hy => hy) x hx)⟩
theorem Size.get {rs : List Rl} {us : List Str} (hu : ∀ r ∈ rs, r.1 ∈ us) : ∃ z, Size rs z := by
  obtain ⟨r, hr⟩ := (Steps.nil (rs := rs)).more hu us.length (by omega)
  have hl : Leav rs [] [] _ := hr.leav
  exact ⟨_, Size.of hl (fun x => Iff.rfl) hr.1.nodup⟩
/-! ### rules -/
def ruleD (r : Str × List Str) : D := .tup [.str r.1, .tup (r.2.map .str)]
structure ROk (r : Str × List Str) : Prop where
  n : r.1 ∈ pool
  w : ∀ w ∈ r.2, w ∈ pool ∧ w ≠ r.1
  l : r.2.length ≤ 14
structure RIn (us : List Str) (r : Str × List Str) : Prop where
  ok : ROk r
  n : r.1 ∈ us
  w : ∀ w ∈ r.2, w ∈ us
def F_rulesB : FB := fun y ds Φ => ∃ c b : Int, ds = [.int b] ∧ 1 ≤ b ∧ b ≤ 7 ∧ 0 ≤ c ∧ c + 4000 < 2 ^ 50 ∧ BoxD c y ∧ ∀ (rs : List (Str × List Str)) (us : List Str) y', us.Nodup → (us.length : Int) ≤ b → (∀ r ∈ rs, RIn us r) → rs.length ≤ 42 → BoxD (c + 4000) y' → Φ (.own (.lst (rs.map ruleD))) y'
theorem ok_rulesB (T : Txt K mg a) (G_lw_take : FnOk P w K mg base CX0 1 a.f_lw_take a.fd_lw_take ["_law_box_here", "_law_bound"] (spB (ZZ K a) F_take)) (G_lw_mixed : FnOk P w K mg base CX0 2 a.f_lw_mixed a.fd_lw_mixed ["_law_box_here", "_law_items"] (spB (ZZ K a) F_mixed)) (G_lw_names : FnOk P w K mg base CX0 3 a.f_lw_names a.fd_lw_names ["_law_box_here", "_law_bound"] (spB (ZZ K a) F_names)) : FnOk P w K mg base CX0 4 a.f_lw_rules a.fd_lw_rules ["_law_box_here", "_law_most"] (spB (ZZ K a) F_rulesB) := by
  refine T.F_lw_rules.ok sc_lw_rules (fun vs H Q E h => ?_) (fun cdv A outer s H vs Q E hr h => ?_)
  · obtain ⟨M, p, ws, ho, y, ds, Φ, rfl, _, _, _, _, al, ⟨c, b, rfl, _⟩, _⟩ := h
    simp [al.len]
  · obtain ⟨M, p, ws, ho, y, ds, Φ, rfl, hp, hm, hy, ex, al, ⟨c, b, rfl, b0, b1, c0, c1, hb, k⟩, q⟩ := h
    refine ⟨_, (pss_cons (ps_par (i := 2) (j := 3) (by rfl) sc_lw_rules.nd rfl rfl (by decide) rfl rfl (pa_cons (pe_call G_lw_names (hr.mono (by decide)) (by rfl) T.m_lw_names T.F_lw_names.kp T.b_lw_names .nil pass0 (pa_cons (pv 0) (pa_cons (pe_op op_add pe_int (pe_call G_lw_take (hr.mono (by decide)) (by rfl) T.m_lw_take T.F_lw_take.kp T.b_lw_take .nil pass0 (pa_cons (pv 0) (pa_cons (pv 1) pa_nil)))) pa_nil))) (pa_cons (pe_lst pa_nil) pa_nil)) (by rfl))
      (pss_cons (ps_set (i := 4) sc_lw_rules.nd rfl (Or.inl rfl) (pe_cmpR op_gt (pe_call G_lw_take (hr.mono (by decide)) (by rfl) T.m_lw_take T.F_lw_take.kp T.b_lw_take .nil pass0 (pa_cons (pv 0) (pa_cons pe_int pa_nil))) pe_int (nomark _)))
      (pss_cons (ps_for PassesOwn.never rfl (pi_enum (by rfl) T.n_enumerate (pa_cons (pv 2) pa_nil)) (pg_tup rfl (pgs_cons (pg_name (i := 5) sc_lw_rules.nd rfl (Or.inl rfl)) (pgs_cons (pg_name (i := 6) sc_lw_rules.nd rfl (Or.inr rfl)) pgs_nil)))
      (pss_cons (ps_set (i := 7) sc_lw_rules.nd rfl (Or.inl rfl) (pe_ifExp (pt_val (pv 4)) (pe_slice (show SlR _ (rSlL K) from sl_list) (pv 2) po_none (po_some (pv 5))) (pe_lc (own := [("_law_other", 10)]) (g := (gName 10))  rfl sc_lw_rules.nd (pi_list (pv 2)) (blkOk_by (N := N_lw_rules) (sc := defScope s_lw_rules) (by decide +kernel)) (fun _ _ _ _ _ => (pg_name (i := 10) sc_lw_rules.nd rfl (Or.inl rfl))) (fun _ _ _ _ _ => pts_one (pt_cmpR op_ne (pv 10) (pv 6) (nomark _))) (fun _ _ _ _ _ => (pv 10)))))
      (pss_one (ps_for PassesOwn.never rfl (pi_range1 (by rfl) T.n_range (pa_cons (pe_ifExp (pt_val (pv 4)) (pe_op op_add pe_int (pe_call G_lw_take (hr.mono (by decide)) (by rfl) T.m_lw_take T.F_lw_take.kp T.b_lw_take .nil pass0 (pa_cons (pv 0) (pa_cons pe_int pa_nil)))) (pe_call G_lw_take (hr.mono (by decide)) (by rfl) T.m_lw_take T.F_lw_take.kp T.b_lw_take .nil pass0 (pa_cons (pv 0) (pa_cons pe_int pa_nil)))) pa_nil)) (pg_name (i := 8) sc_lw_rules.nd rfl (Or.inl rfl))
      (pss_cons (ps_setLc (own := [("_law_other", 10)]) (g := (gName 10))  (i := 9) rfl sc_lw_rules.nd rfl rfl (sw_true rfl rfl rfl (by decide +kernel)) (pi_list (pv 7)) (blkOk_by (N := N_lw_rules) (sc := defScope s_lw_rules) (by decide +kernel)) (fun _ _ _ _ _ => (pg_name (i := 10) sc_lw_rules.nd rfl (Or.inl rfl))) (fun _ _ _ _ _ => pts_one (pt_cmpR op_lt (pe_call G_lw_take (hr.mono (by decide)) (by rfl) T.m_lw_take T.F_lw_take.kp T.b_lw_take .nil pass0 (pa_cons (pv 0) (pa_cons pe_int pa_nil))) pe_int (nomark _))) (fun _ _ _ _ _ => (pv 10)))
      (pss_one (ps_expr (pe_bm PySem.F.plainAttrs_list PySem.F.slot_list_append PySem.F.type_list_append mt_append (pv 3) (pa_cons (pe_tup (pa_cons (pv 6) (pa_cons (pe_callTy call_tuple_of (by rfl) T.n_tuple (by decide +kernel) (pa_cons (pv 9) pa_nil)) pa_nil))) pa_nil)))))))))
      (pss_one (ps_ret (pe_call G_lw_mixed (hr.mono (by decide)) (by rfl) T.m_lw_mixed T.F_lw_mixed.kp T.b_lw_mixed .nil pass0 (pa_cons (pv 0) (pa_cons (pv 3) pa_nil)))))))), entB (n := 9) hp hm hy ex al rfl q ?_⟩
    walk_at "ent"
    walk_at "xs"
    refine xs_parO (by decide) (by decide) (xe_ofO (xr_callB (fun _ => .nil) ⟨_, rfl⟩ ?_))
    walk_at "xs"
    refine xr_callB (fun _ => .nil) ⟨_, rfl⟩ ?_
    walk_at "xs"
    refine ⟨b, c, rfl, by omega, by omega, by omega, hb, fun d y1 d0 d1 hb1 => ?_⟩
    walk_at "xs"
    refine ⟨1 + d, c + 1, rfl, by omega, by omega, by omega, by omega, hb1, fun ns y2 nd np nl hb2 => ?_⟩
    refine ⟨_, rfl, xo_lst ?_⟩
    walk_at "xs"
    refine xr_callB (fun _ => .nil) ⟨_, rfl⟩ ?_
    walk_at "xs"
    refine ⟨3, c + 1 + 1000, rfl, by omega, by omega, by omega, hb2, fun d2 y3 _ _ hb3 => ?_⟩
    walk_at "xs"
    generalize decide (0 < d2) = calm
    refine xs_for (vs := [5, 6]) (xi_enum ?_)
    walk_at "xs"
    refine ⟨fun i δ => ∃ (y : OD) (rs : List (Str × List Str)) (s5 s6 s7 s8 s9 : S), δ = [.own y, .d (.int b), .d (.lst (ns.map .str)), .own (.lst (rs.map ruleD)), .d (.bl calm), s5, s6, s7, s8, s9, .no] ∧ (∀ r ∈ rs, RIn ns r) ∧ rs.length ≤ 3 * i ∧ BoxD (c + 1002 + 50 * i) y, ⟨_, [], _, _, _, _, _, rfl, by simp, by simp, hb3.le (by omega)⟩, ?_, ?_⟩
    · rintro i dd δ1 hi ⟨y, rs, s5, s6, s7, s8, s9, rfl, h1, h2, h3⟩
      obtain ⟨xx, hx, rfl⟩ := enumD_at hi
      obtain ⟨n, hn, rfl⟩ : ∃ n, ns[i]? = some n ∧ D.str n = xx := by simpa using hx
      have hi2 : i < ns.length := (List.getElem?_eq_some_iff.mp hn).1
      refine xg_tup (by rfl) (xgs_cons (xg_name (by decide) (by decide) (xgs_cons (xg_name (by decide) (by decide) (xgs_nil ?_)))))
      walk_at "xs"
      refine joinE (α := List Str) (fun os => os.length ≤ 7 ∧ ∀ o ∈ os, o ∈ ns ∧ o ≠ n) (fun os => .lst (os.map .str)) (fun _ => [.own y, .d (.int b), .d (.lst (ns.map .str)), .own (.lst (rs.map ruleD)), .d (.bl calm), .d (.int i), .d (.str n), s7, s8, s9, .no]) (fun go => ?_) ?_
      · refine xr_if ?_
        walk_at "xs"
        refine ite_b (fun _ => ?_) (fun _ => ?_)
        · refine xe_ofO (xo_sl ?_)
          walk_at "xs"
          refine xp_no (xp_part ?_)
          walk_at "xs"
          rw [cut_to (by omega), ← List.map_take]
          rw [show ((i : Int)).toNat = i by omega]
          refine go _ ⟨by rw [List.length_take]; omega, fun o ho => ⟨List.mem_of_mem_take ho, fun e => ?_⟩⟩
          subst e
          rw [← List.take_append_drop i ns] at nd
          refine (List.pairwise_append.mp nd).2.2 o ho o ?_ rfl
          rw [List.drop_eq_getElem_cons hi2, (List.getElem?_eq_some_iff.mp hn).2]
          simp
        · refine xe_ofO (xo_fg (g := D.str) (f := D.str) (p := fun o => decide (o ≠ n)) (xi_list ?_))
          walk_at "xs"
          refine ⟨_, .inl rfl, ns, rfl, rfl, by omega, fun o ho => ?_, _, rfl, ?_⟩
          · walk_at "xs"
            refine xe_ne ?_
            walk_at "xs"
            refine ⟨rfl, _, rfl, by simp, rfl, fun _ => ?_⟩
            walk_at "xs"
            exact ⟨rfl, rfl⟩
          · refine go _ ⟨Nat.le_trans (List.length_filter_le _ _) (by omega), fun o ho => ?_⟩
            have := List.mem_filter.mp ho
            exact ⟨this.1, of_decide_eq_true this.2⟩
      · rintro os ⟨l1, l2⟩
        walk_at "xs"
        refine xs_for (vs := [8]) (xi_rng1 ?_)
        refine joinE (α := Int × OD) (fun m => 0 ≤ m.1 ∧ m.1 ≤ 3 ∧ BoxD (c + 1002 + 50 * i + 1) m.2) (fun m => .int m.1) (fun m => [.own m.2, .d (.int b), .d (.lst (ns.map .str)), .own (.lst (rs.map ruleD)), .d (.bl calm), .d (.int i), .d (.str n), .d (.lst (os.map .str)), s8, s9, .no]) (fun go => ?_) ?_
        · refine xr_if ?_
          walk_at "xs"
          refine ite_b (fun _ => ?_) (fun _ => ?_)
          · refine xe_I0 ?_
            walk_at "xs"
            refine xr_callB (fun _ => .nil) ⟨_, rfl⟩ ?_
            walk_at "xs"
            refine ⟨3, _, rfl, by omega, by omega, by omega, h3, fun dd y' _ _ hb' => ?_⟩
            refine on_d ⟨_, _, rfl, rfl, ?_⟩
            exact go (1 + dd, y') ⟨by omega, by omega, hb'⟩
          · refine xr_callB (fun _ => .nil) ⟨_, rfl⟩ ?_
            walk_at "xs"
            refine ⟨3, _, rfl, by omega, by omega, by omega, h3, fun dd y' _ _ hb' => ?_⟩
            exact go (dd, y') ⟨by omega, by omega, hb'⟩
        · rintro ⟨m, y'⟩ ⟨m0, m1, hb'⟩
          dsimp only at m0 m1 hb' ⊢
          walk_at "xs"
          refine ⟨fun j δ => ∃ (y : OD) (rs : List (Str × List Str)) (s8 s9 : S), δ = [.own y, .d (.int b), .d (.lst (ns.map .str)), .own (.lst (rs.map ruleD)), .d (.bl calm), .d (.int i), .d (.str n), .d (.lst (os.map .str)), s8, s9, .no] ∧ (∀ r ∈ rs, RIn ns r) ∧ rs.length ≤ 3 * i + j ∧ BoxD (c + 1002 + 50 * i + 1 + 8 * j) y, ⟨_, rs, _, _, rfl, h1, by omega, hb'.le (by omega)⟩, ?_, ?_⟩
          · rintro j dd δ1 hj ⟨y, rs, s8, s9, rfl, g1, g2, g3⟩
            have hj2 := (rng_at hj).1
            refine xg_name (by decide) (by decide) ?_
            walk_at "xs"
            refine xs_set (by decide) (xe_ofO (xo_lc (xi_list ?_)))
            walk_at "xs"
            refine ⟨_, .inl rfl, fun v hv => (by simp at hv; subst hv; rfl), by simp; omega, fun t acc δ => ∃ (y : OD) (zs : List Str), δ = [.own y, .d (.int b), .d (.lst (ns.map .str)), .own (.lst (rs.map ruleD)), .d (.bl calm), .d (.int i), .d (.str n), .d (.lst (os.map .str)), .d dd, s9, .no] ∧ acc = zs.map .str ∧ zs.length ≤ t ∧ (∀ z ∈ zs, z ∈ os) ∧ BoxD (c + 1002 + 50 * i + 1 + 8 * j + t) y, ⟨_, [], rfl, rfl, by simp, by simp, g3.le (by omega)⟩, ?_, ?_⟩
            · rintro t d acc δ1 bs hbs ht ⟨y, zs, rfl, rfl, k1, k2, k3⟩
              obtain ⟨o, ho, rfl⟩ : ∃ o, os[t]? = some o ∧ D.str o = d := by simpa using ht
              have ht2 : t < os.length := (List.getElem?_eq_some_iff.mp ho).1
              refine xg_name (by decide) (hbs _ (by decide)) ?_
              walk_at "xs"
              refine xr_callB (fun _ => .nil) ⟨_, rfl⟩ ?_
              walk_at "xs"
              refine ⟨5, _, rfl, by omega, by omega, by omega, k3, fun d5 y5 _ _ hb5 => ?_⟩
              walk_at "xs"
              refine ite_b (fun _ => ?_) (fun _ => ?_)
              · walk_at "xs"
                exact ⟨_, zs ++ [o], rfl, by simp, by simp; omega, fun z hz => (List.mem_append.mp hz).elim (k2 z) fun q => by rw [List.mem_singleton.mp q]; exact List.mem_of_getElem? ho, hb5.le (by omega)⟩
              · exact ⟨_, zs, rfl, rfl, by omega, k2, hb5.le (by omega)⟩
            · rintro acc δ1 ⟨y, zs, rfl, rfl, k1, k2, k3⟩
              rw [List.length_map] at k1 k3
              refine ⟨_, rfl, ?_⟩
              walk_at "xs"
              refine xe_app ⟨_, rfl⟩ (xe_tup ?_)
              walk_at "xs"
              refine xe_tuple ?_
              walk_at "xs"
              refine ⟨_, .inl rfl, ?_⟩
              walk_at "xs"
              refine ⟨by simp; omega, y, rs ++ [(n, zs)], .d dd, .d (.lst (zs.map .str)), by simp [ruleD], fun r hr => ?_, by simp; omega, k3.le (by omega)⟩
              rcases List.mem_append.mp hr with q | q
              · exact g1 r q
              · rw [List.mem_singleton.mp q]
                exact ⟨⟨np n (List.mem_of_getElem? hn), fun z hz => ⟨np z (l2 z (k2 z hz)).1, (l2 z (k2 z hz)).2⟩, Nat.le_trans k1 (by omega)⟩, List.mem_of_getElem? hn, fun z hz => (l2 z (k2 z hz)).1⟩
          · rintro δ1 ⟨y, rs, s8, s9, rfl, g1, g2, g3⟩
            rw [rng_len] at g2 g3
            exact ⟨y, rs, _, _, _, _, _, rfl, g1, by omega, g3.le (by omega)⟩
    · rintro δ1 ⟨y, rs, s5, s6, s7, s8, s9, rfl, h1, h2, h3⟩
      rw [enumD_len, List.length_map] at h2 h3
      refine xs_freeze (i := 3) (by decide) rfl ?_
      refine xs_retO (xr_callB (fun _ => .nil) ⟨_, rfl⟩ ?_)
      walk_at "xs"
      refine ⟨rs.map ruleD, c + 1002 + 50 * ns.length, rfl, by simp; omega, by omega, by omega, h3, fun ys y' hp' hb' => ?_⟩
      obtain ⟨zs, rfl, hz⟩ := perm_map hp'
      exact ⟨_, rfl, k _ ns _ nd (by omega) (fun r hr => h1 r (hz.mem_iff.mp hr)) (by rw [hz.length_eq]; omega) (hb'.le (by omega))⟩
/-! ### the law's rules and the room's -/
structure Ctx (rs os : List Rl) (ns : List Str) : Prop where
  l : rs.length ≤ 42
  r : ∀ r ∈ rs, ROk r
  fw : ∀ o ∈ os, ∃ r ∈ rs, o.1 = r.1 ∧ GS.IsLot o.2 r.2
  bw : ∀ r ∈ rs, ∃ o ∈ os, o.1 = r.1 ∧ GS.IsLot o.2 r.2
  ok : RoomOk os ns
  np : ∀ n ∈ ns, n ∈ pool
theorem Ctx.of {rs os : List Rl} {ns : List Str} (l : rs.length ≤ 42) (r : ∀ r ∈ rs, ROk r) (h0 : os.length = rs.length) (h1 : ∀ (i : Nat) (o r : Rl), os[i]? = some o → rs[i]? = some r → o.1 = r.1 ∧ GS.IsLot o.2 r.2) (ok : RoomOk os ns) (np : ∀ n ∈ ns, n ∈ pool) : Ctx rs os ns := by
  refine ⟨l, r, fun o ho => ?_, fun q hq => ?_, ok, np⟩
  · obtain ⟨i, hi⟩ := List.mem_iff_getElem?.mp ho
    have hl := (List.getElem?_eq_some_iff.mp hi).1
    have hr : rs[i]? = some (rs[i]'(h0 ▸ hl)) := by simp
    exact ⟨_, List.mem_of_getElem? hr, h1 i _ _ hi hr⟩
  · obtain ⟨i, hi⟩ := List.mem_iff_getElem?.mp hq
    have hl := (List.getElem?_eq_some_iff.mp hi).1
    have ho : os[i]? = some (os[i]'(h0.symm ▸ hl)) := by simp
    exact ⟨_, List.mem_of_getElem? ho, h1 i _ _ ho hi⟩
section
variable {rs os : List Rl} {ns : List Str}
theorem Ctx.may (c : Ctx rs os ns) (g : List Str) (x : Str) : x ∈ mayS os g ↔ x ∈ mayS rs g := by
  rw [mem_may, mem_may]
  refine and_congr_right fun _ => ⟨fun ⟨ws, h1, h2⟩ => ?_, fun ⟨ws, h1, h2⟩ => ?_⟩
  · obtain ⟨⟨n, us⟩, hr, e, k⟩ := c.fw _ h1
    cases e
    exact ⟨us, hr, fun w hw => h2 w ((k.mem w).mpr hw)⟩
  · obtain ⟨⟨n, us⟩, ho, e, k⟩ := c.bw _ h1
    cases e
    exact ⟨us, ho, fun w hw => h2 w ((k.mem w).mp hw)⟩
theorem Ctx.run (c : Ctx rs os ns) {st g l : List Str} (h : Run os st g l) : Run rs st g l := by
  induction h with
  | refl => exact .refl _
  | step _ hm hs ih => exact .step ih ((c.may _ _).mp hm) hs
theorem Ctx.back (c : Ctx rs os ns) {st g l : List Str} (h : Run rs st g l) : Run os st g l := by
  induction h with
  | refl => exact .refl _
  | step _ hm hs ih => exact .step ih ((c.may _ _).mpr hm) hs
theorem Ctx.leav (c : Ctx rs os ns) {st g l : List Str} (h : Leav os st g l) : Leav rs st g l := ⟨c.run h.run, fun x hx => h.stop x ((c.may _ _).mpr hx)⟩
theorem Ctx.lot (c : Ctx rs os ns) : GS.IsLot ns (wantAll rs) := by
  refine ⟨c.ok.lot.asc, fun z => (c.ok.lot.mem z).trans ?_⟩
  rw [mem_wantAll, mem_wantAll]
  constructor
  · rintro ⟨o, ho, q⟩
    obtain ⟨r, hr, e, k⟩ := c.fw o ho
    exact ⟨r, hr, q.imp (fun q => q.trans e) fun q => (k.mem z).mp q⟩
  · rintro ⟨r, hr, q⟩
    obtain ⟨o, ho, e, k⟩ := c.bw r hr
    exact ⟨o, ho, q.imp (fun q => q.trans e.symm) fun q => (k.mem z).mpr q⟩
theorem Ctx.keeps (c : Ctx rs os ns) {l : List Str} : (∀ o ∈ os, o.1 ∈ l → ∃ x ∈ o.2, x ∈ l) ↔ ∀ r ∈ rs, r.1 ∈ l → ∃ x ∈ r.2, x ∈ l := by
  constructor
  · intro h r hr hl
    obtain ⟨o, ho, e, k⟩ := c.bw r hr
    obtain ⟨x, x1, x2⟩ := h o ho (e ▸ hl)
    exact ⟨x, (k.mem x).mp x1, x2⟩
  · intro h o ho hl
    obtain ⟨r, hr, e, k⟩ := c.fw o ho
    obtain ⟨x, x1, x2⟩ := h r hr (e ▸ hl)
    exact ⟨x, (k.mem x).mpr x1, x2⟩
theorem Ctx.nodup (c : Ctx rs os ns) : ns.Nodup := GS.Asc.nodup c.ok.lot.asc
theorem Ctx.few (c : Ctx rs os ns) : ns.length ≤ 14 := nodup_len c.nodup c.np
end
/-! ### the law's own -/
theorem made_ok {rs os : List Rl} {ns : List Str} (hrs : ∀ r ∈ rs, ROk r) (l : rs.length ≤ 42) (h0 : os.length = rs.length) (h1 : ∀ (i : Nat) (o r : Rl), os[i]? = some o → rs[i]? = some r → o.1 = r.1 ∧ GS.IsLot o.2 r.2) (h2 : ∀ o ∈ os, o.2.length ≤ 14) (hn : GS.IsLot ns (wantAll os)) : RoomOk os ns ∧ ∀ n ∈ ns, n ∈ pool := by
  have at' : ∀ o ∈ os, ∃ r ∈ rs, o.1 = r.1 ∧ GS.IsLot o.2 r.2 := fun o ho => by
    obtain ⟨i, hi⟩ := List.mem_iff_getElem?.mp ho
    have hl := (List.getElem?_eq_some_iff.mp hi).1
    have hr : rs[i]? = some (rs[i]'(h0 ▸ hl)) := by simp
    exact ⟨_, List.mem_of_getElem? hr, h1 i _ _ hi hr⟩
  refine ⟨⟨hn, by omega, h2, fun o ho => ?_⟩, fun n h => ?_⟩
  · obtain ⟨r, _, _, q⟩ := at' o ho
    exact q.asc
  · obtain ⟨o, ho, q⟩ := mem_wantAll.mp ((hn.mem n).mp h)
    obtain ⟨r, hr, e, k⟩ := at' o ho
    rcases q with q | q
    · rw [q, e]; exact (hrs r hr).n
    · exact ((hrs r hr).w n ((k.mem n).mp q)).1
def F_madeF : FR := fun ds Φ => ∃ rs : List (Str × List Str), ds = [.lst (rs.map ruleD)] ∧ rs.length ≤ 42 ∧ (∀ r ∈ rs, ROk r) ∧ ∀ (os : List (Str × List Str)) (ns : List Str), os.length = rs.length → (∀ (i : Nat) (o r : Str × List Str), os[i]? = some o → rs[i]? = some r → o.1 = r.1 ∧ GS.IsLot o.2 r.2) → RoomOk os ns → (∀ n ∈ ns, n ∈ pool) → GS.IsLot ns (wantAll os) → Φ (.d (roomF os ns))
theorem ok_madeF (T : Txt K mg a) (G_Rule_init : FnOk P w K mg base CX0 3 a.f_Rule_init a.fd_Rule_init ["self", "name", "gone"] (spB (ZZ K a) F_Rule_init)) (G_Room_init : FnOk P w K mg base CX0 2 a.f_Room_init a.fd_Room_init ["self", "rules"] (spB (ZZ K a) F_Room_initF)) : FnOk P w K mg base CX0 5 a.f_lw_made a.fd_lw_made ["_law_rules_here"] (spR (ZZ K a) F_madeF) := by
  refine T.F_lw_made.ok sc_lw_made (fun vs H Q E h => ?_) (fun cdv A outer s H vs Q E hr h => ?_)
  · obtain ⟨M, ds, Φ, _, al, ⟨rs, rfl, _⟩, _⟩ := h
    exact al.len
  · obtain ⟨M, ds, Φ, ex, al, ⟨rs, rfl, hl, hrs, fin⟩, q⟩ := h
    refine ⟨_, (pss_one (ps_ret (pe_make T.mk_Room G_Room_init (hr.mono (by decide)) (by rfl) T.m_Room T.b_Room_init .nil pass0 (pa_cons (pe_lc (own := [("_law_name", 1), ("_law_wants", 2)]) (g := (gTup K 2 (gCons (gName 1) (gCons (gName 2) gNil)))) (tt := tYes) rfl sc_lw_made.nd (pi_list (pv 0)) (blkOk_by (N := N_lw_made) (sc := defScope s_lw_made) (by decide +kernel)) (fun _ _ _ _ _ => (pg_tup rfl (pgs_cons (pg_name (i := 1) sc_lw_made.nd rfl (Or.inl rfl)) (pgs_cons (pg_name (i := 2) sc_lw_made.nd rfl (Or.inl rfl)) pgs_nil)))) (fun _ _ _ _ _ => pts_nil) (fun _ _ _ _ _ => (pe_make T.mk_Rule G_Rule_init (hr.mono (by decide)) (by rfl) T.m_Rule T.b_Rule_init .nil pass0 (pa_cons (pv 1) (pa_cons (pv 2) pa_nil))))) pa_nil)))), entR (n := 2) ex al rfl q ?_⟩
    walk_at "ent"
    walk_at "xs"
    refine xs_ret (xe_make (c := 1) rfl (fun _ => .nil) ?_)
    refine xa_cons (xe_ofO (xo_lc (xi_list ?_)))
    walk_at "xs"
    refine ⟨_, .inl rfl, fun v hv => by simp at hv; rcases hv with rfl | rfl <;> rfl, by simp; omega, fun i acc δ => δ = [.d (.lst (rs.map ruleD)), .no, .no] ∧ ∃ os : List (Str × List Str), acc = os.map ruleO ∧ os.length = i ∧ (∀ (k : Nat) (o r : Str × List Str), os[k]? = some o → rs[k]? = some r → o.1 = r.1 ∧ GS.IsLot o.2 r.2) ∧ ∀ o ∈ os, o.2.length ≤ 14, ⟨rfl, [], rfl, rfl, by simp, by simp⟩, ?_, ?_⟩
    · rintro i x acc δ1 bs hb hx ⟨rfl, os, rfl, rfl, h1, h2⟩
      obtain ⟨r, hr, rfl⟩ : ∃ r, rs[os.length]? = some r ∧ ruleD r = x := by simpa using hx
      have ok := hrs r (List.mem_of_getElem? hr)
      refine xg_tup (by rfl) (xgs_cons (xg_name (by decide) (hb _ (by decide)) (xgs_cons (xg_name (by decide) (hb _ (by decide)) (xgs_nil ?_)))))
      refine xt_yes (if_tt ?_)
      refine xe_make (c := 0) rfl (fun _ => .nil) ?_
      walk_at "xs"
      refine ⟨ok.n, ok.w, ok.l, fun lot hlot hll => ⟨rfl, _, rfl, rfl, rfl, os ++ [(r.1, lot)], by simp [ruleO], by simp, fun k o r' ho hr' => ?_, fun o ho => ?_⟩⟩
      · rcases Nat.lt_or_ge k os.length with q | q
        · rw [List.getElem?_append_left q] at ho
          exact h1 k o r' ho hr'
        · rw [List.getElem?_append_right q] at ho
          have hk : k = os.length := by
            rcases Nat.eq_or_lt_of_le q with q | q
            · exact q.symm
            · rw [List.getElem?_eq_none (by simp; omega)] at ho; cases ho
          subst hk
          rw [hr] at hr'
          simp at ho hr'
          subst ho; subst hr'
          exact ⟨rfl, hlot⟩
      · rcases List.mem_append.mp ho with q | q
        · exact h2 o q
        · rw [List.mem_singleton.mp q]
          exact Nat.le_trans hll ok.l
    · rintro acc δ1 ⟨rfl, os, rfl, h0, h1, h2⟩
      rw [List.length_map] at h0
      refine ⟨_, rfl, xa_nil ⟨os, rfl, .inl rfl, by omega, h2, fun ns hns => ⟨rfl, _, rfl, rfl, fin os ns h0 h1 (made_ok hrs hl h0 h1 h2 hns).1 (made_ok hrs hl h0 h1 h2 hns).2 hns⟩⟩⟩
theorem Few.of {rs os : List Rl} {ns us : List Str} (c : Ctx rs os ns) (hn : GS.IsLot ns (wantAll os)) (hrs : ∀ r ∈ rs, RIn us r) (lu : us.length ≤ 7) (lo : os.length ≤ 42) : Few os ns ∧ ns.length ≤ us.length := by
  have sub : ∀ x ∈ ns, x ∈ us := fun x hx => by
    obtain ⟨o, ho, q⟩ := mem_wantAll.mp ((hn.mem x).mp hx)
    obtain ⟨r, hr, e, k⟩ := c.fw o ho
    rcases q with q | q
    · rw [q, e]; exact (hrs r hr).n
    · exact (hrs r hr).w x ((k.mem x).mp q)
  have ln : ns.length ≤ us.length := nodup_len (GS.Asc.nodup hn.asc) sub
  refine ⟨⟨hn.asc, fun r hr x hx => ?_, by omega, by omega, fun r hr => ⟨c.ok.w r hr, ?_⟩⟩, ln⟩
  · refine (hn.mem x).mpr (mem_wantAll.mpr ⟨r, hr, ?_⟩)
    rcases List.mem_cons.mp hx with q | q
    · exact .inl q
    · exact .inr q
  · obtain ⟨q, _, _, k⟩ := c.fw r hr
    exact GS.Asc.nodup k.asc
/-! ### led rooms -/
structure LS where
  os : List Rl
  ns : List Str
  z : Nat
  kvs : List (Nat × List Nat)
  g : List Str
noncomputable def LS.cnt (s : LS) : D := dicD (s.kvs.reverse.map (cE s.os s.ns s.z))
noncomputable def LS.d (s : LS) : D := .tup [roomF s.os s.ns, s.cnt, .tup (s.g.map .str)]
structure LS.Ok (s : LS) : Prop where
  few : Few s.os s.ns
  size : Size s.os s.z
  aft : Aft s.os s.ns 20 s.kvs
  st : Steps s.os s.g
  nok : ∀ n ∈ s.ns, PyData.strOk n = true
noncomputable def ledF (dd : D) (s : LS) (m : List Str) : List (Str × D) := [("deeds", dd), ("room", roomF s.os s.ns), ("counts", s.cnt), ("gone", .tup (s.g.map .str)), ("may", .tup (m.map .str)), ("left", .int (cof s.os s.ns s.z (bo s.ns s.g)))]
noncomputable def ledY (prev : List LS) (s : LS) (m : List Str) : OD := .ins 2 (ledF (.tup (prev.map LS.d)) s m)
theorem putD_len {f : Str} {v : D} : ∀ {gs : List (Str × D)}, (putD f v gs).length ≤ gs.length + 1
  | [] => Nat.le_refl _
  | (g, x) :: r => by
    unfold putD
    split
    · simp
    · have := putD_len (f := f) (v := v) (gs := r); simp; omega
theorem LS.Ok.len {s : LS} (h : s.Ok) : s.g.length ≤ 7 := by
  have := h.few.len h.st
  have := h.few.s
  omega
theorem LS.Ok.sub {s : LS} (h : s.Ok) : ∀ x ∈ s.g, x ∈ s.ns := h.few.sub h.st
theorem LS.Ok.gok {s : LS} (h : s.Ok) : ∀ x ∈ s.g, PyData.strOk x = true := fun x hx => h.nok x (h.sub x hx)
theorem LS.Ok.at {s : LS} (h : s.Ok) : dget (s.kvs.reverse.map (cE s.os s.ns s.z)) (.inl ((bo s.ns s.g : Nat) : Int)) = some (.int (cof s.os s.ns s.z (bo s.ns s.g))) := dget_cE (by
  rw [List.map_reverse, List.mem_reverse]
  exact (h.aft.key _).mpr ⟨s.g.length, by have := h.len; omega, s.g, h.st, rfl, rfl⟩)
theorem Steps.cutAt {os : List Rl} {g ws : List Str} (h : Steps os (g ++ ws)) (i : Nat) : Steps os (g ++ ws.take i) := by
  have := h.take (g.length + i)
  rwa [List.take_append, List.take_of_length_le (by omega), Nat.add_sub_cancel_left] at this
def F_counts : FR := fun ds Φ => ∃ (os : List Rl) (ns : List Str) (z : Nat), ds = [roomF os ns] ∧ Few os ns ∧ Size os z ∧ ∀ kvs, Aft os ns 20 kvs → Φ (.own (.dic (kvs.reverse.map (cE os ns z))))
theorem ok_counts (T : Txt K mg a) (G_lots_after : FnOk P w K mg base CX0 2 a.f_lots_after a.fd_lots_after ["room"] (spR (ZZ K a) F_lots_after)) (G_orders_on : FnOk P w K mg base CX0 1 a.f_orders_on a.fd_orders_on ["after"] (spR (ZZ K a) F_orders_on)) : FnOk P w K mg base CX0 3 a.f_counts_in a.fd_counts_in ["room"] (spR (ZZ K a) F_counts) := by
  refine T.F_counts_in.ok sc_counts_in (fun vs H Q E h => ?_) (fun cdv A outer s H vs Q E hr h => ?_)
  · obtain ⟨M, ds, Φ, _, al, ⟨os, ns, z, rfl, _⟩, _⟩ := h
    exact al.len
  · obtain ⟨M, ds, Φ, ex, al, ⟨os, ns, z, rfl, few, size, fin⟩, q⟩ := h
    refine ⟨_, (pss_one (ps_ret (pe_call G_orders_on (hr.mono (by decide)) (by rfl) T.m_orders_on T.F_orders_on.kp T.b_orders_on .nil pass0 (pa_cons (pe_call G_lots_after (hr.mono (by decide)) (by rfl) T.m_lots_after T.F_lots_after.kp T.b_lots_after .nil pass0 (pa_cons (pv 0) pa_nil)) pa_nil)))), entR (n := 0) ex al rfl q ?_⟩
    walk_at "ent"
    exact xs_retO <| xr_call (fun _ => .nil) <| xa_cons <| xe_ofOD <| xr_call (fun _ => .nil) <| xa_cons <| xe_var rfl <| xa_nil ⟨os, ns, rfl, few, fun kvs aft => on_o ⟨kvs.map dicE, rfl, xa_nil ⟨os, ns, z, kvs, rfl, few, size, aft, on_o (fin kvs aft)⟩⟩⟩
def F_stand : FB := fun y ds Φ => ∃ (dd : D) (rest : List (Str × D)) (s : LS), y = .ins 2 (("deeds", dd) :: rest) ∧ (rest = [] ∨ ∃ t k, rest = (ledF dd t k).tail) ∧ ds = [roomF s.os s.ns, s.cnt, .tup (s.g.map .str)] ∧ s.Ok ∧ ∀ m, GS.IsLot m (mayS s.os s.g) → Φ (.d .non) (.ins 2 (ledF dd s m))
theorem ok_stand (T : Txt K mg a) (G_may : FnOk P w K mg base CX0 2 a.f_may a.fd_may ["room", "gone"] (spR (ZZ K a) F_may)) (G_bits_of : FnOk P w K mg base CX0 1 a.f_bits_of a.fd_bits_of ["names", "some"] (spR (ZZ K a) F_bits_of)) : FnOk P w K mg base CX0 3 a.f_Led_stand a.fd_Led_stand ["self", "room", "counts", "gone"] (spB (ZZ K a) F_stand) := by
  refine T.F_Led_stand.ok sc_Led_stand (fun vs H Q E h => ?_) (fun cdv A outer s H vs Q E hr h => ?_)
  · obtain ⟨M, p, ws, ho, y, ds, Φ, rfl, _, _, _, _, al, ⟨dd, rest, s, rfl, _, rfl, _⟩, _⟩ := h
    simp [al.len]
  · obtain ⟨M, p, ws, ho, y, ds, Φ, rfl, hp, hm, hy, ex, al, ⟨dd, rest, s, rfl, hrest, rfl, ok, k⟩, q⟩ := h
    refine ⟨_, (pss_cons (ps_fld (pv 0) (pv 1) rfl)
      (pss_cons (ps_fld (pv 0) (pv 2) rfl)
      (pss_cons (ps_fld (pv 0) (pv 3) rfl)
      (pss_cons (ps_fld (pv 0) (pe_call G_may (hr.mono (by decide)) (by rfl) T.m_may T.F_may.kp T.b_may .nil pass0 (pa_cons (pv 1) (pa_cons (pv 3) pa_nil))) rfl)
      (pss_one (ps_fld (pv 0) (pe_dget (units1 hr) (pv 2) (pe_call G_bits_of (hr.mono (by decide)) (by rfl) T.m_bits_of T.F_bits_of.kp T.b_bits_of .nil pass0 (pa_cons (pe_fldK (K := K) rfl (pv 1) rfl) (pa_cons (pv 3) pa_nil))) (fun _ _ => rfl)) rfl)))))), entB (n := 0) hp hm hy ex al rfl q ?_⟩
    walk_at "ent"
    have l7 := ok.len
    have fin : ∀ m, GS.IsLot m (mayS s.os s.g) → Φ (.d .non) (.ins 2 (putD "left" (.int (cof s.os s.ns s.z (bo s.ns s.g))) (putD "may" (.tup (m.map .str)) (putD "gone" (.tup (s.g.map .str)) (putD "counts" s.cnt (putD "room" (roomF s.os s.ns) (("deeds", dd) :: rest))))))) := fun m hm => by
      rcases hrest with rfl | ⟨t, k2, rfl⟩
      · exact k m hm
      · exact k m hm
    have l0 : (("deeds", dd) :: rest : List (Str × D)).length ≤ 6 := by
      rcases hrest with rfl | ⟨t, k2, rfl⟩
      · simp
      · simp [ledF]
    have pl := fun f v (gs : List (Str × D)) => putD_len (f := f) (v := v) (gs := gs)
    refine xs_seq <| xs_fldO (c := 2) T.cl_Led T.no_Led_room <| xe_var rfl ⟨_, rfl, by omega, ?_⟩
    try dsimp only [List.set]
    refine xs_seq <| xs_fldO (c := 2) T.cl_Led T.no_Led_counts <| xe_var rfl ⟨_, rfl, by have := pl "room" (roomF s.os s.ns) (("deeds", dd) :: rest); omega, ?_⟩
    try dsimp only [List.set]
    have l2 := pl "room" (roomF s.os s.ns) (("deeds", dd) :: rest)
    generalize e2 : putD "room" (roomF s.os s.ns) (("deeds", dd) :: rest) = r2 at *
    have l3 := pl "counts" s.cnt r2
    refine xs_seq <| xs_fldO (c := 2) T.cl_Led T.no_Led_gone <| xe_var rfl ⟨_, rfl, by omega, ?_⟩
    try dsimp only [List.set]
    generalize e3 : putD "counts" s.cnt r2 = r3 at *
    have l4 := pl "gone" (.tup (s.g.map .str)) r3
    refine xs_seq <| xs_fldO (c := 2) T.cl_Led T.no_Led_may <| xr_call (fun _ => .nil) <| xa_cons <| xe_var rfl <| xa_cons <| xe_var rfl <| xa_nil ⟨s.os, _, _, s.g, rfl, .inr rfl, by have := ok.few.l; omega, fun r hr => Nat.le_trans (ok.few.f r hr).1 (by decide), fun m hm => on_d ⟨_, rfl, by omega, ?_⟩⟩
    try dsimp only [List.set]
    have l5 := pl "may" (.tup (m.map .str)) (putD "gone" (.tup (s.g.map .str)) r3)
    refine xs_fldO (c := 2) T.cl_Led T.no_Led_left <| xe_dget <| xe_var rfl <| xr_call (fun _ => .nil) <| xa_cons <| xe_mnames T <| xe_var rfl ⟨_, _, rfl, xa_cons <| xe_var rfl <| xa_nil ⟨s.ns, s.g, _, rfl, .inr rfl, ok.few.nd, ok.st.nodup, ok.sub, by have := ok.few.s; omega, by omega, on_d ⟨s.kvs.reverse.map (cE s.os s.ns s.z), .inl ((bo s.ns s.g : Nat) : Int), _, rfl, rfl, ok.at, _, rfl, by omega, ?_⟩⟩⟩
    exact ⟨_, rfl, fin m hm⟩
def ledN : List Str := ["deeds", "room", "counts", "gone", "may", "left"]
theorem no_meth {m : Str} (h : m ∉ ledN) {dd : D} {s : LS} {k : List Str} : m ∉ (ledF dd s k).map (·.1) := h
def F_change : FB := fun y ds Φ => ∃ (prev : List LS) (s t : LS) (m : List Str), y = ledY prev s m ∧ prev.length ≤ 1000 ∧ ds = [roomF t.os t.ns, t.cnt, .tup (t.g.map .str)] ∧ t.Ok ∧ ∀ m', GS.IsLot m' (mayS t.os t.g) → Φ (.d .non) (ledY (prev ++ [s]) t m')
theorem ok_change (T : Txt K mg a) (G_Led_stand : FnOk P w K mg base CX0 3 a.f_Led_stand a.fd_Led_stand ["self", "room", "counts", "gone"] (spB (ZZ K a) F_stand)) : FnOk P w K mg base CX0 4 a.f_Led_change a.fd_Led_change ["self", "room", "counts", "gone"] (spB (ZZ K a) F_change) := by
  refine T.F_Led_change.ok sc_Led_change (fun vs H Q E h => ?_) (fun cdv A outer s H vs Q E hr h => ?_)
  · obtain ⟨M, p, ws, ho, y, ds, Φ, rfl, _, _, _, _, al, ⟨prev, s, t, m, rfl, _, rfl, _⟩, _⟩ := h
    simp [al.len]
  · obtain ⟨M, p, ws, ho, y, ds, Φ, rfl, hp, hm, hy, ex, al, ⟨prev, s, t, m, rfl, lp, rfl, ok, k⟩, q⟩ := h
    refine ⟨_, (pss_cons (ps_fld (pv 0) (pe_tup (pa_starK (K := K) rfl (pe_fldK (K := K) rfl (pv 0) rfl) (pa_cons (pe_tup (pa_cons (pe_fldK (K := K) rfl (pv 0) rfl) (pa_cons (pe_fldK (K := K) rfl (pv 0) rfl) (pa_cons (pe_fldK (K := K) rfl (pv 0) rfl) pa_nil)))) pa_nil))) rfl)
      (pss_one (ps_expr (pe_meth (pv 0) T.cl_Led T.mt_Led_stand G_Led_stand (hr.mono (by decide)) T.b_Led_stand .nil pass0 (pa_cons (pv 1) (pa_cons (pv 2) (pa_cons (pv 3) pa_nil))))))), entB (n := 0) hp hm hy ex al rfl q ?_⟩
    walk_at "ent"
    refine xs_seq <| xs_fldO (c := 2) T.cl_Led T.no_Led_deeds <| xe_tup <| xa_star <| xe_fldO (c := 2) T.cl_Led T.no_Led_deeds rfl rfl ⟨prev.map LS.d, .inr rfl, xa_cons <| xe_tup <| xa_cons <| xe_fldO (c := 2) T.cl_Led T.no_Led_room rfl rfl <| xa_cons <| xe_fldO (c := 2) T.cl_Led T.no_Led_counts rfl rfl <| xa_cons <| xe_fldO (c := 2) T.cl_Led T.no_Led_gone rfl rfl <| xa_nil ⟨by simp, xa_nil ⟨by simp; omega, _, rfl, (show (6 : Nat) < 1000 by decide), ?_⟩⟩⟩
    try dsimp only [List.set]
    refine xs_drop <| xr_methO (c := 2) rfl (fun _ => .nil) ⟨_, rfl, no_meth (m := "stand") (dd := .tup (prev.map LS.d ++ [s.d])) (s := s) (k := m) (by decide +kernel)⟩ <| xa_cons <| xe_var rfl <| xa_cons <| xe_var rfl <| xa_cons <| xe_var rfl <| xa_nil ⟨_, rfl, .tup (prev.map LS.d ++ [s.d]), (ledF (.tup (prev.map LS.d ++ [s.d])) s m).tail, t, rfl, .inr ⟨s, m, rfl⟩, rfl, ok, fun m' hm' => on_d ?_⟩
    refine ⟨_, rfl, ?_⟩
    have e : ledY (prev ++ [s]) t m' = .ins 2 (ledF (.tup (prev.map LS.d ++ [s.d])) t m') := by unfold ledY; rw [List.map_append]; rfl
    rw [← e]
    exact k m' hm'
def LS.go (s : LS) (ws : List Str) : LS := { s with g := s.g ++ ws }
theorem LS.Ok.go {s : LS} {ws : List Str} (h : s.Ok) (st : Steps s.os (s.g ++ ws)) : (s.go ws).Ok := ⟨h.few, h.size, h.aft, st, h.nok⟩
def SevB (prev : List LS) (s : LS) (m ws : List Str) (y' : OD) : Prop := (ws = [] ∧ y' = ledY prev s m) ∨ (ws ≠ [] ∧ ∃ m', GS.IsLot m' (mayS s.os (s.g ++ ws)) ∧ y' = ledY (prev ++ [s]) (s.go ws) m')
theorem eqv_str2 {n : Str} {x : D} (p : pla x = true) (h : PyData.eqv (.str n) (py x) = true) : x = .str n := by
  cases x <;> simp [pla] at p <;> simp [py, PyData.eqv] at h
  rw [h]
theorem any_str2 {ns : List Str} {x : D} (p : pla x = true) : ((pyL (ns.map .str)).any fun z => PyData.eqv z (py x)) = true ↔ ∃ n ∈ ns, x = .str n := by
  induction ns with
  | nil => simp [pyL]
  | cons m ns ih =>
    rw [List.map_cons, pyL, List.any_cons, Bool.or_eq_true, ih]
    constructor
    · rintro (h | ⟨n, hn, e⟩)
      · exact ⟨m, by simp, eqv_str2 p h⟩
      · exact ⟨n, by simp [hn], e⟩
    · rintro ⟨n, hn, rfl⟩
      rcases List.mem_cons.mp hn with q | q
      · exact .inl (by simp [py, PyData.eqv, q])
      · exact .inr ⟨n, q, rfl⟩
def F_ledinit : FB := fun y ds Φ => ∃ (os : List Rl) (ns : List Str) (z : Nat), y = .ins 2 [] ∧ ds = [roomF os ns] ∧ Few os ns ∧ Size os z ∧ (∀ n ∈ ns, PyData.strOk n = true) ∧ ∀ kvs m', (LS.mk os ns z kvs []).Ok → GS.IsLot m' (mayS os []) → Φ (.d .non) (ledY [] ⟨os, ns, z, kvs, []⟩ m')
theorem ok_ledinit (T : Txt K mg a) (G_counts_in : FnOk P w K mg base CX0 3 a.f_counts_in a.fd_counts_in ["room"] (spR (ZZ K a) F_counts)) (G_Led_stand : FnOk P w K mg base CX0 3 a.f_Led_stand a.fd_Led_stand ["self", "room", "counts", "gone"] (spB (ZZ K a) F_stand)) : FnOk P w K mg base CX0 4 a.f_Led_init a.fd_Led_init ["self", "room"] (spB (ZZ K a) F_ledinit) := by
  refine T.F_Led_init.ok sc_Led_init (fun vs H Q E h => ?_) (fun cdv A outer s H vs Q E hr h => ?_)
  · obtain ⟨M, p, ws', ho, y, ds, Φ, rfl, _, _, _, _, al, ⟨os, ns, z, rfl, rfl, _⟩, _⟩ := h
    simp [al.len]
  · obtain ⟨M, p, ws', ho, y, ds, Φ, rfl, hp, hm, hy, ex, al, ⟨os, ns, z, rfl, rfl, few, size, nok, fin⟩, q⟩ := h
    refine ⟨_, (pss_cons (ps_fld (pv 0) (pe_tup pa_nil) rfl)
      (pss_one (ps_expr (pe_meth (pv 0) T.cl_Led T.mt_Led_stand G_Led_stand (hr.mono (by decide)) T.b_Led_stand .nil pass0 (pa_cons (pv 1) (pa_cons (pe_call G_counts_in (hr.mono (by decide)) (by rfl) T.m_counts_in T.F_counts_in.kp T.b_counts_in .nil pass0 (pa_cons (pv 1) pa_nil)) (pa_cons (pe_tup pa_nil) pa_nil))))))), entB (n := 0) hp hm hy ex al rfl q ?_⟩
    walk_at "ent"
    refine xs_seq <| xs_fldO (c := 2) T.cl_Led T.no_Led_deeds <| xe_tup <| xa_nil ⟨by simp, [], rfl, by decide, ?_⟩
    try dsimp only [List.set]
    refine xs_drop <| xr_methO (c := 2) rfl (fun _ => .nil) ⟨_, rfl, (show ("stand" : Str) ∉ (["deeds"] : List Str) by decide +kernel)⟩ <| xa_cons <| xe_var rfl <| xa_cons <| xe_ofOD <| xr_call (fun _ => .nil) <| xa_cons <| xe_var rfl <| xa_nil ⟨os, ns, z, rfl, few, size, fun kvs aft => on_o ⟨_, rfl, xa_cons <| xe_tup <| xa_nil ⟨by simp, xa_nil ⟨_, rfl, .tup [], [], ⟨os, ns, z, kvs, []⟩, rfl, .inl rfl, rfl, ⟨few, size, aft, Steps.nil, nok⟩, fun m' hm' => on_d ⟨_, rfl, fin kvs m' ⟨few, size, aft, Steps.nil, nok⟩ hm'⟩⟩⟩⟩⟩
def F_ledlen : FB := fun y ds Φ => ∃ (prev : List LS) (s : LS) (m : List Str), y = ledY prev s m ∧ ds = [] ∧ Φ (.d (.int prev.length)) y
theorem ok_ledlen (T : Txt K mg a) : FnOk P w K mg base CX0 1 a.f_Led_len a.fd_Led_len ["self"] (spB (ZZ K a) F_ledlen) := by
  refine T.F_Led_len.ok sc_Led_len (fun vs H Q E h => ?_) (fun cdv A outer s H vs Q E hr h => ?_)
  · obtain ⟨M, p, ws', ho, y, ds, Φ, rfl, _, _, _, _, al, ⟨prev, s, m, rfl, rfl, _⟩, _⟩ := h
    simp [al.len]
  · obtain ⟨M, p, ws', ho, y, ds, Φ, rfl, hp, hm, hy, ex, al, ⟨prev, s, m, rfl, rfl, fin⟩, q⟩ := h
    refine ⟨_, (pss_one (ps_ret (pe_callB (show CallR _ (.builtin "len") (G.rLen K) from call_len) (by rfl) T.n_len PySem.boot_len (pa_cons (pe_fldK (K := K) rfl (pv 0) rfl) pa_nil)))), entB (n := 0) hp hm hy ex al rfl q ?_⟩
    walk_at "ent"
    exact xs_ret <| xe_len <| xe_fldO (c := 2) T.cl_Led T.no_Led_deeds rfl rfl ⟨prev.length, by simp [lenD], _, rfl, fin⟩
def F_several : FB := fun y ds Φ => ∃ (prev : List LS) (s : LS) (m ws : List Str) (d : D), y = ledY prev s m ∧ s.Ok ∧ prev.length ≤ 1000 ∧ ds = [d] ∧ isStrs d ws ∧ Steps s.os (s.g ++ ws) ∧ ∀ y', SevB prev s m ws y' → Φ (.d .non) y'
theorem ok_several (T : Txt K mg a) (G_may : FnOk P w K mg base CX0 2 a.f_may a.fd_may ["room", "gone"] (spR (ZZ K a) F_may)) (G_Led_change : FnOk P w K mg base CX0 4 a.f_Led_change a.fd_Led_change ["self", "room", "counts", "gone"] (spB (ZZ K a) F_change)) : FnOk P w K mg base CX0 5 a.f_Led_several a.fd_Led_several ["self", "names"] (spB (ZZ K a) F_several) := by
  refine T.F_Led_several.ok sc_Led_several (fun vs H Q E h => ?_) (fun cdv A outer s H vs Q E hr h => ?_)
  · obtain ⟨M, p, ws', ho, y, ds, Φ, rfl, _, _, _, _, al, ⟨prev, s, m, ws, d, rfl, _, _, rfl, _⟩, _⟩ := h
    simp [al.len]
  · obtain ⟨M, p, ws', ho, y, ds, Φ, rfl, hp, hm, hy, ex, al, ⟨prev, s, m, ws, d, rfl, ok, lp, rfl, hd, all, fin⟩, q⟩ := h
    refine ⟨_, (pss_cons (ps_set (i := 2) sc_Led_several.nd rfl (Or.inl rfl) (pe_fldK (K := K) rfl (pv 0) rfl))
      (pss_cons (ps_for PassesOwn.never rfl (G.pi_or (pi_list (pv 1)) (pi_tupK (K := K) rfl (pv 1))) (pg_name (i := 3) sc_Led_several.nd rfl (Or.inl rfl))
      (pss_cons (ps_if (pt_cmpR (show OpR _ (compareOp .NotIn) (GX.rInTup K true) from GX.op_ninTup (units65 hr)) (pv 3) (pe_call G_may (hr.mono (by decide)) (by rfl) T.m_may T.F_may.kp T.b_may .nil pass0 (pa_cons (pe_fldK (K := K) rfl (pv 0) rfl) (pa_cons (pv 2) pa_nil))) rfl) (pss_one ps_never) pss_nil)
      (pss_one (ps_set (i := 2) sc_Led_several.nd rfl (Or.inl rfl) (pe_tup (pa_starK (K := K) rfl (pv 2) (pa_cons (pv 3) pa_nil)))))))
      (pss_one (ps_if (pt_cmpR (op_neD hr.units) (pv 2) (pe_fldK (K := K) rfl (pv 0) rfl) (nomark _)) (pss_one (ps_expr (pe_meth (pv 0) T.cl_Led T.mt_Led_change G_Led_change (hr.mono (by decide)) T.b_Led_change .nil pass0 (pa_cons (pe_fldK (K := K) rfl (pv 0) rfl) (pa_cons (pe_fldK (K := K) rfl (pv 0) rfl) (pa_cons (pv 2) pa_nil)))))) pss_nil)))), entB (n := 2) hp hm hy ex al rfl q ?_⟩
    walk_at "ent"
    have okw := ok.go all
    have gok := okw.gok
    refine xs_seq <| xs_set (by decide) <| xe_fldO (c := 2) T.cl_Led T.no_Led_gone rfl rfl ?_
    try dsimp only [List.set]
    refine xs_seq <| xs_for (vs := [3]) (xi_seqV rfl hd ?_)
    refine ⟨fun i δ => ∃ (s3 : S), δ = [.own (ledY prev s m), .d d, .d (.tup ((s.g ++ ws.take i).map .str)), s3], ⟨.no, by simp⟩, ?_, ?_⟩
    · rintro i x δ1 hi ⟨s3, rfl⟩
      obtain ⟨x, hx, rfl⟩ : ∃ y, ws[i]? = some y ∧ D.str y = x := by simpa using hi
      have il := (List.getElem?_eq_some_iff.mp hx).1
      have tk : ws.take (i + 1) = ws.take i ++ [x] := GS.take_get hx
      have st := all.cutAt i
      have st2 := all.cutAt (i + 1)
      rw [tk, ← List.append_assoc] at st2
      have l7 := (ok.go st).len
      have xok : PyData.strOk x = true := gok x (by show x ∈ s.g ++ ws; exact List.mem_append_right _ (List.mem_of_getElem? hx))
      refine xg_name (by decide) (by decide) ?_
      try dsimp only [List.set]
      refine xs_seq <| xs_if <| xt_test <| xe_inTup <| xe_var rfl <| xr_call (fun _ => .nil) <| xa_cons <| xe_fldO (c := 2) T.cl_Led T.no_Led_room rfl rfl <| xa_cons <| xe_var rfl <| xa_nil ⟨s.os, _, _, s.g ++ ws.take i, rfl, .inr rfl, by have := ok.few.l; omega, fun r hr => Nat.le_trans (ok.few.f r hr).1 (by decide), fun ys hys => on_d ⟨_, rfl, rfl, pla_strs _, (lay_str (n := 0) xok).shaped (by decide), ?_, _, rfl, ?_⟩⟩
      · refine shp_tup fun n hn => ?_
        obtain ⟨_, us, hu, _⟩ := mem_may.mp ((hys.mem n).mp hn)
        exact ok.nok n (ok.few.m _ hu n (by simp))
      rw [if_pos rfl, (any_str2 (x := .str x) rfl).mpr ⟨x, (hys.mem x).mpr st2.init.2, rfl⟩]
      refine if_ff <| xs_next <| xs_set (by decide) <| xe_tup <| xa_star <| xe_var rfl ⟨_, .inr rfl, xa_cons <| xe_var rfl <| xa_nil ⟨?_, .d (.str x), ?_⟩⟩
      · have : (s.g ++ ws.take i).length ≤ 7 := l7
        simp at this ⊢; omega
      · rw [tk]; simp
    · rintro δ1 ⟨s3, rfl⟩
      rw [List.length_map, List.take_length]
      refine xs_if <| xt_test <| xe_neD <| xe_var rfl <| xe_fldO (c := 2) T.cl_Led T.no_Led_gone rfl rfl ⟨pla_strs _, pla_strs _, shp_tup gok, shp_tup ok.gok, _, rfl, ?_⟩
      rw [eqv_tup]
      refine ite_b (fun h => ?_) (fun h => ?_)
      · have ne : ws ≠ [] := fun e => by subst e; simp at h
        refine xs_drop <| xr_methO (c := 2) rfl (fun _ => .nil) ⟨_, rfl, no_meth (m := "change") (dd := .tup (prev.map LS.d)) (s := s) (k := m) (by decide +kernel)⟩ <| xa_cons <| xe_fldO (c := 2) T.cl_Led T.no_Led_room rfl rfl <| xa_cons <| xe_fldO (c := 2) T.cl_Led T.no_Led_counts rfl rfl <| xa_cons <| xe_var rfl <| xa_nil ⟨_, rfl, prev, s, s.go ws, m, rfl, lp, rfl, okw, fun m' hm' => on_d ⟨_, rfl, fin _ (.inr ⟨ne, m', hm', rfl⟩)⟩⟩
      · have e : ws = [] := by simpa using h
        exact xs_next ⟨_, rfl, fin _ (.inl ⟨e, rfl⟩)⟩
def F_leave : FB := fun y ds Φ => ∃ (prev : List LS) (s : LS) (m : List Str) (x : Str), y = ledY prev s m ∧ s.Ok ∧ prev.length ≤ 1000 ∧ ds = [.str x] ∧ x ∈ mayS s.os s.g ∧ ∀ m', GS.IsLot m' (mayS s.os (s.g ++ [x])) → Φ (.d .non) (ledY (prev ++ [s]) (s.go [x]) m')
theorem ok_leave (T : Txt K mg a) (G_Led_several : FnOk P w K mg base CX0 5 a.f_Led_several a.fd_Led_several ["self", "names"] (spB (ZZ K a) F_several)) : FnOk P w K mg base CX0 6 a.f_Led_leave a.fd_Led_leave ["self", "name"] (spB (ZZ K a) F_leave) := by
  refine T.F_Led_leave.ok sc_Led_leave (fun vs H Q E h => ?_) (fun cdv A outer s H vs Q E hr h => ?_)
  · obtain ⟨M, p, ws', ho, y, ds, Φ, rfl, _, _, _, _, al, ⟨prev, s, m, x, rfl, _, _, rfl, _⟩, _⟩ := h
    simp [al.len]
  · obtain ⟨M, p, ws', ho, y, ds, Φ, rfl, hp, hm, hy, ex, al, ⟨prev, s, m, x, rfl, ok, lp, rfl, hx, fin⟩, q⟩ := h
    refine ⟨_, (pss_one (ps_expr (pe_meth (pv 0) T.cl_Led T.mt_Led_several G_Led_several (hr.mono (by decide)) T.b_Led_several .nil pass0 (pa_cons (pe_lst (pa_cons (pv 1) pa_nil)) pa_nil)))), entB (n := 0) hp hm hy ex al rfl q ?_⟩
    walk_at "ent"
    refine xs_drop <| xr_methO (c := 2) rfl (fun _ => .nil) ⟨_, rfl, no_meth (m := "several") (dd := .tup (prev.map LS.d)) (s := s) (k := m) (by decide +kernel)⟩ <| xa_cons <| xe_ofO <| xo_lst <| xa_cons <| xe_var rfl <| xa_nil ⟨by simp, _, rfl, xa_nil ⟨_, rfl, prev, s, m, [x], _, rfl, ok, lp, rfl, .inl rfl, ok.st.snoc hx, fun y' hy' => on_d ⟨_, rfl, ?_⟩⟩⟩
    rcases hy' with ⟨e, _⟩ | ⟨_, m', hm', rfl⟩
    · cases e
    · exact fin m' hm'
theorem cut_init {α : Type} {xs : List α} {x : α} : G.cut (xs ++ [x]) none (some (-1)) = xs := by
  unfold G.cut
  have e1 : HT.sIx (xs ++ [x]).length 0 none = 0 := rfl
  have e2 : HT.sIx (xs ++ [x]).length (xs ++ [x]).length (some (-1)) = xs.length := by
    show (if (-1 : Int) < 0 then ((-1 : Int) + ((xs ++ [x]).length : Int)).toNat else min (-1 : Int).toNat (xs ++ [x]).length) = xs.length
    rw [if_pos (by omega), List.length_append, List.length_singleton]
    omega
  rw [e1, e2, List.drop_zero, Nat.sub_zero, List.take_append_of_le_length (Nat.le_refl _), List.take_length]
def F_undo : FB := fun y ds Φ => ∃ (prev : List LS) (s : LS) (m : List Str), y = ledY prev s m ∧ ds = [] ∧ prev.length ≤ 1000 ∧ (prev = [] → Φ (.d (.bl false)) y) ∧ ∀ prev' t, prev = prev' ++ [t] → t.Ok ∧ ∀ m', GS.IsLot m' (mayS t.os t.g) → Φ (.d (.bl true)) (ledY prev' t m')
theorem ok_undo (T : Txt K mg a) (G_Led_stand : FnOk P w K mg base CX0 3 a.f_Led_stand a.fd_Led_stand ["self", "room", "counts", "gone"] (spB (ZZ K a) F_stand)) : FnOk P w K mg base CX0 4 a.f_Led_undo a.fd_Led_undo ["self"] (spB (ZZ K a) F_undo) := by
  refine T.F_Led_undo.ok sc_Led_undo (fun vs H Q E h => ?_) (fun cdv A outer s H vs Q E hr h => ?_)
  · obtain ⟨M, p, ws, ho, y, ds, Φ, rfl, _, _, _, _, al, ⟨prev, s, m, rfl, rfl, _⟩, _⟩ := h
    simp [al.len]
  · obtain ⟨M, p, ws, ho, y, ds, Φ, rfl, hp, hm, hy, ex, al, ⟨prev, s, m, rfl, rfl, lp, k0, k1⟩, q⟩ := h
    refine ⟨_, (pss_cons (ps_if (pt_not (pt_truth (pe_fldK (K := K) rfl (pv 0) rfl) (by intro _; rfl))) (pss_one (ps_ret pe_bl)) pss_nil)
      (pss_cons (ps_asg (pe_ix (show IxR _ (rIx K) from ix_seq) (pe_fldK (K := K) rfl (pv 0) rfl) (pe_un un_neg pe_int) (fun _ _ => rfl)) (pg_tup rfl (pgs_cons (pg_name (i := 1) sc_Led_undo.nd rfl (Or.inl rfl)) (pgs_cons (pg_name (i := 2) sc_Led_undo.nd rfl (Or.inl rfl)) (pgs_cons (pg_name (i := 3) sc_Led_undo.nd rfl (Or.inl rfl)) pgs_nil)))))
      (pss_cons (ps_fld (pv 0) (pe_slice (show SlR _ (rSlA K) from sl_tupA) (pe_fldK (K := K) rfl (pv 0) rfl) po_none (po_some (pe_un un_neg pe_int))) rfl)
      (pss_cons (ps_expr (pe_meth (pv 0) T.cl_Led T.mt_Led_stand G_Led_stand (hr.mono (by decide)) T.b_Led_stand .nil pass0 (pa_cons (pv 1) (pa_cons (pv 2) (pa_cons (pv 3) pa_nil)))))
      (pss_one (ps_ret pe_bl)))))), entB (n := 3) hp hm hy ex al rfl q ?_⟩
    walk_at "ent"
    rcases List.eq_nil_or_concat prev with rfl | ⟨prev, t, rfl⟩
    · refine xs_seq <| xs_if <| xt_not <| xt_truth <| xe_fldO (c := 2) T.cl_Led T.no_Led_deeds rfl rfl ⟨nofun, false, rfl, ?_⟩
      exact if_nf <| xs_ret <| xe_bl ⟨_, rfl, k0 rfl⟩
    · rw [List.concat_eq_append] at *
      obtain ⟨ok, fin⟩ := k1 prev t rfl
      have em : (prev ++ [t]).map LS.d = prev.map LS.d ++ [t.d] := by simp
      refine xs_seq <| xs_if <| xt_not <| xt_truth <| xe_fldO (c := 2) T.cl_Led T.no_Led_deeds rfl rfl ⟨nofun, true, ?_, ?_⟩
      · rw [em]
        cases prev <;> rfl
      refine if_nt <| xs_next ?_
      refine xs_seq <| xs_asg (vs := [1, 2, 3]) <| xe_ix <| xe_fldO (c := 2) T.cl_Led T.no_Led_deeds rfl rfl <| ?_
      refine xe_neg <| xe_int ⟨_, rfl, _, t.d, rfl, ?_, ?_⟩
      · rw [em]
        exact L2.atI_last _ _
      refine xg_tup (xs := [roomF t.os t.ns, t.cnt, .tup (t.g.map .str)]) (by rfl) (xgs_cons (xg_name (by decide) (by decide) (xgs_cons (xg_name (by decide) (by decide) (xgs_cons (xg_name (by decide) (by decide) (xgs_nil ?_)))))))
      try dsimp only [List.set]
      refine xs_seq <| xs_fldO (c := 2) T.cl_Led T.no_Led_deeds <| xe_slA <| xe_fldO (c := 2) T.cl_Led T.no_Led_deeds rfl rfl <| xp_no <| xp_part <| xe_neg <| xe_int ⟨_, rfl, _, rfl, _, rfl, _, rfl, (show (6 : Nat) < 1000 by decide), ?_⟩
      try dsimp only [List.set]
      have ec : G.cut ((prev ++ [t]).map LS.d) none (some (-1)) = prev.map LS.d := by rw [em]; exact cut_init
      show XS _ _ _ [.own (.ins 2 (ledF (.tup (G.cut ((prev ++ [t]).map LS.d) none (some (-1)))) s m)), .d (roomF t.os t.ns), .d t.cnt, .d (.tup (t.g.map .str))] _
      rw [ec]
      refine xs_seq <| xs_drop <| xr_methO (c := 2) rfl (fun _ => .nil) ⟨_, rfl, no_meth (m := "stand") (dd := .tup (prev.map LS.d)) (s := s) (k := m) (by decide +kernel)⟩ <| xa_cons <| xe_var rfl <| xa_cons <| xe_var rfl <| xa_cons <| xe_var rfl <| xa_nil ⟨_, rfl, .tup (prev.map LS.d), (ledF (.tup (prev.map LS.d)) s m).tail, t, rfl, .inr ⟨s, m, rfl⟩, rfl, ok, fun m' hm' => on_d ?_⟩
      exact xs_ret <| xe_bl ⟨_, rfl, fin m' hm'⟩
/-! ### trials, and works within -/
theorem nT_Trial (T : Txt K mg a) : GL.NoAttrs K a.C_Trial ["led", "room", "counts", "gone", "may", "left", "deeds"] := fun f hf => by
  simp only [List.mem_cons, List.not_mem_nil, or_false] at hf
  rcases hf with rfl | rfl | rfl | rfl | rfl | rfl | rfl
  · exact T.no_Trial_led
  · exact T.no_Trial_room
  · exact T.no_Trial_counts
  · exact T.no_Trial_gone
  · exact T.no_Trial_may
  · exact T.no_Trial_left
  · exact T.no_Trial_deeds
theorem nL_Led (T : Txt K mg a) : GL.NoAttrs K a.C_Led ["room", "counts", "gone", "may", "left", "deeds"] := fun f hf => by
  simp only [List.mem_cons, List.not_mem_nil, or_false] at hf
  rcases hf with rfl | rfl | rfl | rfl | rfl | rfl
  · exact T.no_Led_room
  · exact T.no_Led_counts
  · exact T.no_Led_gone
  · exact T.no_Led_may
  · exact T.no_Led_left
  · exact T.no_Led_deeds
theorem ok_Trial_init (T : Txt K mg a) : FnOk P w K mg base CX0 1 a.f_Trial_init a.fd_Trial_init ["self", "led"] (GL.spTinit a.C_Trial) := by
  refine T.F_Trial_init.ok sc_Trial_init (fun vs H Q E h => ?_) (fun cdv A outer s H vs Q E hr h => ?_)
  · obtain ⟨x, dx, p, rfl, _⟩ := h; rfl
  · obtain ⟨x, dx, p, rfl, hx, fin⟩ := h
    refine ⟨_, (pss_one (ps_fld (pv 0) (pv 1) rfl)), ?_⟩
    exact ⟨_, rfl, _, rfl, x, _, dx, _, rfl, hx, T.cl_Trial, T.no_Trial_led, Nat.le_of_ble_eq_true rfl, fin⟩
theorem ok_Trial_enter (T : Txt K mg a) : FnOk P w K mg base CX0 1 a.f_Trial_enter a.fd_Trial_enter ["self"] (GL.spEnter a.C_Trial a.C_Led) := by
  refine T.F_Trial_enter.ok sc_Trial_enter (fun vs H Q E h => ?_) (fun cdv A outer s H vs Q E hr h => ?_)
  · obtain ⟨x, dx, p, dp, a1, a2, a3, a4, a5, a6, rfl, _⟩ := h; rfl
  · obtain ⟨x, dx, p, dp, a1, a2, a3, a4, a5, a6, rfl, ne, hx, hp, fin⟩ := h
    exact ⟨_, (pss_cons (ps_fld (pv 0) (pe_fldK (K := K) rfl (pe_fldK (K := K) rfl (pv 0) rfl) rfl) rfl)
      (pss_cons (ps_fld (pv 0) (pe_fldK (K := K) rfl (pe_fldK (K := K) rfl (pv 0) rfl) rfl) rfl)
      (pss_cons (ps_fld (pv 0) (pe_fldK (K := K) rfl (pe_fldK (K := K) rfl (pv 0) rfl) rfl) rfl)
      (pss_cons (ps_fld (pv 0) (pe_fldK (K := K) rfl (pe_fldK (K := K) rfl (pv 0) rfl) rfl) rfl)
      (pss_cons (ps_fld (pv 0) (pe_fldK (K := K) rfl (pe_fldK (K := K) rfl (pv 0) rfl) rfl) rfl)
      (pss_cons (ps_fld (pv 0) (pe_fldK (K := K) rfl (pe_fldK (K := K) rfl (pv 0) rfl) rfl) rfl)
      (pss_one (ps_ret (pe_fldK (K := K) rfl (pv 0) rfl))))))))), GL.enter_run T.cl_Trial T.cl_Led (nT_Trial T) (nL_Led T) rfl ne hx hp fin⟩
theorem ok_Trial_exit (T : Txt K mg a) : FnOk P w K mg base CX0 1 a.f_Trial_exit a.fd_Trial_exit ["self", "kind", "value", "trace"] (GL.spExit a.C_Trial a.C_Led) := by
  refine T.F_Trial_exit.ok sc_Trial_exit (fun vs H Q E h => ?_) (fun cdv A outer s H vs Q E hr h => ?_)
  · obtain ⟨x, dx, p, dp, a1, a2, a3, a4, a5, a6, b1, b2, b3, b4, b5, b6, rfl, _⟩ := h; rfl
  · obtain ⟨x, dx, p, dp, a1, a2, a3, a4, a5, a6, b1, b2, b3, b4, b5, b6, rfl, ne, hx, hp, fin⟩ := h
    exact ⟨_, (pss_cons (ps_fld (pe_fldK (K := K) rfl (pv 0) rfl) (pe_fldK (K := K) rfl (pv 0) rfl) rfl)
      (pss_cons (ps_fld (pe_fldK (K := K) rfl (pv 0) rfl) (pe_fldK (K := K) rfl (pv 0) rfl) rfl)
      (pss_cons (ps_fld (pe_fldK (K := K) rfl (pv 0) rfl) (pe_fldK (K := K) rfl (pv 0) rfl) rfl)
      (pss_cons (ps_fld (pe_fldK (K := K) rfl (pv 0) rfl) (pe_fldK (K := K) rfl (pv 0) rfl) rfl)
      (pss_cons (ps_fld (pe_fldK (K := K) rfl (pv 0) rfl) (pe_fldK (K := K) rfl (pv 0) rfl) rfl)
      (pss_one (ps_fld (pe_fldK (K := K) rfl (pv 0) rfl) (pe_fldK (K := K) rfl (pv 0) rfl) rfl))))))), GL.exit_run T.cl_Trial T.cl_Led (nT_Trial T) (nL_Led T) rfl ne hx hp fin⟩
theorem ok_Led_trial (T : Txt K mg a) (G_Trial_init : FnOk P w K mg base CX0 1 a.f_Trial_init a.fd_Trial_init ["self", "led"] (GL.spTinit a.C_Trial)) : FnOk P w K mg base CX0 3 a.f_Led_trial a.fd_Led_trial ["self"] (GL.spTrial a.C_Trial) := by
  refine T.F_Led_trial.ok sc_Led_trial (fun vs H Q E h => ?_) (fun cdv A outer s H vs Q E hr h => ?_)
  · obtain ⟨p, rfl, _⟩ := h; rfl
  · obtain ⟨p, rfl, fin⟩ := h
    refine ⟨_, (pss_one (ps_ret (pe_make T.mk_Trial G_Trial_init (hr.mono (by decide)) (by rfl) T.m_Trial T.b_Trial_init .nil pass0 (pa_cons (pv 0) pa_nil)))), ?_⟩
    exact ⟨_, rfl, fun x dx hx hdx ne => ⟨x, dx, p, rfl, upd_same, rfl, by rw [upd_upd]; exact fin x dx hx hdx ne⟩⟩
def F_within (k : Nat) (FL : FB) : FB := fun y ds Φ => ∃ (gs : List (Str × D)) (cds : List D), y = .ins 2 gs ∧ gs.map (·.1) = GL.ledNs ∧ GL.noXL (gs.map (·.2)) = true ∧ ds = [.fn k cds] ∧ GL.noXL cds = true ∧ FL y cds fun s y' => (∃ gs', y' = .ins 2 gs' ∧ gs'.map (·.1) = GL.ledNs) ∧ (∃ d, s = .d d) ∧ Φ s y
theorem ok_within_lw_main_L0 {FL : FB} (T : Txt K mg a) (G_lw_main_L0 : GL.LamOk P w K mg base CX0 7 lS_lw_main_L0 (spB (ZZ K a) FL)) (G_Led_trial : FnOk P w K mg base CX0 3 a.f_Led_trial a.fd_Led_trial ["self"] (GL.spTrial a.C_Trial)) (G_Trial_enter : FnOk P w K mg base CX0 1 a.f_Trial_enter a.fd_Trial_enter ["self"] (GL.spEnter a.C_Trial a.C_Led)) (G_Trial_exit : FnOk P w K mg base CX0 1 a.f_Trial_exit a.fd_Trial_exit ["self", "kind", "value", "trace"] (GL.spExit a.C_Trial a.C_Led)) : FnOk P w K mg base CX0 8 a.f_Led_within a.fd_Led_within ["self", "work"] (spB (ZZ K a) (F_within 0 FL)) := by
  refine T.F_Led_within.ok sc_Led_within (fun vs H Q E h => ?_) (fun cdv A outer s H vs Q E hr h => ?_)
  · obtain ⟨M, p, ws, ho, y, ds, Φ, rfl, _, _, _, _, al, ⟨gs, cds, rfl, _, _, rfl, _⟩, _⟩ := h
    simp [al.len]
  · obtain ⟨M, p, ws, ho, y, ds, Φ, rfl, hp, hm, hy, ex, al, ⟨gs, cds, rfl, hn, nx, rfl, nc, hF⟩, q⟩ := h
    refine ⟨_, (pss_one (GL.ps_with (i := 2) (pe_meth0 (pv 0) T.cl_Led T.mt_Led_trial G_Led_trial (hr.mono (by decide)) T.b_Led_trial .nil pass0) T.mt_Trial_enter T.mt_Trial_exit G_Trial_enter G_Trial_exit (hr.mono (by decide)) (hr.mono (by decide)) T.b_Trial_enter T.b_Trial_exit sc_Led_within.nd rfl (Or.inl rfl) (Or.inl rfl) (pss_one (ps_ret (GL.pe_callV (S := lS_lw_main_L0) (i := 1) (E := L2.E0) G_lw_main_L0 (hr.mono (by decide)) GL.lam_pass0 rfl (by first | exact Or.inl rfl | exact Or.inr (Or.inl rfl) | exact Or.inr (Or.inr rfl)) (pa_cons (pv 2) pa_nil)))))), entB (n := 1) hp hm hy ex al rfl q ?_⟩
    walk_at "ent"
    exact GL.xs_within rfl rfl T.cl_Led rfl rfl hn nx nc (Nat.lt_succ_self 2) hF fun s y' ⟨h1, h2, h3⟩ => ⟨h1, h2, _, rfl, h3⟩
theorem ok_within_lw_main_L1 {FL : FB} (T : Txt K mg a) (G_lw_main_L1 : GL.LamOk P w K mg base CX0 7 lS_lw_main_L1 (spB (ZZ K a) FL)) (G_Led_trial : FnOk P w K mg base CX0 3 a.f_Led_trial a.fd_Led_trial ["self"] (GL.spTrial a.C_Trial)) (G_Trial_enter : FnOk P w K mg base CX0 1 a.f_Trial_enter a.fd_Trial_enter ["self"] (GL.spEnter a.C_Trial a.C_Led)) (G_Trial_exit : FnOk P w K mg base CX0 1 a.f_Trial_exit a.fd_Trial_exit ["self", "kind", "value", "trace"] (GL.spExit a.C_Trial a.C_Led)) : FnOk P w K mg base CX0 8 a.f_Led_within a.fd_Led_within ["self", "work"] (spB (ZZ K a) (F_within 1 FL)) := by
  refine T.F_Led_within.ok sc_Led_within (fun vs H Q E h => ?_) (fun cdv A outer s H vs Q E hr h => ?_)
  · obtain ⟨M, p, ws, ho, y, ds, Φ, rfl, _, _, _, _, al, ⟨gs, cds, rfl, _, _, rfl, _⟩, _⟩ := h
    simp [al.len]
  · obtain ⟨M, p, ws, ho, y, ds, Φ, rfl, hp, hm, hy, ex, al, ⟨gs, cds, rfl, hn, nx, rfl, nc, hF⟩, q⟩ := h
    refine ⟨_, (pss_one (GL.ps_with (i := 2) (pe_meth0 (pv 0) T.cl_Led T.mt_Led_trial G_Led_trial (hr.mono (by decide)) T.b_Led_trial .nil pass0) T.mt_Trial_enter T.mt_Trial_exit G_Trial_enter G_Trial_exit (hr.mono (by decide)) (hr.mono (by decide)) T.b_Trial_enter T.b_Trial_exit sc_Led_within.nd rfl (Or.inl rfl) (Or.inl rfl) (pss_one (ps_ret (GL.pe_callV (S := lS_lw_main_L1) (i := 1) (E := L2.E0) G_lw_main_L1 (hr.mono (by decide)) GL.lam_pass0 rfl (by first | exact Or.inl rfl | exact Or.inr (Or.inl rfl) | exact Or.inr (Or.inr rfl)) (pa_cons (pv 2) pa_nil)))))), entB (n := 1) hp hm hy ex al rfl q ?_⟩
    walk_at "ent"
    exact GL.xs_within rfl rfl T.cl_Led rfl rfl hn nx nc (Nat.lt_succ_self 2) hF fun s y' ⟨h1, h2, h3⟩ => ⟨h1, h2, _, rfl, h3⟩
section
variable {os : List Rl} {ns : List Str}
theorem dfs_mem (f : Few os ns) : ∀ {t o : List Str}, Steps os (o ++ t) → t ∈ dfs os ns t.length o
  | [], o, _ => List.mem_singleton.mpr rfl
  | x :: t, o, h => by
    have h2 : Steps os ((o ++ [x]) ++ t) := by simpa using h
    have h3 : x ∈ mayS os o := by
      have := h o.length x (by simp)
      simpa using this
    exact List.mem_flatMap.mpr ⟨x, (mem_nxt f).mpr h3, List.mem_map.mpr ⟨t, dfs_mem f h2, rfl⟩⟩
end
/-! ### the way of a led room -/
theorem nxt_is {os : List Rl} {ns g m : List Str} (f : Few os ns) (hm : GS.IsLot m (mayS os g)) : m = nxt os ns g :=
  GS.Asc.uniq hm.asc (nxt_asc f) fun x => (hm.mem x).trans (mem_nxt f).symm
theorem cof_sum {os : List Rl} {ns g m : List Str} {z : Nat} (f : Few os ns) (sz : Size os z) (st : Steps os g) (hm : GS.IsLot m (mayS os g)) (ne : m ≠ []) : (m.map fun y => cof os ns z (bo ns (g ++ [y]))).sum = cof os ns z (bo ns g) := by
  have e := nxt_is f hm
  rw [cof_go sz f st (by rw [← e]; exact ne), List.map_map, e]
  rfl
/-- the way that a led room has gone -/
def pvs (s : LS) (n : Nat) : List LS := (List.range n).map fun i => { s with g := s.g.take i }
theorem pvs_len (s : LS) (n : Nat) : (pvs s n).length = n := by unfold pvs; rw [List.length_map, List.length_range]
theorem pvs_succ (s : LS) (n : Nat) : pvs s (n + 1) = pvs s n ++ [{ s with g := s.g.take n }] := by unfold pvs; rw [List.range_succ, List.map_append]; rfl
theorem Steps.takeN {os : List Rl} {g : List Str} (st : Steps os g) (n : Nat) : Steps os (g.take n) := st.take n
theorem LS.Ok.take {s : LS} (h : s.Ok) (n : Nat) : ({ s with g := s.g.take n } : LS).Ok := ⟨h.few, h.size, h.aft, h.st.takeN n, h.nok⟩
/-! ### no lambda stands in a led room -/
theorem xr_ofE {Z : Wd} {te : TE} {δ : List S} {Ψ : S → List S → Prop} (h : XE Z te δ fun d δ' => Ψ (.d d) δ') : XR Z te δ Ψ := XR.imp h fun s δ' p => by
  cases s with
  | d x => exact p
  | _ => exact False.elim p
theorem noX_room (os : List Rl) (ns : List Str) : GL.noX (roomF os ns) = true := by
  show (GL.noXL (os.map ruleO) && (GL.noXL (ns.map D.str) && true)) = true
  have h1 : GL.noXL (ns.map D.str) = true := GL.noXL_map fun _ _ => rfl
  have h2 : GL.noXL (os.map ruleO) = true := GL.noXL_map fun r _ => by
    have h3 : GL.noXL (r.2.map D.str) = true := GL.noXL_map fun _ _ => rfl
    show (true && (GL.noXL (r.2.map D.str) && true)) = true
    rw [h3]; rfl
  rw [h1, h2]; rfl
theorem noX_strs (l : List Str) : GL.noX (.tup (l.map .str)) = true := GL.noXL_map fun _ _ => rfl
theorem noX_cnt (s : LS) : GL.noX s.cnt = true := by
  show GL.noXL ((s.kvs.reverse.map (cE s.os s.ns s.z)).map (·.2)) = true
  rw [List.map_map]
  exact GL.noXL_map fun _ _ => rfl
theorem noX_d (s : LS) : GL.noX s.d = true := by
  show (GL.noX (roomF s.os s.ns) && (GL.noX s.cnt && (GL.noX (.tup (s.g.map .str)) && true))) = true
  rw [noX_room, noX_cnt, noX_strs]; rfl
theorem noX_led (prev : List LS) (s : LS) (m : List Str) : GL.noXL ((ledF (.tup (prev.map LS.d)) s m).map (·.2)) = true := by
  show (GL.noXL (prev.map LS.d) && (GL.noX (roomF s.os s.ns) && (GL.noX s.cnt && (GL.noX (.tup (s.g.map .str)) && (GL.noX (.tup (m.map .str)) && true))))) = true
  rw [GL.noXL_map fun s _ => noX_d s, noX_room, noX_cnt, noX_strs, noX_strs]; rfl
/-! ### a lambda that lets one leave, and tells how many orders are left -/
def F_lam : FB := fun y ds Φ => ∃ (prev : List LS) (s : LS) (m : List Str) (x : Str), y = ledY prev s m ∧ s.Ok ∧ prev.length ≤ 1000 ∧ ds = [.str x] ∧ x ∈ mayS s.os s.g ∧ ∀ m', GS.IsLot m' (mayS s.os (s.g ++ [x])) → Φ (.d (.int (cof s.os s.ns s.z (bo s.ns (s.g ++ [x]))))) (ledY (prev ++ [s]) (s.go [x]) m')
theorem ok_lam (T : Txt K mg a) (G_Led_leave : FnOk P w K mg base CX0 6 a.f_Led_leave a.fd_Led_leave ["self", "name"] (spB (ZZ K a) F_leave)) : GL.LamOk P w K mg base CX0 7 lS_lw_main_L1 (spB (ZZ K a) F_lam) := by
  refine GL.lam_ofB lp_lw_main_L1 (fun y ds Φ ⟨prev, s, m, x, _, _, _, e, _⟩ => by rw [e]; rfl) (fun A outer s H E f c' cs hr => ⟨_, (pe_ix (show IxR _ (rIx K) from ix_seq) (pe_tup (pa_cons (pe_meth (pv 0) T.cl_Led T.mt_Led_leave G_Led_leave (hr.mono (by decide)) T.b_Led_leave .nil pass0 (pa_cons (pv 1) pa_nil)) (pa_cons (pe_fldK (K := K) rfl (pv 0) rfl) pa_nil))) pe_int (fun _ _ => rfl)), fun y ds Φ h => ?_⟩)
  obtain ⟨prev, s, m, x, rfl, ok, lp, rfl, hx, fin⟩ := h
  refine xr_ofE <| xe_ix <| xe_tup <| xa_cons <| xr_methO (c := 2) rfl (fun _ => .nil) ⟨_, rfl, no_meth (m := "leave") (dd := .tup (prev.map LS.d)) (s := s) (k := m) (by decide +kernel)⟩ <| xa_cons <| xe_var rfl <| xa_nil ⟨_, rfl, prev, s, m, x, rfl, ok, lp, rfl, hx, fun m' hm' => on_d <| xa_cons <| xe_fldO (c := 2) T.cl_Led T.no_Led_left rfl rfl <| xa_nil ⟨by simp, xe_int ⟨_, _, rfl, rfl, _, rfl, fin m' hm'⟩⟩⟩
theorem eqv_refl_strs (l : List Str) : PyData.eqv (py (.tup (l.map .str))) (py (.tup (l.map .str))) = true := by rw [eqv_tup, decide_eq_true rfl]
/-! ### the law -/
theorem dfs_many (os : List Rl) (ns : List Str) : ∀ (k : Nat) (o : List Str), (dfs os ns k o).length ≤ ns.length ^ k
  | 0, _ => Nat.le_refl _
  | k + 1, o => by
    have h : ∀ xs : List Str, (xs.flatMap fun x => (dfs os ns k (o ++ [x])).map fun r => x :: r).length ≤ xs.length * ns.length ^ k := fun xs => by
      induction xs with
      | nil => simp
      | cons x xs ih =>
        rw [List.flatMap_cons, List.length_append, List.length_map, List.length_cons, Nat.succ_mul]
        have := dfs_many os ns k (o ++ [x])
        omega
    have n : (nxt os ns o).length ≤ ns.length := List.length_filter_le _ _
    show ((nxt os ns o).flatMap _).length ≤ _
    rw [Nat.pow_succ, Nat.mul_comm]
    exact Nat.le_trans (h _) (Nat.mul_le_mul_right _ n)
theorem size7 {os : List Rl} {ns : List Str} {z : Nat} (f : Few os ns) (h : Size os z) : z ≤ 7 := by
  obtain ⟨r, hr⟩ := (Steps.nil (rs := os)).more (us := ns) (fun r hr => f.m r hr _ (by simp)) ns.length (by omega)
  have e := (h.i ([] ++ r) hr.1).mpr hr.2
  have := f.len hr.1
  have := f.s
  omega
theorem joinT {Z : Wd} {tt : TT} {δ : List S} {Θ : Bool → List S → Prop} {α : Type} (okp : α → Bool → Prop) (st : α → List S) (f : (∀ c b, okp c b → Θ b (st c)) → XT Z tt δ Θ) (h : ∀ c b, okp c b → Θ b (st c)) : XT Z tt δ Θ := f h
theorem ord_dfs {os : List Rl} {ns : List Str} (f : Few os ns) {z : Nat} (size : Size os z) {o : List Str} (h : Ord os o) : o ∈ dfs os ns z [] := by
  have e := (size.i o h.1).mpr h.2
  have := dfs_mem f (t := o) (o := []) (by simpa using h.1)
  rwa [e] at this
theorem cut_to2 {α : Type} {xs : List α} {b : Nat} : cut xs none (some (b : Int)) = xs.take b := by rw [cut_to (by omega), Int.toNat_natCast]
/-- a lambda that lets one leave -/
def F_lamV : FB := fun y ds Φ => ∃ (prev : List LS) (s : LS) (m : List Str) (x : Str), y = ledY prev s m ∧ s.Ok ∧ prev.length ≤ 1000 ∧ ds = [.str x] ∧ x ∈ mayS s.os s.g ∧ ∀ m', GS.IsLot m' (mayS s.os (s.g ++ [x])) → Φ (.d .non) (ledY (prev ++ [s]) (s.go [x]) m')
theorem ok_lamV (T : Txt K mg a) (G_Led_leave : FnOk P w K mg base CX0 6 a.f_Led_leave a.fd_Led_leave ["self", "name"] (spB (ZZ K a) F_leave)) : GL.LamOk P w K mg base CX0 7 lS_lw_main_L0 (spB (ZZ K a) F_lamV) := by
  refine GL.lam_ofB lp_lw_main_L0 (fun y ds Φ ⟨prev, s, m, x, _, _, _, e, _⟩ => by rw [e]; rfl) (fun A outer s H E f c' cs hr => ⟨_, (pe_meth (pv 0) T.cl_Led T.mt_Led_leave G_Led_leave (hr.mono (by decide)) T.b_Led_leave .nil pass0 (pa_cons (pv 1) pa_nil)), fun y ds Φ h => ?_⟩)
  obtain ⟨prev, s, m, x, rfl, ok, lp, rfl, hx, fin⟩ := h
  refine xr_methO (c := 2) rfl (fun _ => .nil) ⟨_, rfl, no_meth (m := "leave") (dd := .tup (prev.map LS.d)) (s := s) (k := m) (by decide +kernel)⟩ <| xa_cons <| xe_var rfl <| xa_nil ⟨_, rfl, prev, s, m, x, rfl, ok, lp, rfl, hx, fun m' hm' => ⟨_, rfl, fin m' hm'⟩⟩
theorem ok_law (T : Txt K mg a) {cA PA : Addr} (hcA : a.fd_lw_main.code = .ref cA) (TBm : LamX.TabB base mg cA PA) (G_lw_box : FnOk P w K mg base CX0 1 a.f_lw_box a.fd_lw_box ["_law_script", "_law_k", "_law_own"] (spR (ZZ K a) F_box)) (G_lw_take : FnOk P w K mg base CX0 1 a.f_lw_take a.fd_lw_take ["_law_box_here", "_law_bound"] (spB (ZZ K a) F_take)) (G_lw_rules : FnOk P w K mg base CX0 4 a.f_lw_rules a.fd_lw_rules ["_law_box_here", "_law_most"] (spB (ZZ K a) F_rulesB)) (G_lw_made : FnOk P w K mg base CX0 5 a.f_lw_made a.fd_lw_made ["_law_rules_here"] (spR (ZZ K a) F_madeF))
    (G_Led_init : FnOk P w K mg base CX0 4 a.f_Led_init a.fd_Led_init ["self", "room"] (spB (ZZ K a) F_ledinit)) (G_Led_leave : FnOk P w K mg base CX0 6 a.f_Led_leave a.fd_Led_leave ["self", "name"] (spB (ZZ K a) F_leave)) (G_Led_several : FnOk P w K mg base CX0 5 a.f_Led_several a.fd_Led_several ["self", "names"] (spB (ZZ K a) F_several)) (G_Led_undo : FnOk P w K mg base CX0 4 a.f_Led_undo a.fd_Led_undo ["self"] (spB (ZZ K a) F_undo)) (G_Led_len : FnOk P w K mg base CX0 1 a.f_Led_len a.fd_Led_len ["self"] (spB (ZZ K a) F_ledlen))
    (G_Led_within_lw_main_L0 : FnOk P w K mg base CX0 8 a.f_Led_within a.fd_Led_within ["self", "work"] (spB (ZZ K a) (F_within 0 F_lamV))) (G_Led_within_lw_main_L1 : FnOk P w K mg base CX0 8 a.f_Led_within a.fd_Led_within ["self", "work"] (spB (ZZ K a) (F_within 1 F_lam)))
    (G_many : FnOk P w K mg base CX0 3 a.f_many a.fd_many ["room"] (spR (ZZ K a) F_many)) (G_may : FnOk P w K mg base CX0 2 a.f_may a.fd_may ["room", "gone"] (spR (ZZ K a) F_may)) (G_is_order : FnOk P w K mg base CX0 4 a.f_is_order a.fd_is_order ["room", "value"] (spR (ZZ K a) F_is_orderS)) (G_number_of : FnOk P w K mg base CX0 5 a.f_number_of a.fd_number_of ["room", "order"] (spR (ZZ K a) F_number_of)) (G_order_at : FnOk P w K mg base CX0 3 a.f_order_at a.fd_order_at ["room", "at"] (spR (ZZ K a) F_order_at)) :
    FnOk P w K mg base CX0 9 a.f_lw_main a.fd_lw_main ["_law_script"] (GL.spLawT (ZZ K a) [(PA, lS_lw_main_L0.q)]) := by
  have hmT : (PA, lS_lw_main_L0.q) ∈ [(PA, lS_lw_main_L0.q)] := List.mem_cons_self
  have huT : ∀ p ∈ [(PA, lS_lw_main_L0.q)], p.1 = PA → p.2 = lS_lw_main_L0.q := fun p hp _ => by rw [List.mem_singleton.mp hp]
  refine GL.fun_okC T.F_lw_main hcA sc_lw_main (fun vs H Q E h => ?_) (fun A outer s H vs Q E hr h => ?_)
  · obtain ⟨p, ns, rfl, _⟩ := h
    rfl
  · obtain ⟨p, scr, rfl, sq, hl, tb, ne, fin⟩ := h
    refine ⟨_, (pss_cons (ps_for PassesOwn.never rfl (pi_range1 (by rfl) T.n_range (pa_cons (pe_callB (call_max2 rfl) (by rfl) T.n_max (by decide +kernel) (pa_cons pe_int (pa_cons (pe_callB (call_min2 rfl) (by rfl) T.n_min (by decide +kernel) (pa_cons pe_int (pa_cons (pe_callB (show CallR _ (.builtin "len") (G.rLen K) from call_len) (by rfl) T.n_len PySem.boot_len (pa_cons (pv 0) pa_nil)) pa_nil))) pa_nil))) pa_nil)) (pg_name (i := 1) sc_lw_main.nd rfl (Or.inl rfl))
      (pss_cons (ps_set (i := 2) sc_lw_main.nd rfl (Or.inl rfl) (pe_call G_lw_box (hr.mono (by decide)) (by rfl) T.m_lw_box T.F_lw_box.kp T.b_lw_box .nil pass0 (pa_cons (pv 0) (pa_cons (pv 1) (pa_cons pe_int pa_nil)))))
      (pss_one (ps_for PassesOwn.never rfl (pi_range1 (by rfl) T.n_range (pa_cons pe_int pa_nil)) (pg_name (i := 3) sc_lw_main.nd rfl (Or.inl rfl))
      (pss_cons (ps_set (i := 4) sc_lw_main.nd rfl (Or.inl rfl) (pe_call G_lw_made (hr.mono (by decide)) (by rfl) T.m_lw_made T.F_lw_made.kp T.b_lw_made .nil pass0 (pa_cons (pe_call G_lw_rules (hr.mono (by decide)) (by rfl) T.m_lw_rules T.F_lw_rules.kp T.b_lw_rules .nil pass0 (pa_cons (pv 2) (pa_cons pe_int pa_nil))) pa_nil)))
      (pss_cons (ps_par (i := 5) (j := 6) (by rfl) sc_lw_main.nd rfl rfl (by decide) rfl rfl (pa_cons (pe_make T.mk_Led G_Led_init (hr.mono (by decide)) (by rfl) T.m_Led T.b_Led_init .nil pass0 (pa_cons (pv 4) pa_nil)) (pa_cons (pe_call G_order_at (hr.mono (by decide)) (by rfl) T.m_order_at T.F_order_at.kp T.b_order_at .nil pass0 (pa_cons (pv 4) (pa_cons (pe_call G_lw_take (hr.mono (by decide)) (by rfl) T.m_lw_take T.F_lw_take.kp T.b_lw_take .nil pass0 (pa_cons (pv 2) (pa_cons (pe_call G_many (hr.mono (by decide)) (by rfl) T.m_many T.F_many.kp T.b_many .nil pass0 (pa_cons (pv 4) pa_nil)) pa_nil))) pa_nil))) pa_nil)) (by rfl))
      (pss_cons (ps_for PassesOwn.never rfl (GE.pi_enumT (by rfl) T.n_enumerate (pa_cons (pv 6) pa_nil)) (pg_tup rfl (pgs_cons (pg_name (i := 7) sc_lw_main.nd rfl (Or.inl rfl)) (pgs_cons (pg_name (i := 8) sc_lw_main.nd rfl (Or.inl rfl)) pgs_nil)))
      (pss_cons (ps_if (PW.pt (pw_or (pt_cmpR (op_neD hr.units) (pe_fldK (K := K) rfl (pv 5) rfl) (pe_slice (show SlR _ (rSlA K) from sl_tupA) (pv 6) po_none (po_some (pv 7))) (nomark _)) (pw_or (pt_cmpR (op_neD hr.units) (pe_fldK (K := K) rfl (pv 5) rfl) (pe_call G_may (hr.mono (by decide)) (by rfl) T.m_may T.F_may.kp T.b_may .nil pass0 (pa_cons (pv 4) (pa_cons (pe_slice (show SlR _ (rSlA K) from sl_tupA) (pv 6) po_none (po_some (pv 7))) pa_nil))) (nomark _)) (pw_or1 (pt_cmpR op_ne (pe_callB (GX.call_ownLen G_Led_len (hr.mono (by decide)) ⟨T.mt_Led_len.1, T.mt_Led_len.2⟩ T.b_Led_len pass0) (by rfl) T.n_len PySem.boot_len (pa_cons (pv 5) pa_nil)) (pv 7) (nomark _)))))) (pss_one (ps_ret pe_bl)) pss_nil)
      (pss_cons (ps_set (i := 9) sc_lw_main.nd rfl (Or.inl rfl) pe_int)
      (pss_cons (ps_for PassesOwn.never rfl (pi_tupK (K := K) rfl (pe_fldK (K := K) rfl (pv 5) rfl)) (pg_name (i := 10) sc_lw_main.nd rfl (Or.inr rfl))
      (pss_cons (ps_if (pt_cmpR GS.op_notX (GL.pe_methC (E := L2.E0) (pv 5) T.cl_Led T.mt_Led_within G_Led_within_lw_main_L0 (hr.mono (by decide)) T.b_Led_within .nil (lc_lw_main_L0 _ rfl rfl rfl rfl) (pa_cons (GL.pe_lam (lh_lw_main_L0 _ rfl rfl) TBm rfl hmT huT rfl (by decide +kernel)) pa_nil)) pe_non (nomark _)) (pss_one (ps_ret pe_bl)) pss_nil)
      (pss_one (ps_set (i := 9) sc_lw_main.nd rfl (Or.inl rfl) (pe_op op_add (pv 9) (GL.pe_methC (E := L2.E0) (pv 5) T.cl_Led T.mt_Led_within G_Led_within_lw_main_L1 (hr.mono (by decide)) T.b_Led_within .nil (lc_lw_main_L1 _ rfl rfl rfl rfl) (pa_cons (GL.pe_lam (lh_lw_main_L1 _ rfl rfl) TBm rfl hmT huT rfl (by decide +kernel)) pa_nil)))))))
      (pss_cons (ps_if (PW.pt (pw_or (pt_cmpR op_ne (pv 9) (pe_fldK (K := K) rfl (pv 5) rfl) (nomark _)) (pw_or1 (PW.pt (pw_and (pt_cmpR op_eq (pv 7) pe_int (nomark _)) (pw_and1 (pt_cmpR op_ne (pe_fldK (K := K) rfl (pv 5) rfl) (pe_call G_many (hr.mono (by decide)) (by rfl) T.m_many T.F_many.kp T.b_many .nil pass0 (pa_cons (pv 4) pa_nil)) (nomark _)))))))) (pss_one (ps_ret pe_bl)) pss_nil)
      (pss_one (ps_expr (pe_meth (pv 5) T.cl_Led T.mt_Led_leave G_Led_leave (hr.mono (by decide)) T.b_Led_leave .nil pass0 (pa_cons (pv 8) pa_nil)))))))))
      (pss_cons (ps_if (PW.pt (pw_or (pt_cmpR op_ne (pe_fldK (K := K) rfl (pv 5) rfl) pe_int (nomark _)) (pw_or (pt_cmpR (op_neD hr.units) (pe_fldK (K := K) rfl (pv 5) rfl) (pe_tup pa_nil) (nomark _)) (pw_or1 (pt_not (pt_val (pe_call G_is_order (hr.mono (by decide)) (by rfl) T.m_is_order T.F_is_order.kp T.b_is_order .nil pass0 (pa_cons (pv 4) (pa_cons (pe_fldK (K := K) rfl (pv 5) rfl) pa_nil))))))))) (pss_one (ps_ret pe_bl)) pss_nil)
      (pss_cons (ps_for PassesOwn.never rfl (pi_range1 (by rfl) T.n_range (pa_cons (pe_callB (show CallR _ (.builtin "len") (G.rLen K) from call_len) (by rfl) T.n_len PySem.boot_len (pa_cons (pv 6) pa_nil)) pa_nil)) (pg_name (i := 7) sc_lw_main.nd rfl (Or.inl rfl))
      (pss_one (ps_if (PW.pt (pw_or (pt_cmpR GS.op_notB (pe_meth0 (pv 5) T.cl_Led T.mt_Led_undo G_Led_undo (hr.mono (by decide)) T.b_Led_undo .nil pass0) pe_bl (nomark _)) (pw_or1 (pt_cmpR (op_neD hr.units) (pe_fldK (K := K) rfl (pv 5) rfl) (pe_slice (show SlR _ (rSlA K) from sl_tupA) (pv 6) po_none (po_some (pe_op op_sub (pe_op op_sub (pe_callB (show CallR _ (.builtin "len") (G.rLen K) from call_len) (by rfl) T.n_len PySem.boot_len (pa_cons (pv 6) pa_nil)) (pv 7)) pe_int))) (nomark _))))) (pss_one (ps_ret pe_bl)) pss_nil)))
      (pss_cons (ps_if (PW.pt (pw_or (pt_cmpR GS.op_notB (pe_meth0 (pv 5) T.cl_Led T.mt_Led_undo G_Led_undo (hr.mono (by decide)) T.b_Led_undo .nil pass0) pe_bl (nomark _)) (pw_or (pt_cmpR GS.op_notX (pe_meth (pv 5) T.cl_Led T.mt_Led_several G_Led_several (hr.mono (by decide)) T.b_Led_several .nil pass0 (pa_cons (pv 6) pa_nil)) pe_non (nomark _)) (pw_or1 (pt_cmpR (op_neD hr.units) (pe_fldK (K := K) rfl (pv 5) rfl) (pv 6) (nomark _)))))) (pss_one (ps_ret pe_bl)) pss_nil)
      (pss_one (ps_if (PW.pt (pw_or (pt_cmpR op_ne (pe_callB (GX.call_ownLen G_Led_len (hr.mono (by decide)) ⟨T.mt_Led_len.1, T.mt_Led_len.2⟩ T.b_Led_len pass0) (by rfl) T.n_len PySem.boot_len (pa_cons (pv 5) pa_nil)) (pe_callTy call_int1 (by rfl) T.n_int (by decide +kernel) (pa_cons (pe_cmpR (op_neD hr.units) (pv 6) (pe_tup pa_nil) (nomark _)) pa_nil)) (nomark _)) (pw_or1 (pt_cmpR op_ne (pe_call G_number_of (hr.mono (by decide)) (by rfl) T.m_number_of T.F_number_of.kp T.b_number_of .nil pass0 (pa_cons (pv 4) (pa_cons (pe_fldK (K := K) rfl (pv 5) rfl) pa_nil))) (pe_call G_number_of (hr.mono (by decide)) (by rfl) T.m_number_of T.F_number_of.kp T.b_number_of .nil pass0 (pa_cons (pv 4) (pa_cons (pv 6) pa_nil))) (nomark _))))) (pss_one (ps_ret pe_bl)) pss_nil))))))))))))
      (pss_one (ps_ret pe_bl))), GL.entT (n := 11) sq tb ne rfl fin ?_⟩
    walk_at "ent"
    refine GL.xst_seq <| GL.xst_for (vs := [1]) (fun _ _ _ => trivial) (xi_rng1 ?_)
    walk_at "xs"
    refine ⟨fun i δ => ∃ s1 s2 s3 s4 s5 s6 s7 s8 s9 s10 : S, δ = [.d (.scr scr), s1, s2, s3, s4, s5, s6, s7, s8, s9, s10, .no], ⟨_, _, _, _, _, _, _, _, _, _, rfl⟩, ?_, ?_⟩
    · rintro i d δ1 hi ⟨s1, s2, s3, s4, s5, s6, s7, s8, s9, s10, rfl⟩
      obtain ⟨hi', rfl⟩ := rng_at hi
      have hi3 : i < 3 := by
        refine Nat.lt_of_lt_of_le hi' ?_
        split
        · split <;> omega
        · omega
      refine xg_name (by decide) (by decide) ?_
      try dsimp only [List.set]
      refine GL.xst_s (fun _ _ _ => trivial) <| xs_setO (by decide) <| xr_call (fun _ => .nil) <| xa_cons <| xe_var rfl <| xa_cons <| xe_var rfl <| xa_cons <| xe_int <| xa_nil ⟨scr, 0 + (i : Int), 66, rfl, by omega, by omega, by omega, by omega, fun y hy => on_o ⟨by simp, ?_⟩⟩
      try dsimp only [List.set]
      refine GL.xst_for (vs := [3]) (fun _ _ _ => trivial) <| xi_rng1 <| xe_int ⟨_, rfl, by omega, by omega, ?_⟩
      refine ⟨fun j δ => ∃ (y : OD) (s3 s4 s5 s6 s7 s8 s9 s10 : S), δ = [.d (.scr scr), .d (.int (0 + i)), .own y, s3, s4, s5, s6, s7, s8, s9, s10, .no] ∧ BoxD (5000 * j) y, ⟨y, _, _, _, _, _, _, _, _, rfl, hy.le (by omega)⟩, ?_, ?_⟩
      · rintro j d δ1 hj ⟨y, s3, s4, s5, s6, s7, s8, s9, s10, rfl, hy⟩
        obtain ⟨hj', rfl⟩ := rng_at hj
        have hj3 : j < 2 := by omega
        refine xg_name (by decide) (by decide) ?_
        try dsimp only [List.set]
        refine GL.xst_s (fun _ _ _ => trivial) <| xs_set (by decide) <| xr_call (fun _ => .nil) <| xa_cons <| xe_ofO <| xr_callB (fun _ => .nil) ⟨_, rfl⟩ <| xa_cons <| xe_int <| xa_nil ⟨y, rfl, 5000 * j, 4, rfl, by omega, by omega, by omega, by omega, hy, fun rs us y1 hus hlu hrs hl1 hy1 => on_o ⟨_, rfl, xa_nil ?_⟩⟩
        have rok : ∀ r ∈ rs, ROk r := fun r h => (hrs r h).ok
        refine ⟨rs, rfl, hl1, rok, fun os ns h0 h1 rk np hns => on_d ?_⟩
        try dsimp only [List.set]
        have c : Ctx rs os ns := .of hl1 rok h0 h1 rk np
        obtain ⟨few, ln⟩ := Few.of c hns hrs (by omega) (by omega)
        have nok : ∀ n ∈ ns, PyData.strOk n = true := fun n hn => (pool_ok n (np n hn)).2.2
        obtain ⟨z, sz⟩ : ∃ z, Size os z := Size.get (us := ns) fun r hr => few.m r hr _ (by simp)
        have z7 := size7 few sz
        have n7 := few.s
        have fl := few.l
        have f14 : ∀ r ∈ os, r.2.length ≤ 14 := fun r hr => (few.f r hr).1
        have f1k : ∀ r ∈ os, r.2.length ≤ 1000 := fun r hr => Nat.le_trans (f14 r hr) (by decide)
        have mb : (dfs os ns z []).length ≤ 823543 := Nat.le_trans (dfs_many os ns z []) (Nat.le_trans (Nat.pow_le_pow_left few.s _) (Nat.le_trans (Nat.pow_le_pow_right (by decide) z7) (by decide)))
        obtain ⟨q0, hq0⟩ := (Steps.nil (rs := os)).more (us := ns) (fun r hr => few.m r hr _ (by simp)) ns.length (by omega)
        rw [List.nil_append] at hq0
        have N0 : 0 < (dfs os ns z []).length := List.length_pos_of_mem (ord_dfs few sz hq0)
        refine GL.xst_s (fun _ _ _ => trivial) <| xs_parOD (by decide) (by decide) <| xo_make (c := 2) rfl (fun _ => .nil) <| xa_cons <| xe_var rfl <| xa_nil ⟨os, ns, z, rfl, rfl, few, sz, nok, fun kvs m0 ok0 hm0 => ⟨rfl, xr_call (fun _ => .nil) <| xa_cons <| xe_var rfl <| xa_cons <| xr_callB (fun _ => .nil) ⟨_, rfl⟩ <| xa_cons <| xr_call (fun _ => .nil) <| xa_cons <| xe_var rfl <| xa_nil ⟨os, ns, z, rfl, few, sz, on_d <| xa_nil ⟨_, rfl, _, 5000 * j + 4000, rfl, by omega, by omega, by omega, hy1, fun e y2 e0 e1 hy2 => on_d <| xa_nil ?_⟩⟩⟩⟩
        obtain ⟨n, rfl⟩ : ∃ n : Nat, e = n := ⟨e.toNat, by omega⟩
        have nlt : n < (dfs os ns z []).length := by omega
        obtain ⟨r, hr⟩ : ∃ r, (dfs os ns z [])[n]? = some r := ⟨_, List.getElem?_eq_getElem nlt⟩
        have rm := List.mem_of_getElem? hr
        have st : Steps os r := by simpa using dfs_steps few (o := []) .nil rm
        have rz : r.length = z := dfs_len rm
        have noM : ∀ x, x ∉ mayS os r := (sz.i r st).mp rz
        have gsub := few.sub st
        have gok : ∀ x ∈ r, PyData.strOk x = true := fun x hx => nok x (gsub x hx)
        have tok : ∀ k, ∀ x ∈ r.take k, PyData.strOk x = true := fun k x hx => gok x (List.mem_of_mem_take hx)
        refine ⟨os, ns, z, n, r, rfl, few, sz, hr, on_d ⟨by simp, ?_⟩⟩
        try dsimp only [List.set]
        have okg : ∀ {g : List Str}, Steps os g → (LS.mk os ns z kvs g).Ok := fun st => ⟨few, sz, ok0.aft, st, nok⟩
        have c0 : cof os ns z (bo ns []) = (dfs os ns z []).length := cof_is few .nil
        refine GL.xst_seq <| GL.xst_for (vs := [7, 8]) (fun _ _ _ => trivial) <| xi_enumT <| xe_var rfl ⟨_, rfl, ?_⟩
        refine ⟨fun t δ => ∃ (m : List Str) (s7 s8 s9 s10 : S), δ = [.d (.scr scr), .d (.int (0 + i)), .own y2, .d (.int (0 + j)), .d (roomF os ns), .own (ledY (pvs ⟨os, ns, z, kvs, r⟩ t) ⟨os, ns, z, kvs, r.take t⟩ m), .d (.tup (r.map .str)), s7, s8, s9, s10, .no] ∧ GS.IsLot m (mayS os (r.take t)), ⟨m0, _, _, _, _, rfl, hm0⟩, ?_, ?_⟩
        · rintro t dd δ2 ht ⟨m, s7, s8, s9, s10, rfl, hm⟩
          obtain ⟨xx, hx0, rfl⟩ := enumD_at ht
          obtain ⟨x, hx, rfl⟩ : ∃ x, r[t]? = some x ∧ D.str x = xx := by simpa using hx0
          clear hx0
          have tl := (List.getElem?_eq_some_iff.mp hx).1
          have tk : r.take (t + 1) = r.take t ++ [x] := GS.take_get hx
          have xm : x ∈ mayS os (r.take t) := st t x hx
          have stt := st.take t
          have msub : ∀ x ∈ m, x ∈ ns := fun x hx => by
            obtain ⟨_, ws, q, _⟩ := mem_may.mp ((hm.mem x).mp hx)
            exact few.m _ q x (by simp)
          have mok : ∀ x ∈ m, PyData.strOk x = true := fun x hx => nok x (msub x hx)
          have mne : m ≠ [] := fun e => by
            have := (hm.mem x).mpr xm
            rw [e] at this; cases this
          have pl : (pvs ⟨os, ns, z, kvs, r⟩ t).length ≤ 1000 := by rw [pvs_len]; omega
          refine xg_tup (by rfl) (xgs_cons (xg_name (by decide) (by decide) (xgs_cons (xg_name (by decide) (by decide) (xgs_nil ?_)))))
          try dsimp only [List.set]
          refine GL.xst_s (fun _ _ _ => trivial) <| xs_if <| xt_or <| xt_test <| xe_neD <| xe_fldO (c := 2) T.cl_Led T.no_Led_gone rfl rfl <| xe_slA <| xe_var rfl <| xp_no <| xp_part <| xe_var rfl ⟨_, rfl, _, rfl, ?_⟩
          rw [cut_to2, ← List.map_take]
          refine ⟨pla_strs _, pla_strs _, shp_tup (tok t), shp_tup (tok t), _, rfl, ?_⟩
          rw [show PyData.eqv (py (D.tup ((LS.mk os ns z kvs (r.take t)).g.map .str))) (py (D.tup ((r.take t).map .str))) = true from eqv_refl_strs _]
          refine if_nt <| xt_or <| xt_test <| xe_neD <| xe_fldO (c := 2) T.cl_Led T.no_Led_may rfl rfl <| xr_call (fun _ => .nil) <| xa_cons <| xe_var rfl <| xa_cons <| xe_slA <| xe_var rfl <| xp_no <| xp_part <| xe_var rfl ⟨_, rfl, _, rfl, ?_⟩
          rw [cut_to2, ← List.map_take]
          refine xa_nil ⟨os, _, _, r.take t, rfl, .inr rfl, by omega, f1k, fun ys hys => on_d ?_⟩
          obtain rfl : ys = m := GS.Asc.uniq hys.asc hm.asc fun x => (hys.mem x).trans (hm.mem x).symm
          refine ⟨pla_strs _, pla_strs _, shp_tup mok, shp_tup mok, _, rfl, ?_⟩
          rw [eqv_refl_strs]
          refine if_nt <| xt_test <| xe_ne <| xe_ownLenO (c := 2) rfl rfl ⟨pvs ⟨os, ns, z, kvs, r⟩ t, ⟨os, ns, z, kvs, r.take t⟩, ys, rfl, rfl, t, by rw [pvs_len], by omega, xe_var rfl ⟨_, _, rfl, rfl, rfl, _, rfl, ?_⟩⟩
          rw [decide_eq_true rfl]
          refine if_nt <| xs_next ?_
          try dsimp only [List.set]
          refine GL.xst_s (fun _ _ _ => trivial) <| xs_set (by decide) <| xe_int ?_
          try dsimp only [List.set]
          refine GL.xst_seq <| GL.xst_for (vs := [10]) (fun _ _ _ => trivial) <| xi_tup <| xe_fldO (c := 2) T.cl_Led T.no_Led_may rfl rfl ⟨_, rfl, ?_⟩
          refine ⟨fun u δ => ∃ (s10 : S), δ = [.d (.scr scr), .d (.int (0 + i)), .own y2, .d (.int (0 + j)), .d (roomF os ns), .own (ledY (pvs ⟨os, ns, z, kvs, r⟩ t) ⟨os, ns, z, kvs, r.take t⟩ ys), .d (.tup (r.map .str)), .d (.int t), .d (.str x), .d (.int (((ys.take u).map fun y => cof os ns z (bo ns (r.take t ++ [y]))).sum : Nat)), s10, .no], ⟨_, rfl⟩, ?_, ?_⟩
          · rintro u v δ3 hu ⟨s10, rfl⟩
            obtain ⟨o, ho, rfl⟩ : ∃ o, ys[u]? = some o ∧ D.str o = v := by rw [List.getElem?_map] at hu; exact Option.map_eq_some_iff.mp hu
            have uk : ys.take (u + 1) = ys.take u ++ [o] := GS.take_get ho
            have om := (hm.mem o).mp (List.mem_of_getElem? ho)
            refine xg_name (by decide) (by decide) ?_
            try dsimp only [List.set]
            refine GL.xst_seq <| GL.xst_if <| GL.xtt_test <| GL.xrt_notN <| GL.xrt_methLam (k := 0) (i := 5) (c := 2) (cds := [.str o]) rfl rfl rfl (no_meth (m := "within") (dd := .tup ((pvs ⟨os, ns, z, kvs, r⟩ t).map LS.d)) (s := ⟨os, ns, z, kvs, r.take t⟩) (k := ys) (by decide +kernel)) rfl (fun i j h => ?_) ⟨_, [.str o], rfl, rfl, noX_led _ _ _, rfl, rfl, pvs ⟨os, ns, z, kvs, r⟩ t, ⟨os, ns, z, kvs, r.take t⟩, ys, o, rfl, okg stt, pl, rfl, om, fun m' hm' => ⟨⟨_, rfl, rfl⟩, ⟨_, rfl⟩, rfl, noX_led _ _ _, ⟨_, rfl, if_ff <| GL.xst_next ?_⟩⟩⟩
            · cases i with
              | zero => cases h; exact ⟨_, rfl, rfl⟩
              | succ i => simp at h
            try dsimp only [List.set]
            refine GL.xst_set (by decide) <| GL.xrt_I0 rfl <| GL.xrt_methLam (k := 1) (i := 5) (c := 2) (cds := [.str o]) rfl rfl rfl (no_meth (m := "within") (dd := .tup ((pvs ⟨os, ns, z, kvs, r⟩ t).map LS.d)) (s := ⟨os, ns, z, kvs, r.take t⟩) (k := ys) (by decide +kernel)) rfl (fun i j h => ?_) ⟨_, [.str o], rfl, rfl, noX_led _ _ _, rfl, rfl, pvs ⟨os, ns, z, kvs, r⟩ t, ⟨os, ns, z, kvs, r.take t⟩, ys, o, rfl, okg stt, pl, rfl, om, fun m' hm' => ⟨⟨_, rfl, rfl⟩, ⟨_, rfl⟩, rfl, noX_led _ _ _, ⟨_, rfl, .d (.str o), ?_⟩⟩⟩
            · cases i with
              | zero => cases h; exact ⟨_, rfl, rfl⟩
              | succ i => simp at h
            rw [uk, List.map_append, List.sum_append]
            simp
            rfl
          · rintro δ3 ⟨s10, rfl⟩
            rw [List.length_map, List.take_length, cof_sum few sz stt hm mne]
            refine GL.XS.toT (fun _ _ _ => trivial) ?_
            refine xs_seq <| xs_if <| xt_or <| xt_test <| xe_ne <| xe_var rfl <| xe_fldO (c := 2) T.cl_Led T.no_Led_left rfl rfl ⟨_, _, rfl, rfl, rfl, _, rfl, ?_⟩
            rw [show decide (V.int (cof os ns z (bo ns (r.take t)) : Nat) = V.int (cof (LS.mk os ns z kvs (r.take t)).os (LS.mk os ns z kvs (r.take t)).ns (LS.mk os ns z kvs (r.take t)).z (bo (LS.mk os ns z kvs (r.take t)).ns (LS.mk os ns z kvs (r.take t)).g) : Nat)) = true from decide_eq_true rfl]
            refine if_nt <| joinT (α := Unit) (fun _ b => b = false) (fun _ => [.d (.scr scr), .d (.int (0 + i)), .own y2, .d (.int (0 + j)), .d (roomF os ns), .own (ledY (pvs ⟨os, ns, z, kvs, r⟩ t) ⟨os, ns, z, kvs, r.take t⟩ ys), .d (.tup (r.map .str)), .d (.int t), .d (.str x), .d (.int (cof os ns z (bo ns (r.take t)) : Nat)), s10, .no]) (fun go => ?_) ?_
            · refine xt_and <| xt_test <| xe_eq <| xe_var rfl <| xe_int ⟨_, _, rfl, rfl, rfl, _, rfl, ?_⟩
              refine ite_b (fun h => ?_) (fun h => go () _ rfl)
              have t0 : t = 0 := by
                have := of_decide_eq_true h
                have := V.int.inj this
                omega
              refine xt_test <| xe_ne <| xe_fldO (c := 2) T.cl_Led T.no_Led_left rfl rfl <| xr_call (fun _ => .nil) <| xa_cons <| xe_var rfl <| xa_nil ⟨os, ns, z, rfl, few, sz, on_d ⟨_, _, rfl, rfl, rfl, _, rfl, ?_⟩⟩
              refine go () _ ?_
              subst t0
              rw [show cof (LS.mk os ns z kvs (r.take 0)).os (LS.mk os ns z kvs (r.take 0)).ns (LS.mk os ns z kvs (r.take 0)).z (bo (LS.mk os ns z kvs (r.take 0)).ns (LS.mk os ns z kvs (r.take 0)).g) = _ from c0, decide_eq_true rfl]
              rfl
            rintro _ b rfl
            refine if_ff <| xs_next ?_
            refine xs_drop <| xr_methO (c := 2) rfl (fun _ => .nil) ⟨_, rfl, no_meth (m := "leave") (dd := .tup ((pvs ⟨os, ns, z, kvs, r⟩ t).map LS.d)) (s := ⟨os, ns, z, kvs, r.take t⟩) (k := ys) (by decide +kernel)⟩ <| xa_cons <| xe_var rfl <| xa_nil ⟨_, rfl, pvs ⟨os, ns, z, kvs, r⟩ t, ⟨os, ns, z, kvs, r.take t⟩, ys, x, rfl, okg stt, pl, rfl, xm, fun m' hm' => on_d ⟨m', .d (.int t), .d (.str x), .d (.int (cof os ns z (bo ns (r.take t)) : Nat)), s10, ?_, by rw [tk]; exact hm'⟩⟩
            rw [pvs_succ, tk]
            rfl
        · rintro δ2 ⟨m, s7, s8, s9, s10, rfl, hm⟩
          rw [enumD_len, List.length_map] at hm
          rw [enumD_len, List.length_map]
          rw [List.take_length] at hm
          rw [List.take_length]
          obtain rfl : m = [] := List.eq_nil_iff_forall_not_mem.mpr fun x hx => noM x ((hm.mem x).mp hx)
          have ce : cof os ns z (bo ns r) = 1 := cof_end sz few st (List.eq_nil_iff_forall_not_mem.mpr fun x hx => noM x ((mem_nxt few).mp hx))
          refine GL.XS.toT (fun _ _ _ => trivial) ?_
          refine xs_seq <| xs_if <| xt_or <| xt_test <| xe_ne <| xe_fldO (c := 2) T.cl_Led T.no_Led_left rfl rfl <| xe_int ⟨_, _, rfl, rfl, rfl, _, rfl, ?_⟩
          rw [show cof (LS.mk os ns z kvs r).os (LS.mk os ns z kvs r).ns (LS.mk os ns z kvs r).z (bo (LS.mk os ns z kvs r).ns (LS.mk os ns z kvs r).g) = 1 from ce, decide_eq_true (by rfl)]
          refine if_nt <| xt_or <| xt_test <| xe_neD <| xe_fldO (c := 2) T.cl_Led T.no_Led_may rfl rfl <| xe_tup <| xa_nil ⟨by simp, pla_strs _, rfl, shp_tup (ns := []) (by simp), shp_tup (ns := []) (by simp), _, rfl, ?_⟩
          rw [show PyData.eqv (py (D.tup (([] : List Str).map .str))) (py (.tup [])) = true from by decide +kernel]
          refine if_nt <| xt_not <| xt_test <| xr_call (fun _ => .nil) <| xa_cons <| xe_wkR <| xe_var rfl ⟨_, _, rfl, xa_cons <| xe_fldO (c := 2) T.cl_Led T.no_Led_gone rfl rfl <| xa_nil ⟨os, ns, r, _, rfl, .inr rfl, by omega, by omega, f14, ⟨st, noM⟩, on_d ⟨_, rfl, if_nt <| xs_next ?_⟩⟩⟩
          refine xs_seq <| xs_for (vs := [7]) <| xi_rng1 <| xe_len <| xe_var rfl ⟨r.length, by simp [lenD], _, rfl, by omega, by omega, ?_⟩
          refine ⟨fun t δ => ∃ (m' : List Str) (s7 s8 s9 s10 : S), δ = [.d (.scr scr), .d (.int (0 + i)), .own y2, .d (.int (0 + j)), .d (roomF os ns), .own (ledY (pvs ⟨os, ns, z, kvs, r⟩ (r.length - t)) ⟨os, ns, z, kvs, r.take (r.length - t)⟩ m'), .d (.tup (r.map .str)), s7, s8, s9, s10, .no] ∧ GS.IsLot m' (mayS os (r.take (r.length - t))), ⟨[], _, _, _, _, by rw [Nat.sub_zero, List.take_length], by rw [Nat.sub_zero, List.take_length]; exact hm⟩, ?_, ?_⟩
          · rintro t v δ3 ht ⟨m', s7, s8, s9, s10, rfl, hm'⟩
            obtain ⟨ht', rfl⟩ := rng_at ht
            have tl : t < r.length := by omega
            obtain ⟨k, hk⟩ : ∃ k, r.length - t = k + 1 := ⟨r.length - t - 1, by omega⟩
            have hk2 : r.length - (t + 1) = k := by omega
            refine xg_name (by decide) (by decide) ?_
            try dsimp only [List.set]
            refine xs_if <| xt_or <| xt_test <| xe_notB <| xr_methO (c := 2) rfl (fun _ => .nil) ⟨_, rfl, no_meth (m := "undo") (dd := .tup ((pvs ⟨os, ns, z, kvs, r⟩ (r.length - t)).map LS.d)) (s := ⟨os, ns, z, kvs, r.take (r.length - t)⟩) (k := m') (by decide +kernel)⟩ <| xa_nil ⟨_, rfl, pvs ⟨os, ns, z, kvs, r⟩ (r.length - t), ⟨os, ns, z, kvs, r.take (r.length - t)⟩, m', rfl, rfl, by rw [pvs_len]; omega, fun e => ?_, fun prev' t' e => ?_⟩
            · have := congrArg List.length e
              rw [pvs_len, hk] at this
              cases this
            rw [hk, pvs_succ] at e
            obtain ⟨e1, e2⟩ := List.append_inj' e rfl
            cases e2
            subst e1
            refine ⟨okg (st.take k), fun m2 hm2 => on_d <| xe_bl ⟨_, _, rfl, rfl, _, rfl, ?_⟩⟩
            rw [decide_eq_true rfl]
            refine if_nt <| xt_test <| xe_neD <| xe_fldO (c := 2) T.cl_Led T.no_Led_gone rfl rfl <| xe_slA <| xe_var rfl <| xp_no <| xp_part <| xe_I0 <| xe_I0 <| xe_len <| xe_var rfl ⟨r.length, by simp [lenD], xe_var rfl ⟨_, _, rfl, rfl, xe_int ⟨_, _, rfl, rfl, _, rfl, _, rfl, ?_⟩⟩⟩
            rw [show ((r.length : Nat) : Int) - (0 + (t : Int)) - 1 = (k : Nat) from by omega, cut_to2, ← List.map_take]
            refine ⟨pla_strs _, pla_strs _, shp_tup (tok k), shp_tup (tok k), _, rfl, ?_⟩
            rw [show PyData.eqv (py (D.tup ((LS.mk os ns z kvs (r.take k)).g.map .str))) (py (D.tup ((r.take k).map .str))) = true from eqv_refl_strs _]
            refine if_nt <| xs_next ⟨m2, .d (.int (0 + t)), s8, s9, s10, ?_, ?_⟩
            · rw [hk2]; rfl
            · rw [hk2]; exact hm2
          · rintro δ3 ⟨m', s7, s8, s9, s10, rfl, hm'⟩
            have e0 : r.length - (rng 0 ((r.length : Nat) : Int).toNat).length = 0 := by rw [rng_len]; omega
            rw [e0, List.take_zero] at hm'
            rw [e0, List.take_zero]
            have stf : Steps os ([] ++ r) := by simpa using st
            refine xs_seq <| xs_if <| xt_or <| xt_test <| xe_notB <| xr_methO (c := 2) rfl (fun _ => .nil) ⟨_, rfl, no_meth (m := "undo") (dd := .tup ((pvs ⟨os, ns, z, kvs, r⟩ 0).map LS.d)) (s := ⟨os, ns, z, kvs, []⟩) (k := m') (by decide +kernel)⟩ <| xa_nil ⟨_, rfl, pvs ⟨os, ns, z, kvs, r⟩ 0, ⟨os, ns, z, kvs, []⟩, m', rfl, rfl, by rw [pvs_len]; omega, fun _ => on_d <| xe_bl ⟨_, _, rfl, rfl, _, rfl, ?_⟩, fun prev' t' e => ?_⟩
            rotate_left
            · have := congrArg List.length e
              rw [pvs_len, List.length_append] at this
              simp at this
            rw [decide_eq_true rfl]
            refine if_nt <| xt_or <| xt_test <| xe_notN <| xr_methO (c := 2) rfl (fun _ => .nil) ⟨_, rfl, no_meth (m := "several") (dd := .tup ((pvs ⟨os, ns, z, kvs, r⟩ 0).map LS.d)) (s := ⟨os, ns, z, kvs, []⟩) (k := m') (by decide +kernel)⟩ <| xa_cons <| xe_var rfl <| xa_nil ⟨_, rfl, [], ⟨os, ns, z, kvs, []⟩, m', r, _, rfl, okg .nil, by simp, rfl, .inr rfl, stf, fun y' hy' => on_d ?_⟩
            obtain ⟨pr, m2, ey, el⟩ : ∃ (pr : List LS) (m2 : List Str), y' = ledY pr ⟨os, ns, z, kvs, r⟩ m2 ∧ pr.length = if r = [] then 0 else 1 := by
              rcases hy' with ⟨e, e'⟩ | ⟨e, m2, _, e'⟩
              · refine ⟨[], m', ?_, by rw [if_pos e]; rfl⟩
                rw [e', e]
              · exact ⟨[] ++ [⟨os, ns, z, kvs, []⟩], m2, e', by rw [if_neg e]; rfl⟩
            subst ey
            try dsimp only [List.set]
            rw [show (!G.isNon D.non) = false from rfl]
            refine ⟨_, rfl, if_ff <| xt_test <| xe_neD <| xe_fldO (c := 2) T.cl_Led T.no_Led_gone rfl rfl <| xe_var rfl ⟨pla_strs _, pla_strs _, shp_tup gok, shp_tup gok, _, rfl, ?_⟩⟩
            rw [show PyData.eqv (py (D.tup ((LS.mk os ns z kvs r).g.map .str))) (py (D.tup (r.map .str))) = true from eqv_refl_strs _]
            refine if_nt <| xs_next ?_
            refine xs_if <| xt_or <| xt_test <| xe_ne <| xe_ownLenO (c := 2) rfl rfl ⟨pr, ⟨os, ns, z, kvs, r⟩, m2, rfl, rfl, pr.length, rfl, by rw [el]; split <;> omega, xe_callIntB <| xe_neD <| xe_var rfl <| xe_tup <| xa_nil ⟨by simp, pla_strs _, rfl, shp_tup gok, shp_tup (ns := []) (by simp), _, rfl, _, _, rfl, rfl, rfl, _, rfl, ?_⟩⟩
            rw [show D.tup [] = D.tup (([] : List Str).map .str) from rfl, eqv_tup]
            have il : ((pr.length : Nat) : Int) = if (!decide (r = [])) = true then 1 else 0 := by
              rw [el]; by_cases h : r = [] <;> simp [h]
            rw [decide_eq_true (congrArg V.int il)]
            refine if_nt <| xt_test <| xe_ne <| xr_call (fun _ => .nil) <| xa_cons <| xe_var rfl <| xa_cons <| xe_fldO (c := 2) T.cl_Led T.no_Led_gone rfl rfl <| xa_nil ⟨os, ns, z, n, r, _, rfl, .inr rfl, few, sz, hr, on_d <| xr_call (fun _ => .nil) <| xa_cons <| xe_var rfl <| xa_cons <| xe_var rfl <| xa_nil ⟨os, ns, z, n, r, _, rfl, .inr rfl, few, sz, hr, on_d ⟨_, _, rfl, rfl, rfl, _, rfl, ?_⟩⟩⟩
            rw [decide_eq_true rfl]
            exact if_nt <| xs_next ⟨y2, _, _, _, _, _, _, _, _, rfl, hy2.le (by omega)⟩
      · rintro δ2 ⟨y, s3, s4, s5, s6, s7, s8, s9, s10, rfl, hy⟩
        exact ⟨_, _, _, _, _, _, _, _, _, _, rfl⟩
    · rintro δ1 ⟨s1, s2, s3, s4, s5, s6, s7, s8, s9, s10, rfl⟩
      refine GL.XS.toT (fun _ _ _ => trivial) ?_
      exact xs_ret <| xe_bl rfl
theorem ok_main (T : Txt K mg a) {cA PA : Addr} (hcA : a.fd_lw_main.code = .ref cA) (TBm : LamX.TabB base mg cA PA) : FnOk P w K mg base CX0 9 a.f_lw_main a.fd_lw_main ["_law_script"] (GL.spLawT (ZZ K a) [(PA, lS_lw_main_L0.q)]) := by
  have t := ok_take (P := P) (w := w) (base := base) T
  have m := ok_mixed T t
  have n := ok_names T m
  have i1 := ok_is_name (P := P) (w := w) (base := base) T
  have i2 := ok_is_sequence (P := P) (w := w) (base := base) T
  have i3 := ok_are_names T i1 i2
  have l2 := ok_lot_of (P := P) (w := w) (base := base) T
  have lF := ok_lot_ofF (P := P) (w := w) (base := base) T
  have ri := ok_Rule_init T i1 i3 l2
  have ro := ok_Room_initF T i2 lF
  have bo := ok_bits_of (P := P) (w := w) (base := base) T
  have la := ok_lots_after T bo
  have no := ok_names_of (P := P) (w := w) (base := base) T
  have os := ok_orders_on (P := P) (w := w) (base := base) T
  have ct := ok_counts T la os
  have ma := ok_may T (ok_is_fulfilled T) l2
  have sd := ok_stand T ma bo
  have ch := ok_change T sd
  have se := ok_several T ma ch
  have le := ok_leave T se
  have wa := ok_wrong_at T ma
  have ii := ok_is_index T (ok_is_int (P := P) (w := w) (base := base) T)
  have tr := ok_Led_trial T (ok_Trial_init (P := P) (w := w) (base := base) T)
  exact ok_law T hcA TBm (ok_box T) t (ok_rulesB T t m n) (ok_madeF T ri ro) (ok_ledinit T ct sd) le se (ok_undo T sd) (ok_ledlen T) (ok_within_lw_main_L0 T (ok_lamV T le) tr (ok_Trial_enter T) (ok_Trial_exit T)) (ok_within_lw_main_L1 T (ok_lam T le) tr (ok_Trial_enter T) (ok_Trial_exit T)) (ok_many T la os) ma (ok_is_orderS T i2 wa) (ok_number_of T la os (ok_check_order T i2 wa) bo) (ok_order_at T la os ii (ok_lot_at T) no)
end
theorem all_mk {l : PySem.W.OpenLaw} {w : World} {K : PySem.W.Frag} {h : Heap} {mg : Str → Option Value} {fa : Addr} (X : K.In h) (G : h.Ns mainGlobals mg) (hfa : mg "law" = some (.ref fa))
    {C_Trial : Addr}
    {C_Led : Addr}
    {C_Rule : Addr}
    {C_Room : Addr}
    {f_is_int : Addr} {od_is_int an_is_int : Option Addr} {sl_is_int : Array (Option Value)} {oc_is_int kV_is_int dc_is_int pm_is_int cd_is_int ct_is_int : Value}
    {f_is_index : Addr} {od_is_index an_is_index : Option Addr} {sl_is_index : Array (Option Value)} {oc_is_index kV_is_index dc_is_index pm_is_index cd_is_index ct_is_index : Value}
    {f_is_name : Addr} {od_is_name an_is_name : Option Addr} {sl_is_name : Array (Option Value)} {oc_is_name kV_is_name dc_is_name pm_is_name cd_is_name ct_is_name : Value}
    {f_is_sequence : Addr} {od_is_sequence an_is_sequence : Option Addr} {sl_is_sequence : Array (Option Value)} {oc_is_sequence kV_is_sequence dc_is_sequence pm_is_sequence cd_is_sequence ct_is_sequence : Value}
    {f_are_names : Addr} {od_are_names an_are_names : Option Addr} {sl_are_names : Array (Option Value)} {oc_are_names kV_are_names dc_are_names pm_are_names cd_are_names ct_are_names : Value}
    {f_lot_of : Addr} {od_lot_of an_lot_of : Option Addr} {sl_lot_of : Array (Option Value)} {oc_lot_of kV_lot_of dc_lot_of pm_lot_of cd_lot_of ct_lot_of : Value}
    {f_bits_of : Addr} {od_bits_of an_bits_of : Option Addr} {sl_bits_of : Array (Option Value)} {oc_bits_of kV_bits_of dc_bits_of pm_bits_of cd_bits_of ct_bits_of : Value}
    {f_names_of : Addr} {od_names_of an_names_of : Option Addr} {sl_names_of : Array (Option Value)} {oc_names_of kV_names_of dc_names_of pm_names_of cd_names_of ct_names_of : Value}
    {f_may : Addr} {od_may an_may : Option Addr} {sl_may : Array (Option Value)} {oc_may kV_may dc_may pm_may cd_may ct_may : Value}
    {f_is_fulfilled : Addr} {od_is_fulfilled an_is_fulfilled : Option Addr} {sl_is_fulfilled : Array (Option Value)} {oc_is_fulfilled kV_is_fulfilled dc_is_fulfilled pm_is_fulfilled cd_is_fulfilled ct_is_fulfilled : Value}
    {f_lots_after : Addr} {od_lots_after an_lots_after : Option Addr} {sl_lots_after : Array (Option Value)} {oc_lots_after kV_lots_after dc_lots_after pm_lots_after cd_lots_after ct_lots_after : Value}
    {f_is_order : Addr} {od_is_order an_is_order : Option Addr} {sl_is_order : Array (Option Value)} {oc_is_order kV_is_order dc_is_order pm_is_order cd_is_order ct_is_order : Value}
    {f_wrong_at : Addr} {od_wrong_at an_wrong_at : Option Addr} {sl_wrong_at : Array (Option Value)} {oc_wrong_at kV_wrong_at dc_wrong_at pm_wrong_at cd_wrong_at ct_wrong_at : Value}
    {f_check_order : Addr} {od_check_order an_check_order : Option Addr} {sl_check_order : Array (Option Value)} {oc_check_order kV_check_order dc_check_order pm_check_order cd_check_order ct_check_order : Value}
    {f_many : Addr} {od_many an_many : Option Addr} {sl_many : Array (Option Value)} {oc_many kV_many dc_many pm_many cd_many ct_many : Value}
    {f_orders_on : Addr} {od_orders_on an_orders_on : Option Addr} {sl_orders_on : Array (Option Value)} {oc_orders_on kV_orders_on dc_orders_on pm_orders_on cd_orders_on ct_orders_on : Value}
    {f_order_at : Addr} {od_order_at an_order_at : Option Addr} {sl_order_at : Array (Option Value)} {oc_order_at kV_order_at dc_order_at pm_order_at cd_order_at ct_order_at : Value}
    {f_lot_at : Addr} {od_lot_at an_lot_at : Option Addr} {sl_lot_at : Array (Option Value)} {oc_lot_at kV_lot_at dc_lot_at pm_lot_at cd_lot_at ct_lot_at : Value}
    {f_number_of : Addr} {od_number_of an_number_of : Option Addr} {sl_number_of : Array (Option Value)} {oc_number_of kV_number_of dc_number_of pm_number_of cd_number_of ct_number_of : Value}
    {f_Trial_init : Addr} {od_Trial_init an_Trial_init : Option Addr} {sl_Trial_init : Array (Option Value)} {oc_Trial_init kV_Trial_init dc_Trial_init pm_Trial_init cd_Trial_init ct_Trial_init : Value}
    {f_Trial_enter : Addr} {od_Trial_enter an_Trial_enter : Option Addr} {sl_Trial_enter : Array (Option Value)} {oc_Trial_enter kV_Trial_enter dc_Trial_enter pm_Trial_enter cd_Trial_enter ct_Trial_enter : Value}
    {f_Trial_exit : Addr} {od_Trial_exit an_Trial_exit : Option Addr} {sl_Trial_exit : Array (Option Value)} {oc_Trial_exit kV_Trial_exit dc_Trial_exit pm_Trial_exit cd_Trial_exit ct_Trial_exit : Value}
    {f_Led_init : Addr} {od_Led_init an_Led_init : Option Addr} {sl_Led_init : Array (Option Value)} {oc_Led_init kV_Led_init dc_Led_init pm_Led_init cd_Led_init ct_Led_init : Value}
    {f_Led_stand : Addr} {od_Led_stand an_Led_stand : Option Addr} {sl_Led_stand : Array (Option Value)} {oc_Led_stand kV_Led_stand dc_Led_stand pm_Led_stand cd_Led_stand ct_Led_stand : Value}
    {f_Led_change : Addr} {od_Led_change an_Led_change : Option Addr} {sl_Led_change : Array (Option Value)} {oc_Led_change kV_Led_change dc_Led_change pm_Led_change cd_Led_change ct_Led_change : Value}
    {f_Led_leave : Addr} {od_Led_leave an_Led_leave : Option Addr} {sl_Led_leave : Array (Option Value)} {oc_Led_leave kV_Led_leave dc_Led_leave pm_Led_leave cd_Led_leave ct_Led_leave : Value}
    {f_Led_several : Addr} {od_Led_several an_Led_several : Option Addr} {sl_Led_several : Array (Option Value)} {oc_Led_several kV_Led_several dc_Led_several pm_Led_several cd_Led_several ct_Led_several : Value}
    {f_Led_follow : Addr} {od_Led_follow an_Led_follow : Option Addr} {sl_Led_follow : Array (Option Value)} {oc_Led_follow kV_Led_follow dc_Led_follow pm_Led_follow cd_Led_follow ct_Led_follow : Value}
    {f_Led_undo : Addr} {od_Led_undo an_Led_undo : Option Addr} {sl_Led_undo : Array (Option Value)} {oc_Led_undo kV_Led_undo dc_Led_undo pm_Led_undo cd_Led_undo ct_Led_undo : Value}
    {f_Led_trial : Addr} {od_Led_trial an_Led_trial : Option Addr} {sl_Led_trial : Array (Option Value)} {oc_Led_trial kV_Led_trial dc_Led_trial pm_Led_trial cd_Led_trial ct_Led_trial : Value}
    {f_Led_within : Addr} {od_Led_within an_Led_within : Option Addr} {sl_Led_within : Array (Option Value)} {oc_Led_within kV_Led_within dc_Led_within pm_Led_within cd_Led_within ct_Led_within : Value}
    {f_Led_len : Addr} {od_Led_len an_Led_len : Option Addr} {sl_Led_len : Array (Option Value)} {oc_Led_len kV_Led_len dc_Led_len pm_Led_len cd_Led_len ct_Led_len : Value}
    {f_counts_in : Addr} {od_counts_in an_counts_in : Option Addr} {sl_counts_in : Array (Option Value)} {oc_counts_in kV_counts_in dc_counts_in pm_counts_in cd_counts_in ct_counts_in : Value}
    {f_Rule_init : Addr} {od_Rule_init an_Rule_init : Option Addr} {sl_Rule_init : Array (Option Value)} {oc_Rule_init kV_Rule_init dc_Rule_init pm_Rule_init cd_Rule_init ct_Rule_init : Value}
    {T_Rule_init e_Rule_init : Addr} {oT_Rule_init : Value} {dT_Rule_init dE_Rule_init : Option Addr} {nT_Rule_init nE_Rule_init : Nat} {sT_Rule_init sE_Rule_init : Array (Option Value)}
    {f_Rule_eq : Addr} {od_Rule_eq an_Rule_eq : Option Addr} {sl_Rule_eq : Array (Option Value)} {oc_Rule_eq kV_Rule_eq dc_Rule_eq pm_Rule_eq cd_Rule_eq ct_Rule_eq : Value}
    {f_Rule_str : Addr} {od_Rule_str an_Rule_str : Option Addr} {sl_Rule_str : Array (Option Value)} {oc_Rule_str kV_Rule_str dc_Rule_str pm_Rule_str cd_Rule_str ct_Rule_str : Value}
    {f_Room_init : Addr} {od_Room_init an_Room_init : Option Addr} {sl_Room_init : Array (Option Value)} {oc_Room_init kV_Room_init dc_Room_init pm_Room_init cd_Room_init ct_Room_init : Value}
    {T_Room_init e_Room_init : Addr} {oT_Room_init : Value} {dT_Room_init dE_Room_init : Option Addr} {nT_Room_init nE_Room_init : Nat} {sT_Room_init sE_Room_init : Array (Option Value)}
    {f_Room_without : Addr} {od_Room_without an_Room_without : Option Addr} {sl_Room_without : Array (Option Value)} {oc_Room_without kV_Room_without dc_Room_without pm_Room_without cd_Room_without ct_Room_without : Value}
    {f_Room_len : Addr} {od_Room_len an_Room_len : Option Addr} {sl_Room_len : Array (Option Value)} {oc_Room_len kV_Room_len dc_Room_len pm_Room_len cd_Room_len ct_Room_len : Value}
    {f_Room_getitem : Addr} {od_Room_getitem an_Room_getitem : Option Addr} {sl_Room_getitem : Array (Option Value)} {oc_Room_getitem kV_Room_getitem dc_Room_getitem pm_Room_getitem cd_Room_getitem ct_Room_getitem : Value}
    {f_Room_add : Addr} {od_Room_add an_Room_add : Option Addr} {sl_Room_add : Array (Option Value)} {oc_Room_add kV_Room_add dc_Room_add pm_Room_add cd_Room_add ct_Room_add : Value}
    {f_Room_eq : Addr} {od_Room_eq an_Room_eq : Option Addr} {sl_Room_eq : Array (Option Value)} {oc_Room_eq kV_Room_eq dc_Room_eq pm_Room_eq cd_Room_eq ct_Room_eq : Value}
    {f_Room_str : Addr} {od_Room_str an_Room_str : Option Addr} {sl_Room_str : Array (Option Value)} {oc_Room_str kV_Room_str dc_Room_str pm_Room_str cd_Room_str ct_Room_str : Value}
    {f_lw_box : Addr} {od_lw_box an_lw_box : Option Addr} {sl_lw_box : Array (Option Value)} {oc_lw_box kV_lw_box dc_lw_box pm_lw_box cd_lw_box ct_lw_box : Value}
    {f_lw_take : Addr} {od_lw_take an_lw_take : Option Addr} {sl_lw_take : Array (Option Value)} {oc_lw_take kV_lw_take dc_lw_take pm_lw_take cd_lw_take ct_lw_take : Value}
    {f_lw_mixed : Addr} {od_lw_mixed an_lw_mixed : Option Addr} {sl_lw_mixed : Array (Option Value)} {oc_lw_mixed kV_lw_mixed dc_lw_mixed pm_lw_mixed cd_lw_mixed ct_lw_mixed : Value}
    {f_lw_names : Addr} {od_lw_names an_lw_names : Option Addr} {sl_lw_names : Array (Option Value)} {oc_lw_names kV_lw_names dc_lw_names pm_lw_names cd_lw_names ct_lw_names : Value}
    {f_lw_rules : Addr} {od_lw_rules an_lw_rules : Option Addr} {sl_lw_rules : Array (Option Value)} {oc_lw_rules kV_lw_rules dc_lw_rules pm_lw_rules cd_lw_rules ct_lw_rules : Value}
    {f_lw_made : Addr} {od_lw_made an_lw_made : Option Addr} {sl_lw_made : Array (Option Value)} {oc_lw_made kV_lw_made dc_lw_made pm_lw_made cd_lw_made ct_lw_made : Value}
    {f_lw_main : Addr} {od_lw_main an_lw_main : Option Addr} {sl_lw_main : Array (Option Value)} {oc_lw_main kV_lw_main dc_lw_main pm_lw_main cd_lw_main ct_lw_main : Value}
    {tk_LETTERS : Tok}
    (aC_Trial : PySem.W.nsIn K mainGlobals "Trial" = some (some (.ref C_Trial)))
    (pg_Trial : PySem.W.plainGet K C_Trial Str.empty = true)
    (hd_Trial : PySem.W.hasDictIn K C_Trial = true)
    (po_Trial : PySem.W.plainOver K C_Trial = true)
    (sa_Trial : PySem.W.findIn K (.ref C_Trial) "__setattr__" = some (some (.builtin "object.__setattr__")))
    (mk_Trial : PySem.W.makesIn K C_Trial = true)
    (kc_Trial : PySem.W.keepIn K (.ref C_Trial) = true)
    (no_Trial_led : PySem.W.findIn K (.ref C_Trial) "led" = some none)
    (no_Trial_room : PySem.W.findIn K (.ref C_Trial) "room" = some none)
    (no_Trial_counts : PySem.W.findIn K (.ref C_Trial) "counts" = some none)
    (no_Trial_gone : PySem.W.findIn K (.ref C_Trial) "gone" = some none)
    (no_Trial_may : PySem.W.findIn K (.ref C_Trial) "may" = some none)
    (no_Trial_left : PySem.W.findIn K (.ref C_Trial) "left" = some none)
    (no_Trial_deeds : PySem.W.findIn K (.ref C_Trial) "deeds" = some none)
    (ha_Trial : PySem.W.findIn K (.ref C_Trial) "__class__" = some (some (.builtin "object.__class__")))
    (hn_Trial : PySem.W.specialIn K (.builtin "object.__class__") "__get__" = some (some (.builtin "getset_descriptor.__get__")))
    (htk_Trial : PySem.W.takesIn K (.builtin "object.__class__") = some true)
    (hm_Trial : PySem.W.mroIn K C_Trial (.type "object") = some true)
    (aC_Led : PySem.W.nsIn K mainGlobals "Led" = some (some (.ref C_Led)))
    (pg_Led : PySem.W.plainGet K C_Led Str.empty = true)
    (hd_Led : PySem.W.hasDictIn K C_Led = true)
    (po_Led : PySem.W.plainOver K C_Led = true)
    (sa_Led : PySem.W.findIn K (.ref C_Led) "__setattr__" = some (some (.builtin "object.__setattr__")))
    (mk_Led : PySem.W.makesIn K C_Led = true)
    (kc_Led : PySem.W.keepIn K (.ref C_Led) = true)
    (no_Led_deeds : PySem.W.findIn K (.ref C_Led) "deeds" = some none)
    (no_Led_room : PySem.W.findIn K (.ref C_Led) "room" = some none)
    (no_Led_counts : PySem.W.findIn K (.ref C_Led) "counts" = some none)
    (no_Led_gone : PySem.W.findIn K (.ref C_Led) "gone" = some none)
    (no_Led_may : PySem.W.findIn K (.ref C_Led) "may" = some none)
    (no_Led_left : PySem.W.findIn K (.ref C_Led) "left" = some none)
    (ha_Led : PySem.W.findIn K (.ref C_Led) "__class__" = some (some (.builtin "object.__class__")))
    (hn_Led : PySem.W.specialIn K (.builtin "object.__class__") "__get__" = some (some (.builtin "getset_descriptor.__get__")))
    (htk_Led : PySem.W.takesIn K (.builtin "object.__class__") = some true)
    (hm_Led : PySem.W.mroIn K C_Led (.type "object") = some true)
    (aC_Rule : PySem.W.nsIn K mainGlobals "Rule" = some (some (.ref C_Rule)))
    (pg_Rule : PySem.W.plainGet K C_Rule Str.empty = true)
    (hd_Rule : PySem.W.hasDictIn K C_Rule = true)
    (po_Rule : PySem.W.plainOver K C_Rule = true)
    (sa_Rule : PySem.W.findIn K (.ref C_Rule) "__setattr__" = some (some (.builtin "object.__setattr__")))
    (mk_Rule : PySem.W.makesIn K C_Rule = true)
    (kc_Rule : PySem.W.keepIn K (.ref C_Rule) = true)
    (no_Rule_name : PySem.W.findIn K (.ref C_Rule) "name" = some none)
    (no_Rule_gone : PySem.W.findIn K (.ref C_Rule) "gone" = some none)
    (ha_Rule : PySem.W.findIn K (.ref C_Rule) "__class__" = some (some (.builtin "object.__class__")))
    (hn_Rule : PySem.W.specialIn K (.builtin "object.__class__") "__get__" = some (some (.builtin "getset_descriptor.__get__")))
    (htk_Rule : PySem.W.takesIn K (.builtin "object.__class__") = some true)
    (hm_Rule : PySem.W.mroIn K C_Rule (.type "object") = some true)
    (nd_Rule : PySem.W.findIn K (.ref C_Rule) "__ne__" = some (some (.builtin "object.__ne__")))
    (sx_Rule : PySem.W.subIn K (.type "str") (.ref C_Rule) = some false)
    (aC_Room : PySem.W.nsIn K mainGlobals "Room" = some (some (.ref C_Room)))
    (pg_Room : PySem.W.plainGet K C_Room Str.empty = true)
    (hd_Room : PySem.W.hasDictIn K C_Room = true)
    (po_Room : PySem.W.plainOver K C_Room = true)
    (sa_Room : PySem.W.findIn K (.ref C_Room) "__setattr__" = some (some (.builtin "object.__setattr__")))
    (mk_Room : PySem.W.makesIn K C_Room = true)
    (kc_Room : PySem.W.keepIn K (.ref C_Room) = true)
    (no_Room_rules : PySem.W.findIn K (.ref C_Room) "rules" = some none)
    (no_Room_names : PySem.W.findIn K (.ref C_Room) "names" = some none)
    (ha_Room : PySem.W.findIn K (.ref C_Room) "__class__" = some (some (.builtin "object.__class__")))
    (hn_Room : PySem.W.specialIn K (.builtin "object.__class__") "__get__" = some (some (.builtin "getset_descriptor.__get__")))
    (htk_Room : PySem.W.takesIn K (.builtin "object.__class__") = some true)
    (hm_Room : PySem.W.mroIn K C_Room (.type "object") = some true)
    (sb_NoneType_Room : PySem.W.subIn K (.type "NoneType") (.ref C_Room) = some false)
    (sb_bool_Room : PySem.W.subIn K (.type "bool") (.ref C_Room) = some false)
    (sb_int_Room : PySem.W.subIn K (.type "int") (.ref C_Room) = some false)
    (sb_str_Room : PySem.W.subIn K (.type "str") (.ref C_Room) = some false)
    (sb_list_Room : PySem.W.subIn K (.type "list") (.ref C_Room) = some false)
    (sb_tuple_Room : PySem.W.subIn K (.type "tuple") (.ref C_Room) = some false)
    (so_Trial_Room : PySem.W.subIn K (.ref C_Trial) (.ref C_Room) = some false)
    (so_Trial_Trial : PySem.W.subIn K (.ref C_Trial) (.ref C_Trial) = some true)
    (so_Led_Room : PySem.W.subIn K (.ref C_Led) (.ref C_Room) = some false)
    (so_Led_Led : PySem.W.subIn K (.ref C_Led) (.ref C_Led) = some true)
    (so_Rule_Room : PySem.W.subIn K (.ref C_Rule) (.ref C_Room) = some false)
    (so_Room_Room : PySem.W.subIn K (.ref C_Room) (.ref C_Room) = some true)
    (sb_NoneType_Rule : PySem.W.subIn K (.type "NoneType") (.ref C_Rule) = some false)
    (sb_bool_Rule : PySem.W.subIn K (.type "bool") (.ref C_Rule) = some false)
    (sb_int_Rule : PySem.W.subIn K (.type "int") (.ref C_Rule) = some false)
    (sb_str_Rule : PySem.W.subIn K (.type "str") (.ref C_Rule) = some false)
    (sb_list_Rule : PySem.W.subIn K (.type "list") (.ref C_Rule) = some false)
    (sb_tuple_Rule : PySem.W.subIn K (.type "tuple") (.ref C_Rule) = some false)
    (so_Trial_Rule : PySem.W.subIn K (.ref C_Trial) (.ref C_Rule) = some false)
    (so_Led_Rule : PySem.W.subIn K (.ref C_Led) (.ref C_Rule) = some false)
    (so_Rule_Rule : PySem.W.subIn K (.ref C_Rule) (.ref C_Rule) = some true)
    (so_Room_Rule : PySem.W.subIn K (.ref C_Room) (.ref C_Rule) = some false)
    (iL_Room : PySem.W.isClsIn K C_Room = true)
    (tL_Room : PySem.W.typeIn K (.ref C_Room) = some (.type "type"))
    (iL_Rule : PySem.W.isClsIn K C_Rule = true)
    (tL_Rule : PySem.W.typeIn K (.ref C_Rule) = some (.type "type"))
    (a_is_int : PySem.W.nsIn K mainGlobals "is_int" = some (some (.ref f_is_int)))
    (l_is_int : K.lookup f_is_int = some ⟨oc_is_int, od_is_int, .func (PySem.W.fnOf "is_int" "is_int" (defArgs s_is_int) (defBody s_is_int) (defScope s_is_int) .none kV_is_int dc_is_int pm_is_int an_is_int cd_is_int ct_is_int), sl_is_int⟩)
    (c_is_int : PySem.W.codeIn K cd_is_int "is_int" = true)
    (k_is_int : PySem.W.keepIn K (.ref f_is_int) = true)
    (a_is_index : PySem.W.nsIn K mainGlobals "is_index" = some (some (.ref f_is_index)))
    (l_is_index : K.lookup f_is_index = some ⟨oc_is_index, od_is_index, .func (PySem.W.fnOf "is_index" "is_index" (defArgs s_is_index) (defBody s_is_index) (defScope s_is_index) .none kV_is_index dc_is_index pm_is_index an_is_index cd_is_index ct_is_index), sl_is_index⟩)
    (c_is_index : PySem.W.codeIn K cd_is_index "is_index" = true)
    (k_is_index : PySem.W.keepIn K (.ref f_is_index) = true)
    (a_is_name : PySem.W.nsIn K mainGlobals "is_name" = some (some (.ref f_is_name)))
    (l_is_name : K.lookup f_is_name = some ⟨oc_is_name, od_is_name, .func (PySem.W.fnOf "is_name" "is_name" (defArgs s_is_name) (defBody s_is_name) (defScope s_is_name) .none kV_is_name dc_is_name pm_is_name an_is_name cd_is_name ct_is_name), sl_is_name⟩)
    (c_is_name : PySem.W.codeIn K cd_is_name "is_name" = true)
    (k_is_name : PySem.W.keepIn K (.ref f_is_name) = true)
    (a_is_sequence : PySem.W.nsIn K mainGlobals "is_sequence" = some (some (.ref f_is_sequence)))
    (l_is_sequence : K.lookup f_is_sequence = some ⟨oc_is_sequence, od_is_sequence, .func (PySem.W.fnOf "is_sequence" "is_sequence" (defArgs s_is_sequence) (defBody s_is_sequence) (defScope s_is_sequence) .none kV_is_sequence dc_is_sequence pm_is_sequence an_is_sequence cd_is_sequence ct_is_sequence), sl_is_sequence⟩)
    (c_is_sequence : PySem.W.codeIn K cd_is_sequence "is_sequence" = true)
    (k_is_sequence : PySem.W.keepIn K (.ref f_is_sequence) = true)
    (a_are_names : PySem.W.nsIn K mainGlobals "are_names" = some (some (.ref f_are_names)))
    (l_are_names : K.lookup f_are_names = some ⟨oc_are_names, od_are_names, .func (PySem.W.fnOf "are_names" "are_names" (defArgs s_are_names) (defBody s_are_names) (defScope s_are_names) .none kV_are_names dc_are_names pm_are_names an_are_names cd_are_names ct_are_names), sl_are_names⟩)
    (c_are_names : PySem.W.codeIn K cd_are_names "are_names" = true)
    (k_are_names : PySem.W.keepIn K (.ref f_are_names) = true)
    (a_lot_of : PySem.W.nsIn K mainGlobals "lot_of" = some (some (.ref f_lot_of)))
    (l_lot_of : K.lookup f_lot_of = some ⟨oc_lot_of, od_lot_of, .func (PySem.W.fnOf "lot_of" "lot_of" (defArgs s_lot_of) (defBody s_lot_of) (defScope s_lot_of) .none kV_lot_of dc_lot_of pm_lot_of an_lot_of cd_lot_of ct_lot_of), sl_lot_of⟩)
    (c_lot_of : PySem.W.codeIn K cd_lot_of "lot_of" = true)
    (k_lot_of : PySem.W.keepIn K (.ref f_lot_of) = true)
    (a_bits_of : PySem.W.nsIn K mainGlobals "bits_of" = some (some (.ref f_bits_of)))
    (l_bits_of : K.lookup f_bits_of = some ⟨oc_bits_of, od_bits_of, .func (PySem.W.fnOf "bits_of" "bits_of" (defArgs s_bits_of) (defBody s_bits_of) (defScope s_bits_of) .none kV_bits_of dc_bits_of pm_bits_of an_bits_of cd_bits_of ct_bits_of), sl_bits_of⟩)
    (c_bits_of : PySem.W.codeIn K cd_bits_of "bits_of" = true)
    (k_bits_of : PySem.W.keepIn K (.ref f_bits_of) = true)
    (a_names_of : PySem.W.nsIn K mainGlobals "names_of" = some (some (.ref f_names_of)))
    (l_names_of : K.lookup f_names_of = some ⟨oc_names_of, od_names_of, .func (PySem.W.fnOf "names_of" "names_of" (defArgs s_names_of) (defBody s_names_of) (defScope s_names_of) .none kV_names_of dc_names_of pm_names_of an_names_of cd_names_of ct_names_of), sl_names_of⟩)
    (c_names_of : PySem.W.codeIn K cd_names_of "names_of" = true)
    (k_names_of : PySem.W.keepIn K (.ref f_names_of) = true)
    (a_may : PySem.W.nsIn K mainGlobals "may" = some (some (.ref f_may)))
    (l_may : K.lookup f_may = some ⟨oc_may, od_may, .func (PySem.W.fnOf "may" "may" (defArgs s_may) (defBody s_may) (defScope s_may) .none kV_may dc_may pm_may an_may cd_may ct_may), sl_may⟩)
    (c_may : PySem.W.codeIn K cd_may "may" = true)
    (k_may : PySem.W.keepIn K (.ref f_may) = true)
    (a_is_fulfilled : PySem.W.nsIn K mainGlobals "is_fulfilled" = some (some (.ref f_is_fulfilled)))
    (l_is_fulfilled : K.lookup f_is_fulfilled = some ⟨oc_is_fulfilled, od_is_fulfilled, .func (PySem.W.fnOf "is_fulfilled" "is_fulfilled" (defArgs s_is_fulfilled) (defBody s_is_fulfilled) (defScope s_is_fulfilled) .none kV_is_fulfilled dc_is_fulfilled pm_is_fulfilled an_is_fulfilled cd_is_fulfilled ct_is_fulfilled), sl_is_fulfilled⟩)
    (c_is_fulfilled : PySem.W.codeIn K cd_is_fulfilled "is_fulfilled" = true)
    (k_is_fulfilled : PySem.W.keepIn K (.ref f_is_fulfilled) = true)
    (a_lots_after : PySem.W.nsIn K mainGlobals "lots_after" = some (some (.ref f_lots_after)))
    (l_lots_after : K.lookup f_lots_after = some ⟨oc_lots_after, od_lots_after, .func (PySem.W.fnOf "lots_after" "lots_after" (defArgs s_lots_after) (defBody s_lots_after) (defScope s_lots_after) .none kV_lots_after dc_lots_after pm_lots_after an_lots_after cd_lots_after ct_lots_after), sl_lots_after⟩)
    (c_lots_after : PySem.W.codeIn K cd_lots_after "lots_after" = true)
    (k_lots_after : PySem.W.keepIn K (.ref f_lots_after) = true)
    (a_is_order : PySem.W.nsIn K mainGlobals "is_order" = some (some (.ref f_is_order)))
    (l_is_order : K.lookup f_is_order = some ⟨oc_is_order, od_is_order, .func (PySem.W.fnOf "is_order" "is_order" (defArgs s_is_order) (defBody s_is_order) (defScope s_is_order) .none kV_is_order dc_is_order pm_is_order an_is_order cd_is_order ct_is_order), sl_is_order⟩)
    (c_is_order : PySem.W.codeIn K cd_is_order "is_order" = true)
    (k_is_order : PySem.W.keepIn K (.ref f_is_order) = true)
    (a_wrong_at : PySem.W.nsIn K mainGlobals "wrong_at" = some (some (.ref f_wrong_at)))
    (l_wrong_at : K.lookup f_wrong_at = some ⟨oc_wrong_at, od_wrong_at, .func (PySem.W.fnOf "wrong_at" "wrong_at" (defArgs s_wrong_at) (defBody s_wrong_at) (defScope s_wrong_at) .none kV_wrong_at dc_wrong_at pm_wrong_at an_wrong_at cd_wrong_at ct_wrong_at), sl_wrong_at⟩)
    (c_wrong_at : PySem.W.codeIn K cd_wrong_at "wrong_at" = true)
    (k_wrong_at : PySem.W.keepIn K (.ref f_wrong_at) = true)
    (a_check_order : PySem.W.nsIn K mainGlobals "check_order" = some (some (.ref f_check_order)))
    (l_check_order : K.lookup f_check_order = some ⟨oc_check_order, od_check_order, .func (PySem.W.fnOf "check_order" "check_order" (defArgs s_check_order) (defBody s_check_order) (defScope s_check_order) .none kV_check_order dc_check_order pm_check_order an_check_order cd_check_order ct_check_order), sl_check_order⟩)
    (c_check_order : PySem.W.codeIn K cd_check_order "check_order" = true)
    (k_check_order : PySem.W.keepIn K (.ref f_check_order) = true)
    (a_many : PySem.W.nsIn K mainGlobals "many" = some (some (.ref f_many)))
    (l_many : K.lookup f_many = some ⟨oc_many, od_many, .func (PySem.W.fnOf "many" "many" (defArgs s_many) (defBody s_many) (defScope s_many) .none kV_many dc_many pm_many an_many cd_many ct_many), sl_many⟩)
    (c_many : PySem.W.codeIn K cd_many "many" = true)
    (k_many : PySem.W.keepIn K (.ref f_many) = true)
    (a_orders_on : PySem.W.nsIn K mainGlobals "orders_on" = some (some (.ref f_orders_on)))
    (l_orders_on : K.lookup f_orders_on = some ⟨oc_orders_on, od_orders_on, .func (PySem.W.fnOf "orders_on" "orders_on" (defArgs s_orders_on) (defBody s_orders_on) (defScope s_orders_on) .none kV_orders_on dc_orders_on pm_orders_on an_orders_on cd_orders_on ct_orders_on), sl_orders_on⟩)
    (c_orders_on : PySem.W.codeIn K cd_orders_on "orders_on" = true)
    (k_orders_on : PySem.W.keepIn K (.ref f_orders_on) = true)
    (a_order_at : PySem.W.nsIn K mainGlobals "order_at" = some (some (.ref f_order_at)))
    (l_order_at : K.lookup f_order_at = some ⟨oc_order_at, od_order_at, .func (PySem.W.fnOf "order_at" "order_at" (defArgs s_order_at) (defBody s_order_at) (defScope s_order_at) .none kV_order_at dc_order_at pm_order_at an_order_at cd_order_at ct_order_at), sl_order_at⟩)
    (c_order_at : PySem.W.codeIn K cd_order_at "order_at" = true)
    (k_order_at : PySem.W.keepIn K (.ref f_order_at) = true)
    (a_lot_at : PySem.W.nsIn K mainGlobals "lot_at" = some (some (.ref f_lot_at)))
    (l_lot_at : K.lookup f_lot_at = some ⟨oc_lot_at, od_lot_at, .func (PySem.W.fnOf "lot_at" "lot_at" (defArgs s_lot_at) (defBody s_lot_at) (defScope s_lot_at) .none kV_lot_at dc_lot_at pm_lot_at an_lot_at cd_lot_at ct_lot_at), sl_lot_at⟩)
    (c_lot_at : PySem.W.codeIn K cd_lot_at "lot_at" = true)
    (k_lot_at : PySem.W.keepIn K (.ref f_lot_at) = true)
    (a_number_of : PySem.W.nsIn K mainGlobals "number_of" = some (some (.ref f_number_of)))
    (l_number_of : K.lookup f_number_of = some ⟨oc_number_of, od_number_of, .func (PySem.W.fnOf "number_of" "number_of" (defArgs s_number_of) (defBody s_number_of) (defScope s_number_of) .none kV_number_of dc_number_of pm_number_of an_number_of cd_number_of ct_number_of), sl_number_of⟩)
    (c_number_of : PySem.W.codeIn K cd_number_of "number_of" = true)
    (k_number_of : PySem.W.keepIn K (.ref f_number_of) = true)
    (a_Trial_init : PySem.W.findIn K (.ref C_Trial) "__init__" = some (some (.ref f_Trial_init)))
    (i_Trial_init : PySem.W.isFn K (.ref f_Trial_init) = true)
    (l_Trial_init : K.lookup f_Trial_init = some ⟨oc_Trial_init, od_Trial_init, .func (PySem.W.fnOf "__init__" "Trial.__init__" (defArgs s_Trial_init) (defBody s_Trial_init) (defScope s_Trial_init) .none kV_Trial_init dc_Trial_init pm_Trial_init an_Trial_init cd_Trial_init ct_Trial_init), sl_Trial_init⟩)
    (c_Trial_init : PySem.W.codeIn K cd_Trial_init "Trial.__init__" = true)
    (k_Trial_init : PySem.W.keepIn K (.ref f_Trial_init) = true)
    (a_Trial_enter : PySem.W.findIn K (.ref C_Trial) "__enter__" = some (some (.ref f_Trial_enter)))
    (i_Trial_enter : PySem.W.isFn K (.ref f_Trial_enter) = true)
    (l_Trial_enter : K.lookup f_Trial_enter = some ⟨oc_Trial_enter, od_Trial_enter, .func (PySem.W.fnOf "__enter__" "Trial.__enter__" (defArgs s_Trial_enter) (defBody s_Trial_enter) (defScope s_Trial_enter) .none kV_Trial_enter dc_Trial_enter pm_Trial_enter an_Trial_enter cd_Trial_enter ct_Trial_enter), sl_Trial_enter⟩)
    (c_Trial_enter : PySem.W.codeIn K cd_Trial_enter "Trial.__enter__" = true)
    (k_Trial_enter : PySem.W.keepIn K (.ref f_Trial_enter) = true)
    (a_Trial_exit : PySem.W.findIn K (.ref C_Trial) "__exit__" = some (some (.ref f_Trial_exit)))
    (i_Trial_exit : PySem.W.isFn K (.ref f_Trial_exit) = true)
    (l_Trial_exit : K.lookup f_Trial_exit = some ⟨oc_Trial_exit, od_Trial_exit, .func (PySem.W.fnOf "__exit__" "Trial.__exit__" (defArgs s_Trial_exit) (defBody s_Trial_exit) (defScope s_Trial_exit) .none kV_Trial_exit dc_Trial_exit pm_Trial_exit an_Trial_exit cd_Trial_exit ct_Trial_exit), sl_Trial_exit⟩)
    (c_Trial_exit : PySem.W.codeIn K cd_Trial_exit "Trial.__exit__" = true)
    (k_Trial_exit : PySem.W.keepIn K (.ref f_Trial_exit) = true)
    (a_Led_init : PySem.W.findIn K (.ref C_Led) "__init__" = some (some (.ref f_Led_init)))
    (i_Led_init : PySem.W.isFn K (.ref f_Led_init) = true)
    (l_Led_init : K.lookup f_Led_init = some ⟨oc_Led_init, od_Led_init, .func (PySem.W.fnOf "__init__" "Led.__init__" (defArgs s_Led_init) (defBody s_Led_init) (defScope s_Led_init) .none kV_Led_init dc_Led_init pm_Led_init an_Led_init cd_Led_init ct_Led_init), sl_Led_init⟩)
    (c_Led_init : PySem.W.codeIn K cd_Led_init "Led.__init__" = true)
    (k_Led_init : PySem.W.keepIn K (.ref f_Led_init) = true)
    (a_Led_stand : PySem.W.findIn K (.ref C_Led) "stand" = some (some (.ref f_Led_stand)))
    (i_Led_stand : PySem.W.isFn K (.ref f_Led_stand) = true)
    (l_Led_stand : K.lookup f_Led_stand = some ⟨oc_Led_stand, od_Led_stand, .func (PySem.W.fnOf "stand" "Led.stand" (defArgs s_Led_stand) (defBody s_Led_stand) (defScope s_Led_stand) .none kV_Led_stand dc_Led_stand pm_Led_stand an_Led_stand cd_Led_stand ct_Led_stand), sl_Led_stand⟩)
    (c_Led_stand : PySem.W.codeIn K cd_Led_stand "Led.stand" = true)
    (k_Led_stand : PySem.W.keepIn K (.ref f_Led_stand) = true)
    (a_Led_change : PySem.W.findIn K (.ref C_Led) "change" = some (some (.ref f_Led_change)))
    (i_Led_change : PySem.W.isFn K (.ref f_Led_change) = true)
    (l_Led_change : K.lookup f_Led_change = some ⟨oc_Led_change, od_Led_change, .func (PySem.W.fnOf "change" "Led.change" (defArgs s_Led_change) (defBody s_Led_change) (defScope s_Led_change) .none kV_Led_change dc_Led_change pm_Led_change an_Led_change cd_Led_change ct_Led_change), sl_Led_change⟩)
    (c_Led_change : PySem.W.codeIn K cd_Led_change "Led.change" = true)
    (k_Led_change : PySem.W.keepIn K (.ref f_Led_change) = true)
    (a_Led_leave : PySem.W.findIn K (.ref C_Led) "leave" = some (some (.ref f_Led_leave)))
    (i_Led_leave : PySem.W.isFn K (.ref f_Led_leave) = true)
    (l_Led_leave : K.lookup f_Led_leave = some ⟨oc_Led_leave, od_Led_leave, .func (PySem.W.fnOf "leave" "Led.leave" (defArgs s_Led_leave) (defBody s_Led_leave) (defScope s_Led_leave) .none kV_Led_leave dc_Led_leave pm_Led_leave an_Led_leave cd_Led_leave ct_Led_leave), sl_Led_leave⟩)
    (c_Led_leave : PySem.W.codeIn K cd_Led_leave "Led.leave" = true)
    (k_Led_leave : PySem.W.keepIn K (.ref f_Led_leave) = true)
    (a_Led_several : PySem.W.findIn K (.ref C_Led) "several" = some (some (.ref f_Led_several)))
    (i_Led_several : PySem.W.isFn K (.ref f_Led_several) = true)
    (l_Led_several : K.lookup f_Led_several = some ⟨oc_Led_several, od_Led_several, .func (PySem.W.fnOf "several" "Led.several" (defArgs s_Led_several) (defBody s_Led_several) (defScope s_Led_several) .none kV_Led_several dc_Led_several pm_Led_several an_Led_several cd_Led_several ct_Led_several), sl_Led_several⟩)
    (c_Led_several : PySem.W.codeIn K cd_Led_several "Led.several" = true)
    (k_Led_several : PySem.W.keepIn K (.ref f_Led_several) = true)
    (a_Led_follow : PySem.W.findIn K (.ref C_Led) "follow" = some (some (.ref f_Led_follow)))
    (i_Led_follow : PySem.W.isFn K (.ref f_Led_follow) = true)
    (l_Led_follow : K.lookup f_Led_follow = some ⟨oc_Led_follow, od_Led_follow, .func (PySem.W.fnOf "follow" "Led.follow" (defArgs s_Led_follow) (defBody s_Led_follow) (defScope s_Led_follow) .none kV_Led_follow dc_Led_follow pm_Led_follow an_Led_follow cd_Led_follow ct_Led_follow), sl_Led_follow⟩)
    (c_Led_follow : PySem.W.codeIn K cd_Led_follow "Led.follow" = true)
    (k_Led_follow : PySem.W.keepIn K (.ref f_Led_follow) = true)
    (a_Led_undo : PySem.W.findIn K (.ref C_Led) "undo" = some (some (.ref f_Led_undo)))
    (i_Led_undo : PySem.W.isFn K (.ref f_Led_undo) = true)
    (l_Led_undo : K.lookup f_Led_undo = some ⟨oc_Led_undo, od_Led_undo, .func (PySem.W.fnOf "undo" "Led.undo" (defArgs s_Led_undo) (defBody s_Led_undo) (defScope s_Led_undo) .none kV_Led_undo dc_Led_undo pm_Led_undo an_Led_undo cd_Led_undo ct_Led_undo), sl_Led_undo⟩)
    (c_Led_undo : PySem.W.codeIn K cd_Led_undo "Led.undo" = true)
    (k_Led_undo : PySem.W.keepIn K (.ref f_Led_undo) = true)
    (a_Led_trial : PySem.W.findIn K (.ref C_Led) "trial" = some (some (.ref f_Led_trial)))
    (i_Led_trial : PySem.W.isFn K (.ref f_Led_trial) = true)
    (l_Led_trial : K.lookup f_Led_trial = some ⟨oc_Led_trial, od_Led_trial, .func (PySem.W.fnOf "trial" "Led.trial" (defArgs s_Led_trial) (defBody s_Led_trial) (defScope s_Led_trial) .none kV_Led_trial dc_Led_trial pm_Led_trial an_Led_trial cd_Led_trial ct_Led_trial), sl_Led_trial⟩)
    (c_Led_trial : PySem.W.codeIn K cd_Led_trial "Led.trial" = true)
    (k_Led_trial : PySem.W.keepIn K (.ref f_Led_trial) = true)
    (a_Led_within : PySem.W.findIn K (.ref C_Led) "within" = some (some (.ref f_Led_within)))
    (i_Led_within : PySem.W.isFn K (.ref f_Led_within) = true)
    (l_Led_within : K.lookup f_Led_within = some ⟨oc_Led_within, od_Led_within, .func (PySem.W.fnOf "within" "Led.within" (defArgs s_Led_within) (defBody s_Led_within) (defScope s_Led_within) .none kV_Led_within dc_Led_within pm_Led_within an_Led_within cd_Led_within ct_Led_within), sl_Led_within⟩)
    (c_Led_within : PySem.W.codeIn K cd_Led_within "Led.within" = true)
    (k_Led_within : PySem.W.keepIn K (.ref f_Led_within) = true)
    (a_Led_len : PySem.W.findIn K (.ref C_Led) "__len__" = some (some (.ref f_Led_len)))
    (i_Led_len : PySem.W.isFn K (.ref f_Led_len) = true)
    (l_Led_len : K.lookup f_Led_len = some ⟨oc_Led_len, od_Led_len, .func (PySem.W.fnOf "__len__" "Led.__len__" (defArgs s_Led_len) (defBody s_Led_len) (defScope s_Led_len) .none kV_Led_len dc_Led_len pm_Led_len an_Led_len cd_Led_len ct_Led_len), sl_Led_len⟩)
    (c_Led_len : PySem.W.codeIn K cd_Led_len "Led.__len__" = true)
    (k_Led_len : PySem.W.keepIn K (.ref f_Led_len) = true)
    (a_counts_in : PySem.W.nsIn K mainGlobals "counts_in" = some (some (.ref f_counts_in)))
    (l_counts_in : K.lookup f_counts_in = some ⟨oc_counts_in, od_counts_in, .func (PySem.W.fnOf "counts_in" "counts_in" (defArgs s_counts_in) (defBody s_counts_in) (defScope s_counts_in) .none kV_counts_in dc_counts_in pm_counts_in an_counts_in cd_counts_in ct_counts_in), sl_counts_in⟩)
    (c_counts_in : PySem.W.codeIn K cd_counts_in "counts_in" = true)
    (k_counts_in : PySem.W.keepIn K (.ref f_counts_in) = true)
    (a_Rule_init : PySem.W.findIn K (.ref C_Rule) "__init__" = some (some (.ref f_Rule_init)))
    (i_Rule_init : PySem.W.isFn K (.ref f_Rule_init) = true)
    (l_Rule_init : K.lookup f_Rule_init = some ⟨oc_Rule_init, od_Rule_init, .func (PySem.W.fnOf "__init__" "Rule.__init__" (defArgs s_Rule_init) (defBody s_Rule_init) (defScope s_Rule_init) (.ref T_Rule_init) kV_Rule_init dc_Rule_init pm_Rule_init an_Rule_init cd_Rule_init ct_Rule_init), sl_Rule_init⟩)
    (lT_Rule_init : K.lookup T_Rule_init = some ⟨oT_Rule_init, dT_Rule_init, .seq #[.ref e_Rule_init] nT_Rule_init, sT_Rule_init⟩)
    (lE_Rule_init : K.lookup e_Rule_init = some ⟨.type "tuple", dE_Rule_init, .seq #[] nE_Rule_init, sE_Rule_init⟩)
    (c_Rule_init : PySem.W.codeIn K cd_Rule_init "Rule.__init__" = true)
    (k_Rule_init : PySem.W.keepIn K (.ref f_Rule_init) = true)
    (a_Rule_eq : PySem.W.findIn K (.ref C_Rule) "__eq__" = some (some (.ref f_Rule_eq)))
    (i_Rule_eq : PySem.W.isFn K (.ref f_Rule_eq) = true)
    (l_Rule_eq : K.lookup f_Rule_eq = some ⟨oc_Rule_eq, od_Rule_eq, .func (PySem.W.fnOf "__eq__" "Rule.__eq__" (defArgs s_Rule_eq) (defBody s_Rule_eq) (defScope s_Rule_eq) .none kV_Rule_eq dc_Rule_eq pm_Rule_eq an_Rule_eq cd_Rule_eq ct_Rule_eq), sl_Rule_eq⟩)
    (c_Rule_eq : PySem.W.codeIn K cd_Rule_eq "Rule.__eq__" = true)
    (k_Rule_eq : PySem.W.keepIn K (.ref f_Rule_eq) = true)
    (a_Rule_str : PySem.W.findIn K (.ref C_Rule) "__str__" = some (some (.ref f_Rule_str)))
    (i_Rule_str : PySem.W.isFn K (.ref f_Rule_str) = true)
    (l_Rule_str : K.lookup f_Rule_str = some ⟨oc_Rule_str, od_Rule_str, .func (PySem.W.fnOf "__str__" "Rule.__str__" (defArgs s_Rule_str) (defBody s_Rule_str) (defScope s_Rule_str) .none kV_Rule_str dc_Rule_str pm_Rule_str an_Rule_str cd_Rule_str ct_Rule_str), sl_Rule_str⟩)
    (c_Rule_str : PySem.W.codeIn K cd_Rule_str "Rule.__str__" = true)
    (k_Rule_str : PySem.W.keepIn K (.ref f_Rule_str) = true)
    (a_Room_init : PySem.W.findIn K (.ref C_Room) "__init__" = some (some (.ref f_Room_init)))
    (i_Room_init : PySem.W.isFn K (.ref f_Room_init) = true)
    (l_Room_init : K.lookup f_Room_init = some ⟨oc_Room_init, od_Room_init, .func (PySem.W.fnOf "__init__" "Room.__init__" (defArgs s_Room_init) (defBody s_Room_init) (defScope s_Room_init) (.ref T_Room_init) kV_Room_init dc_Room_init pm_Room_init an_Room_init cd_Room_init ct_Room_init), sl_Room_init⟩)
    (lT_Room_init : K.lookup T_Room_init = some ⟨oT_Room_init, dT_Room_init, .seq #[.ref e_Room_init] nT_Room_init, sT_Room_init⟩)
    (lE_Room_init : K.lookup e_Room_init = some ⟨.type "tuple", dE_Room_init, .seq #[] nE_Room_init, sE_Room_init⟩)
    (c_Room_init : PySem.W.codeIn K cd_Room_init "Room.__init__" = true)
    (k_Room_init : PySem.W.keepIn K (.ref f_Room_init) = true)
    (a_Room_without : PySem.W.findIn K (.ref C_Room) "without" = some (some (.ref f_Room_without)))
    (i_Room_without : PySem.W.isFn K (.ref f_Room_without) = true)
    (l_Room_without : K.lookup f_Room_without = some ⟨oc_Room_without, od_Room_without, .func (PySem.W.fnOf "without" "Room.without" (defArgs s_Room_without) (defBody s_Room_without) (defScope s_Room_without) .none kV_Room_without dc_Room_without pm_Room_without an_Room_without cd_Room_without ct_Room_without), sl_Room_without⟩)
    (c_Room_without : PySem.W.codeIn K cd_Room_without "Room.without" = true)
    (k_Room_without : PySem.W.keepIn K (.ref f_Room_without) = true)
    (a_Room_len : PySem.W.findIn K (.ref C_Room) "__len__" = some (some (.ref f_Room_len)))
    (i_Room_len : PySem.W.isFn K (.ref f_Room_len) = true)
    (l_Room_len : K.lookup f_Room_len = some ⟨oc_Room_len, od_Room_len, .func (PySem.W.fnOf "__len__" "Room.__len__" (defArgs s_Room_len) (defBody s_Room_len) (defScope s_Room_len) .none kV_Room_len dc_Room_len pm_Room_len an_Room_len cd_Room_len ct_Room_len), sl_Room_len⟩)
    (c_Room_len : PySem.W.codeIn K cd_Room_len "Room.__len__" = true)
    (k_Room_len : PySem.W.keepIn K (.ref f_Room_len) = true)
    (a_Room_getitem : PySem.W.findIn K (.ref C_Room) "__getitem__" = some (some (.ref f_Room_getitem)))
    (i_Room_getitem : PySem.W.isFn K (.ref f_Room_getitem) = true)
    (l_Room_getitem : K.lookup f_Room_getitem = some ⟨oc_Room_getitem, od_Room_getitem, .func (PySem.W.fnOf "__getitem__" "Room.__getitem__" (defArgs s_Room_getitem) (defBody s_Room_getitem) (defScope s_Room_getitem) .none kV_Room_getitem dc_Room_getitem pm_Room_getitem an_Room_getitem cd_Room_getitem ct_Room_getitem), sl_Room_getitem⟩)
    (c_Room_getitem : PySem.W.codeIn K cd_Room_getitem "Room.__getitem__" = true)
    (k_Room_getitem : PySem.W.keepIn K (.ref f_Room_getitem) = true)
    (a_Room_add : PySem.W.findIn K (.ref C_Room) "__add__" = some (some (.ref f_Room_add)))
    (i_Room_add : PySem.W.isFn K (.ref f_Room_add) = true)
    (l_Room_add : K.lookup f_Room_add = some ⟨oc_Room_add, od_Room_add, .func (PySem.W.fnOf "__add__" "Room.__add__" (defArgs s_Room_add) (defBody s_Room_add) (defScope s_Room_add) .none kV_Room_add dc_Room_add pm_Room_add an_Room_add cd_Room_add ct_Room_add), sl_Room_add⟩)
    (c_Room_add : PySem.W.codeIn K cd_Room_add "Room.__add__" = true)
    (k_Room_add : PySem.W.keepIn K (.ref f_Room_add) = true)
    (a_Room_eq : PySem.W.findIn K (.ref C_Room) "__eq__" = some (some (.ref f_Room_eq)))
    (i_Room_eq : PySem.W.isFn K (.ref f_Room_eq) = true)
    (l_Room_eq : K.lookup f_Room_eq = some ⟨oc_Room_eq, od_Room_eq, .func (PySem.W.fnOf "__eq__" "Room.__eq__" (defArgs s_Room_eq) (defBody s_Room_eq) (defScope s_Room_eq) .none kV_Room_eq dc_Room_eq pm_Room_eq an_Room_eq cd_Room_eq ct_Room_eq), sl_Room_eq⟩)
    (c_Room_eq : PySem.W.codeIn K cd_Room_eq "Room.__eq__" = true)
    (k_Room_eq : PySem.W.keepIn K (.ref f_Room_eq) = true)
    (a_Room_str : PySem.W.findIn K (.ref C_Room) "__str__" = some (some (.ref f_Room_str)))
    (i_Room_str : PySem.W.isFn K (.ref f_Room_str) = true)
    (l_Room_str : K.lookup f_Room_str = some ⟨oc_Room_str, od_Room_str, .func (PySem.W.fnOf "__str__" "Room.__str__" (defArgs s_Room_str) (defBody s_Room_str) (defScope s_Room_str) .none kV_Room_str dc_Room_str pm_Room_str an_Room_str cd_Room_str ct_Room_str), sl_Room_str⟩)
    (c_Room_str : PySem.W.codeIn K cd_Room_str "Room.__str__" = true)
    (k_Room_str : PySem.W.keepIn K (.ref f_Room_str) = true)
    (a_lw_box : PySem.W.nsIn K mainGlobals "_law_box" = some (some (.ref f_lw_box)))
    (l_lw_box : K.lookup f_lw_box = some ⟨oc_lw_box, od_lw_box, .func (PySem.W.fnOf "_law_box" "_law_box" (defArgs s_lw_box) (defBody s_lw_box) (defScope s_lw_box) .none kV_lw_box dc_lw_box pm_lw_box an_lw_box cd_lw_box ct_lw_box), sl_lw_box⟩)
    (c_lw_box : PySem.W.codeIn K cd_lw_box "_law_box" = true)
    (k_lw_box : PySem.W.keepIn K (.ref f_lw_box) = true)
    (a_lw_take : PySem.W.nsIn K mainGlobals "_law_take" = some (some (.ref f_lw_take)))
    (l_lw_take : K.lookup f_lw_take = some ⟨oc_lw_take, od_lw_take, .func (PySem.W.fnOf "_law_take" "_law_take" (defArgs s_lw_take) (defBody s_lw_take) (defScope s_lw_take) .none kV_lw_take dc_lw_take pm_lw_take an_lw_take cd_lw_take ct_lw_take), sl_lw_take⟩)
    (c_lw_take : PySem.W.codeIn K cd_lw_take "_law_take" = true)
    (k_lw_take : PySem.W.keepIn K (.ref f_lw_take) = true)
    (a_lw_mixed : PySem.W.nsIn K mainGlobals "_law_mixed" = some (some (.ref f_lw_mixed)))
    (l_lw_mixed : K.lookup f_lw_mixed = some ⟨oc_lw_mixed, od_lw_mixed, .func (PySem.W.fnOf "_law_mixed" "_law_mixed" (defArgs s_lw_mixed) (defBody s_lw_mixed) (defScope s_lw_mixed) .none kV_lw_mixed dc_lw_mixed pm_lw_mixed an_lw_mixed cd_lw_mixed ct_lw_mixed), sl_lw_mixed⟩)
    (c_lw_mixed : PySem.W.codeIn K cd_lw_mixed "_law_mixed" = true)
    (k_lw_mixed : PySem.W.keepIn K (.ref f_lw_mixed) = true)
    (a_lw_names : PySem.W.nsIn K mainGlobals "_law_names" = some (some (.ref f_lw_names)))
    (l_lw_names : K.lookup f_lw_names = some ⟨oc_lw_names, od_lw_names, .func (PySem.W.fnOf "_law_names" "_law_names" (defArgs s_lw_names) (defBody s_lw_names) (defScope s_lw_names) .none kV_lw_names dc_lw_names pm_lw_names an_lw_names cd_lw_names ct_lw_names), sl_lw_names⟩)
    (c_lw_names : PySem.W.codeIn K cd_lw_names "_law_names" = true)
    (k_lw_names : PySem.W.keepIn K (.ref f_lw_names) = true)
    (a_lw_rules : PySem.W.nsIn K mainGlobals "_law_rules" = some (some (.ref f_lw_rules)))
    (l_lw_rules : K.lookup f_lw_rules = some ⟨oc_lw_rules, od_lw_rules, .func (PySem.W.fnOf "_law_rules" "_law_rules" (defArgs s_lw_rules) (defBody s_lw_rules) (defScope s_lw_rules) .none kV_lw_rules dc_lw_rules pm_lw_rules an_lw_rules cd_lw_rules ct_lw_rules), sl_lw_rules⟩)
    (c_lw_rules : PySem.W.codeIn K cd_lw_rules "_law_rules" = true)
    (k_lw_rules : PySem.W.keepIn K (.ref f_lw_rules) = true)
    (a_lw_made : PySem.W.nsIn K mainGlobals "_law_made" = some (some (.ref f_lw_made)))
    (l_lw_made : K.lookup f_lw_made = some ⟨oc_lw_made, od_lw_made, .func (PySem.W.fnOf "_law_made" "_law_made" (defArgs s_lw_made) (defBody s_lw_made) (defScope s_lw_made) .none kV_lw_made dc_lw_made pm_lw_made an_lw_made cd_lw_made ct_lw_made), sl_lw_made⟩)
    (c_lw_made : PySem.W.codeIn K cd_lw_made "_law_made" = true)
    (k_lw_made : PySem.W.keepIn K (.ref f_lw_made) = true)
    (a_lw_main : PySem.W.nsIn K mainGlobals "law" = some (some (.ref f_lw_main)))
    (l_lw_main : K.lookup f_lw_main = some ⟨oc_lw_main, od_lw_main, .func (PySem.W.fnOf "law" "law" (defArgs s_lw_main) (defBody s_lw_main) (defScope s_lw_main) .none kV_lw_main dc_lw_main pm_lw_main an_lw_main cd_lw_main ct_lw_main), sl_lw_main⟩)
    (c_lw_main : PySem.W.codeIn K cd_lw_main "law" = true)
    (k_lw_main : PySem.W.keepIn K (.ref f_lw_main) = true)
    (sn_Trial_Rule : PySem.W.subIn K (.ref C_Trial) (.ref C_Rule) = some false)
    (sn_Led_Rule : PySem.W.subIn K (.ref C_Led) (.ref C_Rule) = some false)
    (sn_Room_Rule : PySem.W.subIn K (.ref C_Room) (.ref C_Rule) = some false)
    (n_abs : PySem.W.nsIn K mainGlobals "abs" = some none)
    (n_all : PySem.W.nsIn K mainGlobals "all" = some none)
    (n_bool : PySem.W.nsIn K mainGlobals "bool" = some none)
    (n_enumerate : PySem.W.nsIn K mainGlobals "enumerate" = some none)
    (n_int : PySem.W.nsIn K mainGlobals "int" = some none)
    (n_isinstance : PySem.W.nsIn K mainGlobals "isinstance" = some none)
    (n_len : PySem.W.nsIn K mainGlobals "len" = some none)
    (n_list : PySem.W.nsIn K mainGlobals "list" = some none)
    (n_max : PySem.W.nsIn K mainGlobals "max" = some none)
    (n_min : PySem.W.nsIn K mainGlobals "min" = some none)
    (n_range : PySem.W.nsIn K mainGlobals "range" = some none)
    (n_reversed : PySem.W.nsIn K mainGlobals "reversed" = some none)
    (n_set : PySem.W.nsIn K mainGlobals "set" = some none)
    (n_sorted : PySem.W.nsIn K mainGlobals "sorted" = some none)
    (n_str : PySem.W.nsIn K mainGlobals "str" = some none)
    (n_sum : PySem.W.nsIn K mainGlobals "sum" = some none)
    (n_tuple : PySem.W.nsIn K mainGlobals "tuple" = some none)
    (m_LETTERS : PySem.W.nsIn K mainGlobals "LETTERS" = some (some (.str "abcdefghijklmnopqrstuvwxyz" tk_LETTERS)))
    : ∃ a : Ads, a.f_lw_main = fa ∧ Txt K mg a ∧ (∀ (s : Shared) (v : Value), BindsTo s a.fd_lw_main ⟨[v], []⟩ [("_law_script", v)]) ∧ a.fd_lw_main.code = cd_lw_main := by
  have e := hfa.symm.trans (PySem.W.mg_of X G a_lw_main)
  have e2 : f_lw_main = fa := by cases e; rfl
  refine ⟨⟨C_Trial, C_Led, C_Rule, C_Room, f_is_int, (PySem.W.fnOf "is_int" "is_int" (defArgs s_is_int) (defBody s_is_int) (defScope s_is_int) .none kV_is_int dc_is_int pm_is_int an_is_int cd_is_int ct_is_int), f_is_index, (PySem.W.fnOf "is_index" "is_index" (defArgs s_is_index) (defBody s_is_index) (defScope s_is_index) .none kV_is_index dc_is_index pm_is_index an_is_index cd_is_index ct_is_index), f_is_name, (PySem.W.fnOf "is_name" "is_name" (defArgs s_is_name) (defBody s_is_name) (defScope s_is_name) .none kV_is_name dc_is_name pm_is_name an_is_name cd_is_name ct_is_name), f_is_sequence, (PySem.W.fnOf "is_sequence" "is_sequence" (defArgs s_is_sequence) (defBody s_is_sequence) (defScope s_is_sequence) .none kV_is_sequence dc_is_sequence pm_is_sequence an_is_sequence cd_is_sequence ct_is_sequence), f_are_names, (PySem.W.fnOf "are_names" "are_names" (defArgs s_are_names) (defBody s_are_names) (defScope s_are_names) .none kV_are_names dc_are_names pm_are_names an_are_names cd_are_names ct_are_names), f_lot_of, (PySem.W.fnOf "lot_of" "lot_of" (defArgs s_lot_of) (defBody s_lot_of) (defScope s_lot_of) .none kV_lot_of dc_lot_of pm_lot_of an_lot_of cd_lot_of ct_lot_of), f_bits_of, (PySem.W.fnOf "bits_of" "bits_of" (defArgs s_bits_of) (defBody s_bits_of) (defScope s_bits_of) .none kV_bits_of dc_bits_of pm_bits_of an_bits_of cd_bits_of ct_bits_of), f_names_of, (PySem.W.fnOf "names_of" "names_of" (defArgs s_names_of) (defBody s_names_of) (defScope s_names_of) .none kV_names_of dc_names_of pm_names_of an_names_of cd_names_of ct_names_of), f_may, (PySem.W.fnOf "may" "may" (defArgs s_may) (defBody s_may) (defScope s_may) .none kV_may dc_may pm_may an_may cd_may ct_may), f_is_fulfilled, (PySem.W.fnOf "is_fulfilled" "is_fulfilled" (defArgs s_is_fulfilled) (defBody s_is_fulfilled) (defScope s_is_fulfilled) .none kV_is_fulfilled dc_is_fulfilled pm_is_fulfilled an_is_fulfilled cd_is_fulfilled ct_is_fulfilled), f_lots_after, (PySem.W.fnOf "lots_after" "lots_after" (defArgs s_lots_after) (defBody s_lots_after) (defScope s_lots_after) .none kV_lots_after dc_lots_after pm_lots_after an_lots_after cd_lots_after ct_lots_after), f_is_order, (PySem.W.fnOf "is_order" "is_order" (defArgs s_is_order) (defBody s_is_order) (defScope s_is_order) .none kV_is_order dc_is_order pm_is_order an_is_order cd_is_order ct_is_order), f_wrong_at, (PySem.W.fnOf "wrong_at" "wrong_at" (defArgs s_wrong_at) (defBody s_wrong_at) (defScope s_wrong_at) .none kV_wrong_at dc_wrong_at pm_wrong_at an_wrong_at cd_wrong_at ct_wrong_at), f_check_order, (PySem.W.fnOf "check_order" "check_order" (defArgs s_check_order) (defBody s_check_order) (defScope s_check_order) .none kV_check_order dc_check_order pm_check_order an_check_order cd_check_order ct_check_order), f_many, (PySem.W.fnOf "many" "many" (defArgs s_many) (defBody s_many) (defScope s_many) .none kV_many dc_many pm_many an_many cd_many ct_many), f_orders_on, (PySem.W.fnOf "orders_on" "orders_on" (defArgs s_orders_on) (defBody s_orders_on) (defScope s_orders_on) .none kV_orders_on dc_orders_on pm_orders_on an_orders_on cd_orders_on ct_orders_on), f_order_at, (PySem.W.fnOf "order_at" "order_at" (defArgs s_order_at) (defBody s_order_at) (defScope s_order_at) .none kV_order_at dc_order_at pm_order_at an_order_at cd_order_at ct_order_at), f_lot_at, (PySem.W.fnOf "lot_at" "lot_at" (defArgs s_lot_at) (defBody s_lot_at) (defScope s_lot_at) .none kV_lot_at dc_lot_at pm_lot_at an_lot_at cd_lot_at ct_lot_at), f_number_of, (PySem.W.fnOf "number_of" "number_of" (defArgs s_number_of) (defBody s_number_of) (defScope s_number_of) .none kV_number_of dc_number_of pm_number_of an_number_of cd_number_of ct_number_of), f_Trial_init, (PySem.W.fnOf "__init__" "Trial.__init__" (defArgs s_Trial_init) (defBody s_Trial_init) (defScope s_Trial_init) .none kV_Trial_init dc_Trial_init pm_Trial_init an_Trial_init cd_Trial_init ct_Trial_init), f_Trial_enter, (PySem.W.fnOf "__enter__" "Trial.__enter__" (defArgs s_Trial_enter) (defBody s_Trial_enter) (defScope s_Trial_enter) .none kV_Trial_enter dc_Trial_enter pm_Trial_enter an_Trial_enter cd_Trial_enter ct_Trial_enter), f_Trial_exit, (PySem.W.fnOf "__exit__" "Trial.__exit__" (defArgs s_Trial_exit) (defBody s_Trial_exit) (defScope s_Trial_exit) .none kV_Trial_exit dc_Trial_exit pm_Trial_exit an_Trial_exit cd_Trial_exit ct_Trial_exit), f_Led_init, (PySem.W.fnOf "__init__" "Led.__init__" (defArgs s_Led_init) (defBody s_Led_init) (defScope s_Led_init) .none kV_Led_init dc_Led_init pm_Led_init an_Led_init cd_Led_init ct_Led_init), f_Led_stand, (PySem.W.fnOf "stand" "Led.stand" (defArgs s_Led_stand) (defBody s_Led_stand) (defScope s_Led_stand) .none kV_Led_stand dc_Led_stand pm_Led_stand an_Led_stand cd_Led_stand ct_Led_stand), f_Led_change, (PySem.W.fnOf "change" "Led.change" (defArgs s_Led_change) (defBody s_Led_change) (defScope s_Led_change) .none kV_Led_change dc_Led_change pm_Led_change an_Led_change cd_Led_change ct_Led_change), f_Led_leave, (PySem.W.fnOf "leave" "Led.leave" (defArgs s_Led_leave) (defBody s_Led_leave) (defScope s_Led_leave) .none kV_Led_leave dc_Led_leave pm_Led_leave an_Led_leave cd_Led_leave ct_Led_leave), f_Led_several, (PySem.W.fnOf "several" "Led.several" (defArgs s_Led_several) (defBody s_Led_several) (defScope s_Led_several) .none kV_Led_several dc_Led_several pm_Led_several an_Led_several cd_Led_several ct_Led_several), f_Led_follow, (PySem.W.fnOf "follow" "Led.follow" (defArgs s_Led_follow) (defBody s_Led_follow) (defScope s_Led_follow) .none kV_Led_follow dc_Led_follow pm_Led_follow an_Led_follow cd_Led_follow ct_Led_follow), f_Led_undo, (PySem.W.fnOf "undo" "Led.undo" (defArgs s_Led_undo) (defBody s_Led_undo) (defScope s_Led_undo) .none kV_Led_undo dc_Led_undo pm_Led_undo an_Led_undo cd_Led_undo ct_Led_undo), f_Led_trial, (PySem.W.fnOf "trial" "Led.trial" (defArgs s_Led_trial) (defBody s_Led_trial) (defScope s_Led_trial) .none kV_Led_trial dc_Led_trial pm_Led_trial an_Led_trial cd_Led_trial ct_Led_trial), f_Led_within, (PySem.W.fnOf "within" "Led.within" (defArgs s_Led_within) (defBody s_Led_within) (defScope s_Led_within) .none kV_Led_within dc_Led_within pm_Led_within an_Led_within cd_Led_within ct_Led_within), f_Led_len, (PySem.W.fnOf "__len__" "Led.__len__" (defArgs s_Led_len) (defBody s_Led_len) (defScope s_Led_len) .none kV_Led_len dc_Led_len pm_Led_len an_Led_len cd_Led_len ct_Led_len), f_counts_in, (PySem.W.fnOf "counts_in" "counts_in" (defArgs s_counts_in) (defBody s_counts_in) (defScope s_counts_in) .none kV_counts_in dc_counts_in pm_counts_in an_counts_in cd_counts_in ct_counts_in), f_Rule_init, (PySem.W.fnOf "__init__" "Rule.__init__" (defArgs s_Rule_init) (defBody s_Rule_init) (defScope s_Rule_init) (.ref T_Rule_init) kV_Rule_init dc_Rule_init pm_Rule_init an_Rule_init cd_Rule_init ct_Rule_init), e_Rule_init, f_Rule_eq, (PySem.W.fnOf "__eq__" "Rule.__eq__" (defArgs s_Rule_eq) (defBody s_Rule_eq) (defScope s_Rule_eq) .none kV_Rule_eq dc_Rule_eq pm_Rule_eq an_Rule_eq cd_Rule_eq ct_Rule_eq), f_Rule_str, (PySem.W.fnOf "__str__" "Rule.__str__" (defArgs s_Rule_str) (defBody s_Rule_str) (defScope s_Rule_str) .none kV_Rule_str dc_Rule_str pm_Rule_str an_Rule_str cd_Rule_str ct_Rule_str), f_Room_init, (PySem.W.fnOf "__init__" "Room.__init__" (defArgs s_Room_init) (defBody s_Room_init) (defScope s_Room_init) (.ref T_Room_init) kV_Room_init dc_Room_init pm_Room_init an_Room_init cd_Room_init ct_Room_init), e_Room_init, f_Room_without, (PySem.W.fnOf "without" "Room.without" (defArgs s_Room_without) (defBody s_Room_without) (defScope s_Room_without) .none kV_Room_without dc_Room_without pm_Room_without an_Room_without cd_Room_without ct_Room_without), f_Room_len, (PySem.W.fnOf "__len__" "Room.__len__" (defArgs s_Room_len) (defBody s_Room_len) (defScope s_Room_len) .none kV_Room_len dc_Room_len pm_Room_len an_Room_len cd_Room_len ct_Room_len), f_Room_getitem, (PySem.W.fnOf "__getitem__" "Room.__getitem__" (defArgs s_Room_getitem) (defBody s_Room_getitem) (defScope s_Room_getitem) .none kV_Room_getitem dc_Room_getitem pm_Room_getitem an_Room_getitem cd_Room_getitem ct_Room_getitem), f_Room_add, (PySem.W.fnOf "__add__" "Room.__add__" (defArgs s_Room_add) (defBody s_Room_add) (defScope s_Room_add) .none kV_Room_add dc_Room_add pm_Room_add an_Room_add cd_Room_add ct_Room_add), f_Room_eq, (PySem.W.fnOf "__eq__" "Room.__eq__" (defArgs s_Room_eq) (defBody s_Room_eq) (defScope s_Room_eq) .none kV_Room_eq dc_Room_eq pm_Room_eq an_Room_eq cd_Room_eq ct_Room_eq), f_Room_str, (PySem.W.fnOf "__str__" "Room.__str__" (defArgs s_Room_str) (defBody s_Room_str) (defScope s_Room_str) .none kV_Room_str dc_Room_str pm_Room_str an_Room_str cd_Room_str ct_Room_str), f_lw_box, (PySem.W.fnOf "_law_box" "_law_box" (defArgs s_lw_box) (defBody s_lw_box) (defScope s_lw_box) .none kV_lw_box dc_lw_box pm_lw_box an_lw_box cd_lw_box ct_lw_box), f_lw_take, (PySem.W.fnOf "_law_take" "_law_take" (defArgs s_lw_take) (defBody s_lw_take) (defScope s_lw_take) .none kV_lw_take dc_lw_take pm_lw_take an_lw_take cd_lw_take ct_lw_take), f_lw_mixed, (PySem.W.fnOf "_law_mixed" "_law_mixed" (defArgs s_lw_mixed) (defBody s_lw_mixed) (defScope s_lw_mixed) .none kV_lw_mixed dc_lw_mixed pm_lw_mixed an_lw_mixed cd_lw_mixed ct_lw_mixed), f_lw_names, (PySem.W.fnOf "_law_names" "_law_names" (defArgs s_lw_names) (defBody s_lw_names) (defScope s_lw_names) .none kV_lw_names dc_lw_names pm_lw_names an_lw_names cd_lw_names ct_lw_names), f_lw_rules, (PySem.W.fnOf "_law_rules" "_law_rules" (defArgs s_lw_rules) (defBody s_lw_rules) (defScope s_lw_rules) .none kV_lw_rules dc_lw_rules pm_lw_rules an_lw_rules cd_lw_rules ct_lw_rules), f_lw_made, (PySem.W.fnOf "_law_made" "_law_made" (defArgs s_lw_made) (defBody s_lw_made) (defScope s_lw_made) .none kV_lw_made dc_lw_made pm_lw_made an_lw_made cd_lw_made ct_lw_made), f_lw_main, (PySem.W.fnOf "law" "law" (defArgs s_lw_main) (defBody s_lw_main) (defScope s_lw_main) .none kV_lw_main dc_lw_main pm_lw_main an_lw_main cd_lw_main ct_lw_main)⟩, e2, ?_, fun s v => .of_eq rfl, rfl⟩
  constructor
  · exact ⟨pg_Trial, hd_Trial, po_Trial, sa_Trial⟩
  · exact PySem.W.mg_of X G aC_Trial
  · exact ⟨mk_Trial, a_Trial_init, i_Trial_init, kc_Trial⟩
  · exact ⟨⟨pg_Trial, hd_Trial, po_Trial, sa_Trial⟩, ha_Trial, hn_Trial, htk_Trial, hm_Trial, by unfold PySem.W.kitOne; simp⟩
  · exact no_Trial_led
  · exact no_Trial_room
  · exact no_Trial_counts
  · exact no_Trial_gone
  · exact no_Trial_may
  · exact no_Trial_left
  · exact no_Trial_deeds
  · exact ⟨pg_Led, hd_Led, po_Led, sa_Led⟩
  · exact PySem.W.mg_of X G aC_Led
  · exact ⟨mk_Led, a_Led_init, i_Led_init, kc_Led⟩
  · exact ⟨⟨pg_Led, hd_Led, po_Led, sa_Led⟩, ha_Led, hn_Led, htk_Led, hm_Led, by unfold PySem.W.kitOne; simp⟩
  · exact no_Led_deeds
  · exact no_Led_room
  · exact no_Led_counts
  · exact no_Led_gone
  · exact no_Led_may
  · exact no_Led_left
  · exact ⟨pg_Rule, hd_Rule, po_Rule, sa_Rule⟩
  · exact PySem.W.mg_of X G aC_Rule
  · exact ⟨mk_Rule, a_Rule_init, i_Rule_init, kc_Rule⟩
  · exact ⟨⟨pg_Rule, hd_Rule, po_Rule, sa_Rule⟩, ha_Rule, hn_Rule, htk_Rule, hm_Rule, by unfold PySem.W.kitOne; simp⟩
  · exact no_Rule_name
  · exact no_Rule_gone
  · exact ⟨nd_Rule, hm_Rule⟩
  · unfold PySem.W.notFirst
    rw [sx_Rule]
    simp
  · unfold PySem.W.notFirst
    rw [sn_Trial_Rule]
    simp
  · unfold PySem.W.notFirst
    rw [sn_Led_Rule]
    simp
  · unfold PySem.W.notFirst
    rw [sn_Room_Rule]
    simp
  · exact ⟨pg_Room, hd_Room, po_Room, sa_Room⟩
  · exact PySem.W.mg_of X G aC_Room
  · exact ⟨mk_Room, a_Room_init, i_Room_init, kc_Room⟩
  · exact ⟨⟨pg_Room, hd_Room, po_Room, sa_Room⟩, ha_Room, hn_Room, htk_Room, hm_Room, by unfold PySem.W.kitOne; simp⟩
  · exact no_Room_rules
  · exact no_Room_names
  · intro n hn
    simp only [List.mem_cons, List.not_mem_nil, or_false] at hn
    rcases hn with rfl | rfl | rfl | rfl | rfl | rfl
    · exact GX.kit_tyref iL_Room tL_Room sb_NoneType_Room
    · exact GX.kit_tyref iL_Room tL_Room sb_bool_Room
    · exact GX.kit_tyref iL_Room tL_Room sb_int_Room
    · exact GX.kit_tyref iL_Room tL_Room sb_str_Room
    · exact GX.kit_tyref iL_Room tL_Room sb_list_Room
    · exact GX.kit_tyref iL_Room tL_Room sb_tuple_Room
  · exact GX.kit_ref iL_Room tL_Room so_Trial_Room so_Trial_Trial
  · exact GX.kit_ref iL_Room tL_Room so_Led_Room so_Led_Led
  · exact GX.kit_ref iL_Room tL_Room so_Rule_Room so_Rule_Rule
  · exact GX.kit_ref iL_Room tL_Room so_Room_Room so_Room_Room
  · intro n hn
    simp only [List.mem_cons, List.not_mem_nil, or_false] at hn
    rcases hn with rfl | rfl | rfl | rfl | rfl | rfl
    · exact GX.kit_tyref iL_Rule tL_Rule sb_NoneType_Rule
    · exact GX.kit_tyref iL_Rule tL_Rule sb_bool_Rule
    · exact GX.kit_tyref iL_Rule tL_Rule sb_int_Rule
    · exact GX.kit_tyref iL_Rule tL_Rule sb_str_Rule
    · exact GX.kit_tyref iL_Rule tL_Rule sb_list_Rule
    · exact GX.kit_tyref iL_Rule tL_Rule sb_tuple_Rule
  · exact GX.kit_ref iL_Rule tL_Rule so_Trial_Rule so_Trial_Trial
  · exact GX.kit_ref iL_Rule tL_Rule so_Led_Rule so_Led_Led
  · exact GX.kit_ref iL_Rule tL_Rule so_Rule_Rule so_Rule_Rule
  · exact GX.kit_ref iL_Rule tL_Rule so_Room_Rule so_Room_Room
  · exact fun_mk (st := s_is_int) l_is_int c_is_int k_is_int
  · exact (fun_mk (st := s_is_int) l_is_int c_is_int k_is_int).binds (ps := ["value"]) fun _ _ _ _ _ _ us hl => match us, hl with | [_], _ => rfl
  · exact PySem.W.mg_of X G a_is_int
  · exact fun_mk (st := s_is_index) l_is_index c_is_index k_is_index
  · exact (fun_mk (st := s_is_index) l_is_index c_is_index k_is_index).binds (ps := ["value", "many"]) fun _ _ _ _ _ _ us hl => match us, hl with | [_, _], _ => rfl
  · exact PySem.W.mg_of X G a_is_index
  · exact fun_mk (st := s_is_name) l_is_name c_is_name k_is_name
  · exact (fun_mk (st := s_is_name) l_is_name c_is_name k_is_name).binds (ps := ["value"]) fun _ _ _ _ _ _ us hl => match us, hl with | [_], _ => rfl
  · exact PySem.W.mg_of X G a_is_name
  · exact fun_mk (st := s_is_sequence) l_is_sequence c_is_sequence k_is_sequence
  · exact (fun_mk (st := s_is_sequence) l_is_sequence c_is_sequence k_is_sequence).binds (ps := ["value"]) fun _ _ _ _ _ _ us hl => match us, hl with | [_], _ => rfl
  · exact PySem.W.mg_of X G a_is_sequence
  · exact fun_mk (st := s_are_names) l_are_names c_are_names k_are_names
  · exact (fun_mk (st := s_are_names) l_are_names c_are_names k_are_names).binds (ps := ["value"]) fun _ _ _ _ _ _ us hl => match us, hl with | [_], _ => rfl
  · exact PySem.W.mg_of X G a_are_names
  · exact fun_mk (st := s_lot_of) l_lot_of c_lot_of k_lot_of
  · exact (fun_mk (st := s_lot_of) l_lot_of c_lot_of k_lot_of).binds (ps := ["names"]) fun _ _ _ _ _ _ us hl => match us, hl with | [_], _ => rfl
  · exact PySem.W.mg_of X G a_lot_of
  · exact fun_mk (st := s_bits_of) l_bits_of c_bits_of k_bits_of
  · exact (fun_mk (st := s_bits_of) l_bits_of c_bits_of k_bits_of).binds (ps := ["names", "some"]) fun _ _ _ _ _ _ us hl => match us, hl with | [_, _], _ => rfl
  · exact PySem.W.mg_of X G a_bits_of
  · exact fun_mk (st := s_names_of) l_names_of c_names_of k_names_of
  · exact (fun_mk (st := s_names_of) l_names_of c_names_of k_names_of).binds (ps := ["names", "bits"]) fun _ _ _ _ _ _ us hl => match us, hl with | [_, _], _ => rfl
  · exact PySem.W.mg_of X G a_names_of
  · exact fun_mk (st := s_may) l_may c_may k_may
  · exact (fun_mk (st := s_may) l_may c_may k_may).binds (ps := ["room", "gone"]) fun _ _ _ _ _ _ us hl => match us, hl with | [_, _], _ => rfl
  · exact PySem.W.mg_of X G a_may
  · exact fun_mk (st := s_is_fulfilled) l_is_fulfilled c_is_fulfilled k_is_fulfilled
  · exact (fun_mk (st := s_is_fulfilled) l_is_fulfilled c_is_fulfilled k_is_fulfilled).binds (ps := ["rule", "gone"]) fun _ _ _ _ _ _ us hl => match us, hl with | [_, _], _ => rfl
  · exact PySem.W.mg_of X G a_is_fulfilled
  · exact fun_mk (st := s_lots_after) l_lots_after c_lots_after k_lots_after
  · exact (fun_mk (st := s_lots_after) l_lots_after c_lots_after k_lots_after).binds (ps := ["room"]) fun _ _ _ _ _ _ us hl => match us, hl with | [_], _ => rfl
  · exact PySem.W.mg_of X G a_lots_after
  · exact fun_mk (st := s_is_order) l_is_order c_is_order k_is_order
  · exact (fun_mk (st := s_is_order) l_is_order c_is_order k_is_order).binds (ps := ["room", "value"]) fun _ _ _ _ _ _ us hl => match us, hl with | [_, _], _ => rfl
  · exact PySem.W.mg_of X G a_is_order
  · exact fun_mk (st := s_wrong_at) l_wrong_at c_wrong_at k_wrong_at
  · exact (fun_mk (st := s_wrong_at) l_wrong_at c_wrong_at k_wrong_at).binds (ps := ["room", "order"]) fun _ _ _ _ _ _ us hl => match us, hl with | [_, _], _ => rfl
  · exact PySem.W.mg_of X G a_wrong_at
  · exact fun_mk (st := s_check_order) l_check_order c_check_order k_check_order
  · exact (fun_mk (st := s_check_order) l_check_order c_check_order k_check_order).binds (ps := ["room", "order"]) fun _ _ _ _ _ _ us hl => match us, hl with | [_, _], _ => rfl
  · exact PySem.W.mg_of X G a_check_order
  · exact fun_mk (st := s_many) l_many c_many k_many
  · exact (fun_mk (st := s_many) l_many c_many k_many).binds (ps := ["room"]) fun _ _ _ _ _ _ us hl => match us, hl with | [_], _ => rfl
  · exact PySem.W.mg_of X G a_many
  · exact fun_mk (st := s_orders_on) l_orders_on c_orders_on k_orders_on
  · exact (fun_mk (st := s_orders_on) l_orders_on c_orders_on k_orders_on).binds (ps := ["after"]) fun _ _ _ _ _ _ us hl => match us, hl with | [_], _ => rfl
  · exact PySem.W.mg_of X G a_orders_on
  · exact fun_mk (st := s_order_at) l_order_at c_order_at k_order_at
  · exact (fun_mk (st := s_order_at) l_order_at c_order_at k_order_at).binds (ps := ["room", "at"]) fun _ _ _ _ _ _ us hl => match us, hl with | [_, _], _ => rfl
  · exact PySem.W.mg_of X G a_order_at
  · exact fun_mk (st := s_lot_at) l_lot_at c_lot_at k_lot_at
  · exact (fun_mk (st := s_lot_at) l_lot_at c_lot_at k_lot_at).binds (ps := ["after", "counts", "at"]) fun _ _ _ _ _ _ us hl => match us, hl with | [_, _, _], _ => rfl
  · exact PySem.W.mg_of X G a_lot_at
  · exact fun_mk (st := s_number_of) l_number_of c_number_of k_number_of
  · exact (fun_mk (st := s_number_of) l_number_of c_number_of k_number_of).binds (ps := ["room", "order"]) fun _ _ _ _ _ _ us hl => match us, hl with | [_, _], _ => rfl
  · exact PySem.W.mg_of X G a_number_of
  · exact fun_mk (st := s_Trial_init) l_Trial_init c_Trial_init k_Trial_init
  · exact (fun_mk (st := s_Trial_init) l_Trial_init c_Trial_init k_Trial_init).binds (ps := ["self", "led"]) fun _ _ _ _ _ _ us hl => match us, hl with | [_, _], _ => rfl
  · exact fun_mk (st := s_Trial_enter) l_Trial_enter c_Trial_enter k_Trial_enter
  · exact (fun_mk (st := s_Trial_enter) l_Trial_enter c_Trial_enter k_Trial_enter).binds (ps := ["self"]) fun _ _ _ _ _ _ us hl => match us, hl with | [_], _ => rfl
  · exact ⟨a_Trial_enter, i_Trial_enter, k_Trial_enter⟩
  · exact fun_mk (st := s_Trial_exit) l_Trial_exit c_Trial_exit k_Trial_exit
  · exact (fun_mk (st := s_Trial_exit) l_Trial_exit c_Trial_exit k_Trial_exit).binds (ps := ["self", "kind", "value", "trace"]) fun _ _ _ _ _ _ us hl => match us, hl with | [_, _, _, _], _ => rfl
  · exact ⟨a_Trial_exit, i_Trial_exit, k_Trial_exit⟩
  · exact fun_mk (st := s_Led_init) l_Led_init c_Led_init k_Led_init
  · exact (fun_mk (st := s_Led_init) l_Led_init c_Led_init k_Led_init).binds (ps := ["self", "room"]) fun _ _ _ _ _ _ us hl => match us, hl with | [_, _], _ => rfl
  · exact fun_mk (st := s_Led_stand) l_Led_stand c_Led_stand k_Led_stand
  · exact (fun_mk (st := s_Led_stand) l_Led_stand c_Led_stand k_Led_stand).binds (ps := ["self", "room", "counts", "gone"]) fun _ _ _ _ _ _ us hl => match us, hl with | [_, _, _, _], _ => rfl
  · exact ⟨a_Led_stand, i_Led_stand, k_Led_stand⟩
  · exact fun_mk (st := s_Led_change) l_Led_change c_Led_change k_Led_change
  · exact (fun_mk (st := s_Led_change) l_Led_change c_Led_change k_Led_change).binds (ps := ["self", "room", "counts", "gone"]) fun _ _ _ _ _ _ us hl => match us, hl with | [_, _, _, _], _ => rfl
  · exact ⟨a_Led_change, i_Led_change, k_Led_change⟩
  · exact fun_mk (st := s_Led_leave) l_Led_leave c_Led_leave k_Led_leave
  · exact (fun_mk (st := s_Led_leave) l_Led_leave c_Led_leave k_Led_leave).binds (ps := ["self", "name"]) fun _ _ _ _ _ _ us hl => match us, hl with | [_, _], _ => rfl
  · exact ⟨a_Led_leave, i_Led_leave, k_Led_leave⟩
  · exact fun_mk (st := s_Led_several) l_Led_several c_Led_several k_Led_several
  · exact (fun_mk (st := s_Led_several) l_Led_several c_Led_several k_Led_several).binds (ps := ["self", "names"]) fun _ _ _ _ _ _ us hl => match us, hl with | [_, _], _ => rfl
  · exact ⟨a_Led_several, i_Led_several, k_Led_several⟩
  · exact fun_mk (st := s_Led_follow) l_Led_follow c_Led_follow k_Led_follow
  · exact (fun_mk (st := s_Led_follow) l_Led_follow c_Led_follow k_Led_follow).binds (ps := ["self", "room"]) fun _ _ _ _ _ _ us hl => match us, hl with | [_, _], _ => rfl
  · exact ⟨a_Led_follow, i_Led_follow, k_Led_follow⟩
  · exact fun_mk (st := s_Led_undo) l_Led_undo c_Led_undo k_Led_undo
  · exact (fun_mk (st := s_Led_undo) l_Led_undo c_Led_undo k_Led_undo).binds (ps := ["self"]) fun _ _ _ _ _ _ us hl => match us, hl with | [_], _ => rfl
  · exact ⟨a_Led_undo, i_Led_undo, k_Led_undo⟩
  · exact fun_mk (st := s_Led_trial) l_Led_trial c_Led_trial k_Led_trial
  · exact (fun_mk (st := s_Led_trial) l_Led_trial c_Led_trial k_Led_trial).binds (ps := ["self"]) fun _ _ _ _ _ _ us hl => match us, hl with | [_], _ => rfl
  · exact ⟨a_Led_trial, i_Led_trial, k_Led_trial⟩
  · exact fun_mk (st := s_Led_within) l_Led_within c_Led_within k_Led_within
  · exact (fun_mk (st := s_Led_within) l_Led_within c_Led_within k_Led_within).binds (ps := ["self", "work"]) fun _ _ _ _ _ _ us hl => match us, hl with | [_, _], _ => rfl
  · exact ⟨a_Led_within, i_Led_within, k_Led_within⟩
  · exact fun_mk (st := s_Led_len) l_Led_len c_Led_len k_Led_len
  · exact (fun_mk (st := s_Led_len) l_Led_len c_Led_len k_Led_len).binds (ps := ["self"]) fun _ _ _ _ _ _ us hl => match us, hl with | [_], _ => rfl
  · exact ⟨a_Led_len, i_Led_len, k_Led_len⟩
  · exact fun_mk (st := s_counts_in) l_counts_in c_counts_in k_counts_in
  · exact (fun_mk (st := s_counts_in) l_counts_in c_counts_in k_counts_in).binds (ps := ["room"]) fun _ _ _ _ _ _ us hl => match us, hl with | [_], _ => rfl
  · exact PySem.W.mg_of X G a_counts_in
  · exact (⟨⟨_, _, _, _, _, _, _, _, _, _, rfl, l_Rule_init, c_Rule_init, .inr ⟨by simp, _, _, [.ref e_Rule_init], _, rfl, lT_Rule_init, rfl, .cons rfl .nil⟩, .inl rfl⟩, k_Rule_init⟩ : FunD K _ _ _ _ _ [V.ref e_Rule_init] [] f_Rule_init _)
  · have F := (⟨⟨_, _, _, _, _, _, _, _, _, _, rfl, l_Rule_init, c_Rule_init, .inr ⟨by simp, _, _, [.ref e_Rule_init], _, rfl, lT_Rule_init, rfl, .cons rfl .nil⟩, .inl rfl⟩, k_Rule_init⟩ : FunD K _ _ _ _ _ [V.ref e_Rule_init] [] f_Rule_init _)
    obtain ⟨ds, v, b⟩ := F.binds1 (ps := ["self", "name", "gone"]) 3 1 (by simp) rfl (fun _ _ _ _ _ _ _ us its h1 h2 => by
      match us, h1, its, h2 with
      | [_, _, _], _, [_], _ => exact ⟨_, rfl, rfl⟩)
    cases v
    exact b
  · have F := (⟨⟨_, _, _, _, _, _, _, _, _, _, rfl, l_Rule_init, c_Rule_init, .inr ⟨by simp, _, _, [.ref e_Rule_init], _, rfl, lT_Rule_init, rfl, .cons rfl .nil⟩, .inl rfl⟩, k_Rule_init⟩ : FunD K _ _ _ _ _ [V.ref e_Rule_init] [] f_Rule_init _)
    exact F.binds1 (ps := ["self", "name", "gone"]) 2 0 (by simp) rfl (fun _ _ _ _ _ _ _ us its h1 h2 => by
      match us, h1, its, h2 with
      | [_, _], _, [_], _ => exact ⟨_, rfl, rfl⟩)
  · exact fun M => .inr ⟨_, #[], _, lE_Rule_init, rfl, rfl, Nat.zero_le _, .nil⟩
  · exact fun_mk (st := s_Rule_eq) l_Rule_eq c_Rule_eq k_Rule_eq
  · exact (fun_mk (st := s_Rule_eq) l_Rule_eq c_Rule_eq k_Rule_eq).binds (ps := ["self", "other"]) fun _ _ _ _ _ _ us hl => match us, hl with | [_, _], _ => rfl
  · exact ⟨a_Rule_eq, i_Rule_eq, k_Rule_eq⟩
  · exact fun_mk (st := s_Rule_str) l_Rule_str c_Rule_str k_Rule_str
  · exact (fun_mk (st := s_Rule_str) l_Rule_str c_Rule_str k_Rule_str).binds (ps := ["self"]) fun _ _ _ _ _ _ us hl => match us, hl with | [_], _ => rfl
  · exact ⟨a_Rule_str, i_Rule_str, k_Rule_str⟩
  · exact (⟨⟨_, _, _, _, _, _, _, _, _, _, rfl, l_Room_init, c_Room_init, .inr ⟨by simp, _, _, [.ref e_Room_init], _, rfl, lT_Room_init, rfl, .cons rfl .nil⟩, .inl rfl⟩, k_Room_init⟩ : FunD K _ _ _ _ _ [V.ref e_Room_init] [] f_Room_init _)
  · have F := (⟨⟨_, _, _, _, _, _, _, _, _, _, rfl, l_Room_init, c_Room_init, .inr ⟨by simp, _, _, [.ref e_Room_init], _, rfl, lT_Room_init, rfl, .cons rfl .nil⟩, .inl rfl⟩, k_Room_init⟩ : FunD K _ _ _ _ _ [V.ref e_Room_init] [] f_Room_init _)
    obtain ⟨ds, v, b⟩ := F.binds1 (ps := ["self", "rules"]) 2 1 (by simp) rfl (fun _ _ _ _ _ _ _ us its h1 h2 => by
      match us, h1, its, h2 with
      | [_, _], _, [_], _ => exact ⟨_, rfl, rfl⟩)
    cases v
    exact b
  · have F := (⟨⟨_, _, _, _, _, _, _, _, _, _, rfl, l_Room_init, c_Room_init, .inr ⟨by simp, _, _, [.ref e_Room_init], _, rfl, lT_Room_init, rfl, .cons rfl .nil⟩, .inl rfl⟩, k_Room_init⟩ : FunD K _ _ _ _ _ [V.ref e_Room_init] [] f_Room_init _)
    exact F.binds1 (ps := ["self", "rules"]) 1 0 (by simp) rfl (fun _ _ _ _ _ _ _ us its h1 h2 => by
      match us, h1, its, h2 with
      | [_], _, [_], _ => exact ⟨_, rfl, rfl⟩)
  · exact fun M => .inr ⟨_, #[], _, lE_Room_init, rfl, rfl, Nat.zero_le _, .nil⟩
  · exact fun_mk (st := s_Room_without) l_Room_without c_Room_without k_Room_without
  · exact (fun_mk (st := s_Room_without) l_Room_without c_Room_without k_Room_without).binds (ps := ["self", "at"]) fun _ _ _ _ _ _ us hl => match us, hl with | [_, _], _ => rfl
  · exact ⟨a_Room_without, i_Room_without, k_Room_without⟩
  · exact fun_mk (st := s_Room_len) l_Room_len c_Room_len k_Room_len
  · exact (fun_mk (st := s_Room_len) l_Room_len c_Room_len k_Room_len).binds (ps := ["self"]) fun _ _ _ _ _ _ us hl => match us, hl with | [_], _ => rfl
  · exact ⟨a_Room_len, i_Room_len, k_Room_len⟩
  · exact fun_mk (st := s_Room_getitem) l_Room_getitem c_Room_getitem k_Room_getitem
  · exact (fun_mk (st := s_Room_getitem) l_Room_getitem c_Room_getitem k_Room_getitem).binds (ps := ["self", "at"]) fun _ _ _ _ _ _ us hl => match us, hl with | [_, _], _ => rfl
  · exact ⟨a_Room_getitem, i_Room_getitem, k_Room_getitem⟩
  · exact fun_mk (st := s_Room_add) l_Room_add c_Room_add k_Room_add
  · exact (fun_mk (st := s_Room_add) l_Room_add c_Room_add k_Room_add).binds (ps := ["self", "other"]) fun _ _ _ _ _ _ us hl => match us, hl with | [_, _], _ => rfl
  · exact ⟨a_Room_add, i_Room_add, k_Room_add⟩
  · exact fun_mk (st := s_Room_eq) l_Room_eq c_Room_eq k_Room_eq
  · exact (fun_mk (st := s_Room_eq) l_Room_eq c_Room_eq k_Room_eq).binds (ps := ["self", "other"]) fun _ _ _ _ _ _ us hl => match us, hl with | [_, _], _ => rfl
  · exact ⟨a_Room_eq, i_Room_eq, k_Room_eq⟩
  · exact fun_mk (st := s_Room_str) l_Room_str c_Room_str k_Room_str
  · exact (fun_mk (st := s_Room_str) l_Room_str c_Room_str k_Room_str).binds (ps := ["self"]) fun _ _ _ _ _ _ us hl => match us, hl with | [_], _ => rfl
  · exact ⟨a_Room_str, i_Room_str, k_Room_str⟩
  · exact fun_mk (st := s_lw_box) l_lw_box c_lw_box k_lw_box
  · exact (fun_mk (st := s_lw_box) l_lw_box c_lw_box k_lw_box).binds (ps := ["_law_script", "_law_k", "_law_own"]) fun _ _ _ _ _ _ us hl => match us, hl with | [_, _, _], _ => rfl
  · exact PySem.W.mg_of X G a_lw_box
  · exact fun_mk (st := s_lw_take) l_lw_take c_lw_take k_lw_take
  · exact (fun_mk (st := s_lw_take) l_lw_take c_lw_take k_lw_take).binds (ps := ["_law_box_here", "_law_bound"]) fun _ _ _ _ _ _ us hl => match us, hl with | [_, _], _ => rfl
  · exact PySem.W.mg_of X G a_lw_take
  · exact fun_mk (st := s_lw_mixed) l_lw_mixed c_lw_mixed k_lw_mixed
  · exact (fun_mk (st := s_lw_mixed) l_lw_mixed c_lw_mixed k_lw_mixed).binds (ps := ["_law_box_here", "_law_items"]) fun _ _ _ _ _ _ us hl => match us, hl with | [_, _], _ => rfl
  · exact PySem.W.mg_of X G a_lw_mixed
  · exact fun_mk (st := s_lw_names) l_lw_names c_lw_names k_lw_names
  · exact (fun_mk (st := s_lw_names) l_lw_names c_lw_names k_lw_names).binds (ps := ["_law_box_here", "_law_bound"]) fun _ _ _ _ _ _ us hl => match us, hl with | [_, _], _ => rfl
  · exact PySem.W.mg_of X G a_lw_names
  · exact fun_mk (st := s_lw_rules) l_lw_rules c_lw_rules k_lw_rules
  · exact (fun_mk (st := s_lw_rules) l_lw_rules c_lw_rules k_lw_rules).binds (ps := ["_law_box_here", "_law_most"]) fun _ _ _ _ _ _ us hl => match us, hl with | [_, _], _ => rfl
  · exact PySem.W.mg_of X G a_lw_rules
  · exact fun_mk (st := s_lw_made) l_lw_made c_lw_made k_lw_made
  · exact (fun_mk (st := s_lw_made) l_lw_made c_lw_made k_lw_made).binds (ps := ["_law_rules_here"]) fun _ _ _ _ _ _ us hl => match us, hl with | [_], _ => rfl
  · exact PySem.W.mg_of X G a_lw_made
  · exact fun_mk (st := s_lw_main) l_lw_main c_lw_main k_lw_main
  · exact (fun_mk (st := s_lw_main) l_lw_main c_lw_main k_lw_main).binds (ps := ["_law_script"]) fun _ _ _ _ _ _ us hl => match us, hl with | [_], _ => rfl
  · exact PySem.W.mg_of X G a_lw_main
  · exact PySem.W.mg_none_of X G n_abs
  · exact PySem.W.mg_none_of X G n_all
  · exact PySem.W.mg_none_of X G n_bool
  · exact PySem.W.mg_none_of X G n_enumerate
  · exact PySem.W.mg_none_of X G n_int
  · exact PySem.W.mg_none_of X G n_isinstance
  · exact PySem.W.mg_none_of X G n_len
  · exact PySem.W.mg_none_of X G n_list
  · exact PySem.W.mg_none_of X G n_max
  · exact PySem.W.mg_none_of X G n_min
  · exact PySem.W.mg_none_of X G n_range
  · exact PySem.W.mg_none_of X G n_reversed
  · exact PySem.W.mg_none_of X G n_set
  · exact PySem.W.mg_none_of X G n_sorted
  · exact PySem.W.mg_none_of X G n_str
  · exact PySem.W.mg_none_of X G n_sum
  · exact PySem.W.mg_none_of X G n_tuple
  · exact ⟨_, PySem.W.mg_of X G m_LETTERS, _, rfl⟩
theorem law_at {l : PySem.W.OpenLaw} {w : World} {K : PySem.W.Frag} {h : Heap} {mg : Str → Option Value} {fa : Addr} (X : K.In h) (G : h.Ns mainGlobals mg) (hfa : mg "law" = some (.ref fa))
    {C_Trial : Addr}
    {C_Led : Addr}
    {C_Rule : Addr}
    {C_Room : Addr}
    {f_is_int : Addr} {od_is_int an_is_int : Option Addr} {sl_is_int : Array (Option Value)} {oc_is_int kV_is_int dc_is_int pm_is_int cd_is_int ct_is_int : Value}
    {f_is_index : Addr} {od_is_index an_is_index : Option Addr} {sl_is_index : Array (Option Value)} {oc_is_index kV_is_index dc_is_index pm_is_index cd_is_index ct_is_index : Value}
    {f_is_name : Addr} {od_is_name an_is_name : Option Addr} {sl_is_name : Array (Option Value)} {oc_is_name kV_is_name dc_is_name pm_is_name cd_is_name ct_is_name : Value}
    {f_is_sequence : Addr} {od_is_sequence an_is_sequence : Option Addr} {sl_is_sequence : Array (Option Value)} {oc_is_sequence kV_is_sequence dc_is_sequence pm_is_sequence cd_is_sequence ct_is_sequence : Value}
    {f_are_names : Addr} {od_are_names an_are_names : Option Addr} {sl_are_names : Array (Option Value)} {oc_are_names kV_are_names dc_are_names pm_are_names cd_are_names ct_are_names : Value}
    {f_lot_of : Addr} {od_lot_of an_lot_of : Option Addr} {sl_lot_of : Array (Option Value)} {oc_lot_of kV_lot_of dc_lot_of pm_lot_of cd_lot_of ct_lot_of : Value}
    {f_bits_of : Addr} {od_bits_of an_bits_of : Option Addr} {sl_bits_of : Array (Option Value)} {oc_bits_of kV_bits_of dc_bits_of pm_bits_of cd_bits_of ct_bits_of : Value}
    {f_names_of : Addr} {od_names_of an_names_of : Option Addr} {sl_names_of : Array (Option Value)} {oc_names_of kV_names_of dc_names_of pm_names_of cd_names_of ct_names_of : Value}
    {f_may : Addr} {od_may an_may : Option Addr} {sl_may : Array (Option Value)} {oc_may kV_may dc_may pm_may cd_may ct_may : Value}
    {f_is_fulfilled : Addr} {od_is_fulfilled an_is_fulfilled : Option Addr} {sl_is_fulfilled : Array (Option Value)} {oc_is_fulfilled kV_is_fulfilled dc_is_fulfilled pm_is_fulfilled cd_is_fulfilled ct_is_fulfilled : Value}
    {f_lots_after : Addr} {od_lots_after an_lots_after : Option Addr} {sl_lots_after : Array (Option Value)} {oc_lots_after kV_lots_after dc_lots_after pm_lots_after cd_lots_after ct_lots_after : Value}
    {f_is_order : Addr} {od_is_order an_is_order : Option Addr} {sl_is_order : Array (Option Value)} {oc_is_order kV_is_order dc_is_order pm_is_order cd_is_order ct_is_order : Value}
    {f_wrong_at : Addr} {od_wrong_at an_wrong_at : Option Addr} {sl_wrong_at : Array (Option Value)} {oc_wrong_at kV_wrong_at dc_wrong_at pm_wrong_at cd_wrong_at ct_wrong_at : Value}
    {f_check_order : Addr} {od_check_order an_check_order : Option Addr} {sl_check_order : Array (Option Value)} {oc_check_order kV_check_order dc_check_order pm_check_order cd_check_order ct_check_order : Value}
    {f_many : Addr} {od_many an_many : Option Addr} {sl_many : Array (Option Value)} {oc_many kV_many dc_many pm_many cd_many ct_many : Value}
    {f_orders_on : Addr} {od_orders_on an_orders_on : Option Addr} {sl_orders_on : Array (Option Value)} {oc_orders_on kV_orders_on dc_orders_on pm_orders_on cd_orders_on ct_orders_on : Value}
    {f_order_at : Addr} {od_order_at an_order_at : Option Addr} {sl_order_at : Array (Option Value)} {oc_order_at kV_order_at dc_order_at pm_order_at cd_order_at ct_order_at : Value}
    {f_lot_at : Addr} {od_lot_at an_lot_at : Option Addr} {sl_lot_at : Array (Option Value)} {oc_lot_at kV_lot_at dc_lot_at pm_lot_at cd_lot_at ct_lot_at : Value}
    {f_number_of : Addr} {od_number_of an_number_of : Option Addr} {sl_number_of : Array (Option Value)} {oc_number_of kV_number_of dc_number_of pm_number_of cd_number_of ct_number_of : Value}
    {f_Trial_init : Addr} {od_Trial_init an_Trial_init : Option Addr} {sl_Trial_init : Array (Option Value)} {oc_Trial_init kV_Trial_init dc_Trial_init pm_Trial_init cd_Trial_init ct_Trial_init : Value}
    {f_Trial_enter : Addr} {od_Trial_enter an_Trial_enter : Option Addr} {sl_Trial_enter : Array (Option Value)} {oc_Trial_enter kV_Trial_enter dc_Trial_enter pm_Trial_enter cd_Trial_enter ct_Trial_enter : Value}
    {f_Trial_exit : Addr} {od_Trial_exit an_Trial_exit : Option Addr} {sl_Trial_exit : Array (Option Value)} {oc_Trial_exit kV_Trial_exit dc_Trial_exit pm_Trial_exit cd_Trial_exit ct_Trial_exit : Value}
    {f_Led_init : Addr} {od_Led_init an_Led_init : Option Addr} {sl_Led_init : Array (Option Value)} {oc_Led_init kV_Led_init dc_Led_init pm_Led_init cd_Led_init ct_Led_init : Value}
    {f_Led_stand : Addr} {od_Led_stand an_Led_stand : Option Addr} {sl_Led_stand : Array (Option Value)} {oc_Led_stand kV_Led_stand dc_Led_stand pm_Led_stand cd_Led_stand ct_Led_stand : Value}
    {f_Led_change : Addr} {od_Led_change an_Led_change : Option Addr} {sl_Led_change : Array (Option Value)} {oc_Led_change kV_Led_change dc_Led_change pm_Led_change cd_Led_change ct_Led_change : Value}
    {f_Led_leave : Addr} {od_Led_leave an_Led_leave : Option Addr} {sl_Led_leave : Array (Option Value)} {oc_Led_leave kV_Led_leave dc_Led_leave pm_Led_leave cd_Led_leave ct_Led_leave : Value}
    {f_Led_several : Addr} {od_Led_several an_Led_several : Option Addr} {sl_Led_several : Array (Option Value)} {oc_Led_several kV_Led_several dc_Led_several pm_Led_several cd_Led_several ct_Led_several : Value}
    {f_Led_follow : Addr} {od_Led_follow an_Led_follow : Option Addr} {sl_Led_follow : Array (Option Value)} {oc_Led_follow kV_Led_follow dc_Led_follow pm_Led_follow cd_Led_follow ct_Led_follow : Value}
    {f_Led_undo : Addr} {od_Led_undo an_Led_undo : Option Addr} {sl_Led_undo : Array (Option Value)} {oc_Led_undo kV_Led_undo dc_Led_undo pm_Led_undo cd_Led_undo ct_Led_undo : Value}
    {f_Led_trial : Addr} {od_Led_trial an_Led_trial : Option Addr} {sl_Led_trial : Array (Option Value)} {oc_Led_trial kV_Led_trial dc_Led_trial pm_Led_trial cd_Led_trial ct_Led_trial : Value}
    {f_Led_within : Addr} {od_Led_within an_Led_within : Option Addr} {sl_Led_within : Array (Option Value)} {oc_Led_within kV_Led_within dc_Led_within pm_Led_within cd_Led_within ct_Led_within : Value}
    {f_Led_len : Addr} {od_Led_len an_Led_len : Option Addr} {sl_Led_len : Array (Option Value)} {oc_Led_len kV_Led_len dc_Led_len pm_Led_len cd_Led_len ct_Led_len : Value}
    {f_counts_in : Addr} {od_counts_in an_counts_in : Option Addr} {sl_counts_in : Array (Option Value)} {oc_counts_in kV_counts_in dc_counts_in pm_counts_in cd_counts_in ct_counts_in : Value}
    {f_Rule_init : Addr} {od_Rule_init an_Rule_init : Option Addr} {sl_Rule_init : Array (Option Value)} {oc_Rule_init kV_Rule_init dc_Rule_init pm_Rule_init cd_Rule_init ct_Rule_init : Value}
    {T_Rule_init e_Rule_init : Addr} {oT_Rule_init : Value} {dT_Rule_init dE_Rule_init : Option Addr} {nT_Rule_init nE_Rule_init : Nat} {sT_Rule_init sE_Rule_init : Array (Option Value)}
    {f_Rule_eq : Addr} {od_Rule_eq an_Rule_eq : Option Addr} {sl_Rule_eq : Array (Option Value)} {oc_Rule_eq kV_Rule_eq dc_Rule_eq pm_Rule_eq cd_Rule_eq ct_Rule_eq : Value}
    {f_Rule_str : Addr} {od_Rule_str an_Rule_str : Option Addr} {sl_Rule_str : Array (Option Value)} {oc_Rule_str kV_Rule_str dc_Rule_str pm_Rule_str cd_Rule_str ct_Rule_str : Value}
    {f_Room_init : Addr} {od_Room_init an_Room_init : Option Addr} {sl_Room_init : Array (Option Value)} {oc_Room_init kV_Room_init dc_Room_init pm_Room_init cd_Room_init ct_Room_init : Value}
    {T_Room_init e_Room_init : Addr} {oT_Room_init : Value} {dT_Room_init dE_Room_init : Option Addr} {nT_Room_init nE_Room_init : Nat} {sT_Room_init sE_Room_init : Array (Option Value)}
    {f_Room_without : Addr} {od_Room_without an_Room_without : Option Addr} {sl_Room_without : Array (Option Value)} {oc_Room_without kV_Room_without dc_Room_without pm_Room_without cd_Room_without ct_Room_without : Value}
    {f_Room_len : Addr} {od_Room_len an_Room_len : Option Addr} {sl_Room_len : Array (Option Value)} {oc_Room_len kV_Room_len dc_Room_len pm_Room_len cd_Room_len ct_Room_len : Value}
    {f_Room_getitem : Addr} {od_Room_getitem an_Room_getitem : Option Addr} {sl_Room_getitem : Array (Option Value)} {oc_Room_getitem kV_Room_getitem dc_Room_getitem pm_Room_getitem cd_Room_getitem ct_Room_getitem : Value}
    {f_Room_add : Addr} {od_Room_add an_Room_add : Option Addr} {sl_Room_add : Array (Option Value)} {oc_Room_add kV_Room_add dc_Room_add pm_Room_add cd_Room_add ct_Room_add : Value}
    {f_Room_eq : Addr} {od_Room_eq an_Room_eq : Option Addr} {sl_Room_eq : Array (Option Value)} {oc_Room_eq kV_Room_eq dc_Room_eq pm_Room_eq cd_Room_eq ct_Room_eq : Value}
    {f_Room_str : Addr} {od_Room_str an_Room_str : Option Addr} {sl_Room_str : Array (Option Value)} {oc_Room_str kV_Room_str dc_Room_str pm_Room_str cd_Room_str ct_Room_str : Value}
    {f_lw_box : Addr} {od_lw_box an_lw_box : Option Addr} {sl_lw_box : Array (Option Value)} {oc_lw_box kV_lw_box dc_lw_box pm_lw_box cd_lw_box ct_lw_box : Value}
    {f_lw_take : Addr} {od_lw_take an_lw_take : Option Addr} {sl_lw_take : Array (Option Value)} {oc_lw_take kV_lw_take dc_lw_take pm_lw_take cd_lw_take ct_lw_take : Value}
    {f_lw_mixed : Addr} {od_lw_mixed an_lw_mixed : Option Addr} {sl_lw_mixed : Array (Option Value)} {oc_lw_mixed kV_lw_mixed dc_lw_mixed pm_lw_mixed cd_lw_mixed ct_lw_mixed : Value}
    {f_lw_names : Addr} {od_lw_names an_lw_names : Option Addr} {sl_lw_names : Array (Option Value)} {oc_lw_names kV_lw_names dc_lw_names pm_lw_names cd_lw_names ct_lw_names : Value}
    {f_lw_rules : Addr} {od_lw_rules an_lw_rules : Option Addr} {sl_lw_rules : Array (Option Value)} {oc_lw_rules kV_lw_rules dc_lw_rules pm_lw_rules cd_lw_rules ct_lw_rules : Value}
    {f_lw_made : Addr} {od_lw_made an_lw_made : Option Addr} {sl_lw_made : Array (Option Value)} {oc_lw_made kV_lw_made dc_lw_made pm_lw_made cd_lw_made ct_lw_made : Value}
    {f_lw_main : Addr} {od_lw_main an_lw_main : Option Addr} {sl_lw_main : Array (Option Value)} {oc_lw_main kV_lw_main dc_lw_main pm_lw_main cd_lw_main ct_lw_main : Value}
    {tk_LETTERS : Tok}
    {cA_lw_main PA_lw_main : Addr}
    (aC_Trial : PySem.W.nsIn K mainGlobals "Trial" = some (some (.ref C_Trial)))
    (pg_Trial : PySem.W.plainGet K C_Trial Str.empty = true)
    (hd_Trial : PySem.W.hasDictIn K C_Trial = true)
    (po_Trial : PySem.W.plainOver K C_Trial = true)
    (sa_Trial : PySem.W.findIn K (.ref C_Trial) "__setattr__" = some (some (.builtin "object.__setattr__")))
    (mk_Trial : PySem.W.makesIn K C_Trial = true)
    (kc_Trial : PySem.W.keepIn K (.ref C_Trial) = true)
    (no_Trial_led : PySem.W.findIn K (.ref C_Trial) "led" = some none)
    (no_Trial_room : PySem.W.findIn K (.ref C_Trial) "room" = some none)
    (no_Trial_counts : PySem.W.findIn K (.ref C_Trial) "counts" = some none)
    (no_Trial_gone : PySem.W.findIn K (.ref C_Trial) "gone" = some none)
    (no_Trial_may : PySem.W.findIn K (.ref C_Trial) "may" = some none)
    (no_Trial_left : PySem.W.findIn K (.ref C_Trial) "left" = some none)
    (no_Trial_deeds : PySem.W.findIn K (.ref C_Trial) "deeds" = some none)
    (ha_Trial : PySem.W.findIn K (.ref C_Trial) "__class__" = some (some (.builtin "object.__class__")))
    (hn_Trial : PySem.W.specialIn K (.builtin "object.__class__") "__get__" = some (some (.builtin "getset_descriptor.__get__")))
    (htk_Trial : PySem.W.takesIn K (.builtin "object.__class__") = some true)
    (hm_Trial : PySem.W.mroIn K C_Trial (.type "object") = some true)
    (aC_Led : PySem.W.nsIn K mainGlobals "Led" = some (some (.ref C_Led)))
    (pg_Led : PySem.W.plainGet K C_Led Str.empty = true)
    (hd_Led : PySem.W.hasDictIn K C_Led = true)
    (po_Led : PySem.W.plainOver K C_Led = true)
    (sa_Led : PySem.W.findIn K (.ref C_Led) "__setattr__" = some (some (.builtin "object.__setattr__")))
    (mk_Led : PySem.W.makesIn K C_Led = true)
    (kc_Led : PySem.W.keepIn K (.ref C_Led) = true)
    (no_Led_deeds : PySem.W.findIn K (.ref C_Led) "deeds" = some none)
    (no_Led_room : PySem.W.findIn K (.ref C_Led) "room" = some none)
    (no_Led_counts : PySem.W.findIn K (.ref C_Led) "counts" = some none)
    (no_Led_gone : PySem.W.findIn K (.ref C_Led) "gone" = some none)
    (no_Led_may : PySem.W.findIn K (.ref C_Led) "may" = some none)
    (no_Led_left : PySem.W.findIn K (.ref C_Led) "left" = some none)
    (ha_Led : PySem.W.findIn K (.ref C_Led) "__class__" = some (some (.builtin "object.__class__")))
    (hn_Led : PySem.W.specialIn K (.builtin "object.__class__") "__get__" = some (some (.builtin "getset_descriptor.__get__")))
    (htk_Led : PySem.W.takesIn K (.builtin "object.__class__") = some true)
    (hm_Led : PySem.W.mroIn K C_Led (.type "object") = some true)
    (aC_Rule : PySem.W.nsIn K mainGlobals "Rule" = some (some (.ref C_Rule)))
    (pg_Rule : PySem.W.plainGet K C_Rule Str.empty = true)
    (hd_Rule : PySem.W.hasDictIn K C_Rule = true)
    (po_Rule : PySem.W.plainOver K C_Rule = true)
    (sa_Rule : PySem.W.findIn K (.ref C_Rule) "__setattr__" = some (some (.builtin "object.__setattr__")))
    (mk_Rule : PySem.W.makesIn K C_Rule = true)
    (kc_Rule : PySem.W.keepIn K (.ref C_Rule) = true)
    (no_Rule_name : PySem.W.findIn K (.ref C_Rule) "name" = some none)
    (no_Rule_gone : PySem.W.findIn K (.ref C_Rule) "gone" = some none)
    (ha_Rule : PySem.W.findIn K (.ref C_Rule) "__class__" = some (some (.builtin "object.__class__")))
    (hn_Rule : PySem.W.specialIn K (.builtin "object.__class__") "__get__" = some (some (.builtin "getset_descriptor.__get__")))
    (htk_Rule : PySem.W.takesIn K (.builtin "object.__class__") = some true)
    (hm_Rule : PySem.W.mroIn K C_Rule (.type "object") = some true)
    (nd_Rule : PySem.W.findIn K (.ref C_Rule) "__ne__" = some (some (.builtin "object.__ne__")))
    (sx_Rule : PySem.W.subIn K (.type "str") (.ref C_Rule) = some false)
    (aC_Room : PySem.W.nsIn K mainGlobals "Room" = some (some (.ref C_Room)))
    (pg_Room : PySem.W.plainGet K C_Room Str.empty = true)
    (hd_Room : PySem.W.hasDictIn K C_Room = true)
    (po_Room : PySem.W.plainOver K C_Room = true)
    (sa_Room : PySem.W.findIn K (.ref C_Room) "__setattr__" = some (some (.builtin "object.__setattr__")))
    (mk_Room : PySem.W.makesIn K C_Room = true)
    (kc_Room : PySem.W.keepIn K (.ref C_Room) = true)
    (no_Room_rules : PySem.W.findIn K (.ref C_Room) "rules" = some none)
    (no_Room_names : PySem.W.findIn K (.ref C_Room) "names" = some none)
    (ha_Room : PySem.W.findIn K (.ref C_Room) "__class__" = some (some (.builtin "object.__class__")))
    (hn_Room : PySem.W.specialIn K (.builtin "object.__class__") "__get__" = some (some (.builtin "getset_descriptor.__get__")))
    (htk_Room : PySem.W.takesIn K (.builtin "object.__class__") = some true)
    (hm_Room : PySem.W.mroIn K C_Room (.type "object") = some true)
    (sb_NoneType_Room : PySem.W.subIn K (.type "NoneType") (.ref C_Room) = some false)
    (sb_bool_Room : PySem.W.subIn K (.type "bool") (.ref C_Room) = some false)
    (sb_int_Room : PySem.W.subIn K (.type "int") (.ref C_Room) = some false)
    (sb_str_Room : PySem.W.subIn K (.type "str") (.ref C_Room) = some false)
    (sb_list_Room : PySem.W.subIn K (.type "list") (.ref C_Room) = some false)
    (sb_tuple_Room : PySem.W.subIn K (.type "tuple") (.ref C_Room) = some false)
    (so_Trial_Room : PySem.W.subIn K (.ref C_Trial) (.ref C_Room) = some false)
    (so_Trial_Trial : PySem.W.subIn K (.ref C_Trial) (.ref C_Trial) = some true)
    (so_Led_Room : PySem.W.subIn K (.ref C_Led) (.ref C_Room) = some false)
    (so_Led_Led : PySem.W.subIn K (.ref C_Led) (.ref C_Led) = some true)
    (so_Rule_Room : PySem.W.subIn K (.ref C_Rule) (.ref C_Room) = some false)
    (so_Room_Room : PySem.W.subIn K (.ref C_Room) (.ref C_Room) = some true)
    (sb_NoneType_Rule : PySem.W.subIn K (.type "NoneType") (.ref C_Rule) = some false)
    (sb_bool_Rule : PySem.W.subIn K (.type "bool") (.ref C_Rule) = some false)
    (sb_int_Rule : PySem.W.subIn K (.type "int") (.ref C_Rule) = some false)
    (sb_str_Rule : PySem.W.subIn K (.type "str") (.ref C_Rule) = some false)
    (sb_list_Rule : PySem.W.subIn K (.type "list") (.ref C_Rule) = some false)
    (sb_tuple_Rule : PySem.W.subIn K (.type "tuple") (.ref C_Rule) = some false)
    (so_Trial_Rule : PySem.W.subIn K (.ref C_Trial) (.ref C_Rule) = some false)
    (so_Led_Rule : PySem.W.subIn K (.ref C_Led) (.ref C_Rule) = some false)
    (so_Rule_Rule : PySem.W.subIn K (.ref C_Rule) (.ref C_Rule) = some true)
    (so_Room_Rule : PySem.W.subIn K (.ref C_Room) (.ref C_Rule) = some false)
    (iL_Room : PySem.W.isClsIn K C_Room = true)
    (tL_Room : PySem.W.typeIn K (.ref C_Room) = some (.type "type"))
    (iL_Rule : PySem.W.isClsIn K C_Rule = true)
    (tL_Rule : PySem.W.typeIn K (.ref C_Rule) = some (.type "type"))
    (a_is_int : PySem.W.nsIn K mainGlobals "is_int" = some (some (.ref f_is_int)))
    (l_is_int : K.lookup f_is_int = some ⟨oc_is_int, od_is_int, .func (PySem.W.fnOf "is_int" "is_int" (defArgs s_is_int) (defBody s_is_int) (defScope s_is_int) .none kV_is_int dc_is_int pm_is_int an_is_int cd_is_int ct_is_int), sl_is_int⟩)
    (c_is_int : PySem.W.codeIn K cd_is_int "is_int" = true)
    (k_is_int : PySem.W.keepIn K (.ref f_is_int) = true)
    (a_is_index : PySem.W.nsIn K mainGlobals "is_index" = some (some (.ref f_is_index)))
    (l_is_index : K.lookup f_is_index = some ⟨oc_is_index, od_is_index, .func (PySem.W.fnOf "is_index" "is_index" (defArgs s_is_index) (defBody s_is_index) (defScope s_is_index) .none kV_is_index dc_is_index pm_is_index an_is_index cd_is_index ct_is_index), sl_is_index⟩)
    (c_is_index : PySem.W.codeIn K cd_is_index "is_index" = true)
    (k_is_index : PySem.W.keepIn K (.ref f_is_index) = true)
    (a_is_name : PySem.W.nsIn K mainGlobals "is_name" = some (some (.ref f_is_name)))
    (l_is_name : K.lookup f_is_name = some ⟨oc_is_name, od_is_name, .func (PySem.W.fnOf "is_name" "is_name" (defArgs s_is_name) (defBody s_is_name) (defScope s_is_name) .none kV_is_name dc_is_name pm_is_name an_is_name cd_is_name ct_is_name), sl_is_name⟩)
    (c_is_name : PySem.W.codeIn K cd_is_name "is_name" = true)
    (k_is_name : PySem.W.keepIn K (.ref f_is_name) = true)
    (a_is_sequence : PySem.W.nsIn K mainGlobals "is_sequence" = some (some (.ref f_is_sequence)))
    (l_is_sequence : K.lookup f_is_sequence = some ⟨oc_is_sequence, od_is_sequence, .func (PySem.W.fnOf "is_sequence" "is_sequence" (defArgs s_is_sequence) (defBody s_is_sequence) (defScope s_is_sequence) .none kV_is_sequence dc_is_sequence pm_is_sequence an_is_sequence cd_is_sequence ct_is_sequence), sl_is_sequence⟩)
    (c_is_sequence : PySem.W.codeIn K cd_is_sequence "is_sequence" = true)
    (k_is_sequence : PySem.W.keepIn K (.ref f_is_sequence) = true)
    (a_are_names : PySem.W.nsIn K mainGlobals "are_names" = some (some (.ref f_are_names)))
    (l_are_names : K.lookup f_are_names = some ⟨oc_are_names, od_are_names, .func (PySem.W.fnOf "are_names" "are_names" (defArgs s_are_names) (defBody s_are_names) (defScope s_are_names) .none kV_are_names dc_are_names pm_are_names an_are_names cd_are_names ct_are_names), sl_are_names⟩)
    (c_are_names : PySem.W.codeIn K cd_are_names "are_names" = true)
    (k_are_names : PySem.W.keepIn K (.ref f_are_names) = true)
    (a_lot_of : PySem.W.nsIn K mainGlobals "lot_of" = some (some (.ref f_lot_of)))
    (l_lot_of : K.lookup f_lot_of = some ⟨oc_lot_of, od_lot_of, .func (PySem.W.fnOf "lot_of" "lot_of" (defArgs s_lot_of) (defBody s_lot_of) (defScope s_lot_of) .none kV_lot_of dc_lot_of pm_lot_of an_lot_of cd_lot_of ct_lot_of), sl_lot_of⟩)
    (c_lot_of : PySem.W.codeIn K cd_lot_of "lot_of" = true)
    (k_lot_of : PySem.W.keepIn K (.ref f_lot_of) = true)
    (a_bits_of : PySem.W.nsIn K mainGlobals "bits_of" = some (some (.ref f_bits_of)))
    (l_bits_of : K.lookup f_bits_of = some ⟨oc_bits_of, od_bits_of, .func (PySem.W.fnOf "bits_of" "bits_of" (defArgs s_bits_of) (defBody s_bits_of) (defScope s_bits_of) .none kV_bits_of dc_bits_of pm_bits_of an_bits_of cd_bits_of ct_bits_of), sl_bits_of⟩)
    (c_bits_of : PySem.W.codeIn K cd_bits_of "bits_of" = true)
    (k_bits_of : PySem.W.keepIn K (.ref f_bits_of) = true)
    (a_names_of : PySem.W.nsIn K mainGlobals "names_of" = some (some (.ref f_names_of)))
    (l_names_of : K.lookup f_names_of = some ⟨oc_names_of, od_names_of, .func (PySem.W.fnOf "names_of" "names_of" (defArgs s_names_of) (defBody s_names_of) (defScope s_names_of) .none kV_names_of dc_names_of pm_names_of an_names_of cd_names_of ct_names_of), sl_names_of⟩)
    (c_names_of : PySem.W.codeIn K cd_names_of "names_of" = true)
    (k_names_of : PySem.W.keepIn K (.ref f_names_of) = true)
    (a_may : PySem.W.nsIn K mainGlobals "may" = some (some (.ref f_may)))
    (l_may : K.lookup f_may = some ⟨oc_may, od_may, .func (PySem.W.fnOf "may" "may" (defArgs s_may) (defBody s_may) (defScope s_may) .none kV_may dc_may pm_may an_may cd_may ct_may), sl_may⟩)
    (c_may : PySem.W.codeIn K cd_may "may" = true)
    (k_may : PySem.W.keepIn K (.ref f_may) = true)
    (a_is_fulfilled : PySem.W.nsIn K mainGlobals "is_fulfilled" = some (some (.ref f_is_fulfilled)))
    (l_is_fulfilled : K.lookup f_is_fulfilled = some ⟨oc_is_fulfilled, od_is_fulfilled, .func (PySem.W.fnOf "is_fulfilled" "is_fulfilled" (defArgs s_is_fulfilled) (defBody s_is_fulfilled) (defScope s_is_fulfilled) .none kV_is_fulfilled dc_is_fulfilled pm_is_fulfilled an_is_fulfilled cd_is_fulfilled ct_is_fulfilled), sl_is_fulfilled⟩)
    (c_is_fulfilled : PySem.W.codeIn K cd_is_fulfilled "is_fulfilled" = true)
    (k_is_fulfilled : PySem.W.keepIn K (.ref f_is_fulfilled) = true)
    (a_lots_after : PySem.W.nsIn K mainGlobals "lots_after" = some (some (.ref f_lots_after)))
    (l_lots_after : K.lookup f_lots_after = some ⟨oc_lots_after, od_lots_after, .func (PySem.W.fnOf "lots_after" "lots_after" (defArgs s_lots_after) (defBody s_lots_after) (defScope s_lots_after) .none kV_lots_after dc_lots_after pm_lots_after an_lots_after cd_lots_after ct_lots_after), sl_lots_after⟩)
    (c_lots_after : PySem.W.codeIn K cd_lots_after "lots_after" = true)
    (k_lots_after : PySem.W.keepIn K (.ref f_lots_after) = true)
    (a_is_order : PySem.W.nsIn K mainGlobals "is_order" = some (some (.ref f_is_order)))
    (l_is_order : K.lookup f_is_order = some ⟨oc_is_order, od_is_order, .func (PySem.W.fnOf "is_order" "is_order" (defArgs s_is_order) (defBody s_is_order) (defScope s_is_order) .none kV_is_order dc_is_order pm_is_order an_is_order cd_is_order ct_is_order), sl_is_order⟩)
    (c_is_order : PySem.W.codeIn K cd_is_order "is_order" = true)
    (k_is_order : PySem.W.keepIn K (.ref f_is_order) = true)
    (a_wrong_at : PySem.W.nsIn K mainGlobals "wrong_at" = some (some (.ref f_wrong_at)))
    (l_wrong_at : K.lookup f_wrong_at = some ⟨oc_wrong_at, od_wrong_at, .func (PySem.W.fnOf "wrong_at" "wrong_at" (defArgs s_wrong_at) (defBody s_wrong_at) (defScope s_wrong_at) .none kV_wrong_at dc_wrong_at pm_wrong_at an_wrong_at cd_wrong_at ct_wrong_at), sl_wrong_at⟩)
    (c_wrong_at : PySem.W.codeIn K cd_wrong_at "wrong_at" = true)
    (k_wrong_at : PySem.W.keepIn K (.ref f_wrong_at) = true)
    (a_check_order : PySem.W.nsIn K mainGlobals "check_order" = some (some (.ref f_check_order)))
    (l_check_order : K.lookup f_check_order = some ⟨oc_check_order, od_check_order, .func (PySem.W.fnOf "check_order" "check_order" (defArgs s_check_order) (defBody s_check_order) (defScope s_check_order) .none kV_check_order dc_check_order pm_check_order an_check_order cd_check_order ct_check_order), sl_check_order⟩)
    (c_check_order : PySem.W.codeIn K cd_check_order "check_order" = true)
    (k_check_order : PySem.W.keepIn K (.ref f_check_order) = true)
    (a_many : PySem.W.nsIn K mainGlobals "many" = some (some (.ref f_many)))
    (l_many : K.lookup f_many = some ⟨oc_many, od_many, .func (PySem.W.fnOf "many" "many" (defArgs s_many) (defBody s_many) (defScope s_many) .none kV_many dc_many pm_many an_many cd_many ct_many), sl_many⟩)
    (c_many : PySem.W.codeIn K cd_many "many" = true)
    (k_many : PySem.W.keepIn K (.ref f_many) = true)
    (a_orders_on : PySem.W.nsIn K mainGlobals "orders_on" = some (some (.ref f_orders_on)))
    (l_orders_on : K.lookup f_orders_on = some ⟨oc_orders_on, od_orders_on, .func (PySem.W.fnOf "orders_on" "orders_on" (defArgs s_orders_on) (defBody s_orders_on) (defScope s_orders_on) .none kV_orders_on dc_orders_on pm_orders_on an_orders_on cd_orders_on ct_orders_on), sl_orders_on⟩)
    (c_orders_on : PySem.W.codeIn K cd_orders_on "orders_on" = true)
    (k_orders_on : PySem.W.keepIn K (.ref f_orders_on) = true)
    (a_order_at : PySem.W.nsIn K mainGlobals "order_at" = some (some (.ref f_order_at)))
    (l_order_at : K.lookup f_order_at = some ⟨oc_order_at, od_order_at, .func (PySem.W.fnOf "order_at" "order_at" (defArgs s_order_at) (defBody s_order_at) (defScope s_order_at) .none kV_order_at dc_order_at pm_order_at an_order_at cd_order_at ct_order_at), sl_order_at⟩)
    (c_order_at : PySem.W.codeIn K cd_order_at "order_at" = true)
    (k_order_at : PySem.W.keepIn K (.ref f_order_at) = true)
    (a_lot_at : PySem.W.nsIn K mainGlobals "lot_at" = some (some (.ref f_lot_at)))
    (l_lot_at : K.lookup f_lot_at = some ⟨oc_lot_at, od_lot_at, .func (PySem.W.fnOf "lot_at" "lot_at" (defArgs s_lot_at) (defBody s_lot_at) (defScope s_lot_at) .none kV_lot_at dc_lot_at pm_lot_at an_lot_at cd_lot_at ct_lot_at), sl_lot_at⟩)
    (c_lot_at : PySem.W.codeIn K cd_lot_at "lot_at" = true)
    (k_lot_at : PySem.W.keepIn K (.ref f_lot_at) = true)
    (a_number_of : PySem.W.nsIn K mainGlobals "number_of" = some (some (.ref f_number_of)))
    (l_number_of : K.lookup f_number_of = some ⟨oc_number_of, od_number_of, .func (PySem.W.fnOf "number_of" "number_of" (defArgs s_number_of) (defBody s_number_of) (defScope s_number_of) .none kV_number_of dc_number_of pm_number_of an_number_of cd_number_of ct_number_of), sl_number_of⟩)
    (c_number_of : PySem.W.codeIn K cd_number_of "number_of" = true)
    (k_number_of : PySem.W.keepIn K (.ref f_number_of) = true)
    (a_Trial_init : PySem.W.findIn K (.ref C_Trial) "__init__" = some (some (.ref f_Trial_init)))
    (i_Trial_init : PySem.W.isFn K (.ref f_Trial_init) = true)
    (l_Trial_init : K.lookup f_Trial_init = some ⟨oc_Trial_init, od_Trial_init, .func (PySem.W.fnOf "__init__" "Trial.__init__" (defArgs s_Trial_init) (defBody s_Trial_init) (defScope s_Trial_init) .none kV_Trial_init dc_Trial_init pm_Trial_init an_Trial_init cd_Trial_init ct_Trial_init), sl_Trial_init⟩)
    (c_Trial_init : PySem.W.codeIn K cd_Trial_init "Trial.__init__" = true)
    (k_Trial_init : PySem.W.keepIn K (.ref f_Trial_init) = true)
    (a_Trial_enter : PySem.W.findIn K (.ref C_Trial) "__enter__" = some (some (.ref f_Trial_enter)))
    (i_Trial_enter : PySem.W.isFn K (.ref f_Trial_enter) = true)
    (l_Trial_enter : K.lookup f_Trial_enter = some ⟨oc_Trial_enter, od_Trial_enter, .func (PySem.W.fnOf "__enter__" "Trial.__enter__" (defArgs s_Trial_enter) (defBody s_Trial_enter) (defScope s_Trial_enter) .none kV_Trial_enter dc_Trial_enter pm_Trial_enter an_Trial_enter cd_Trial_enter ct_Trial_enter), sl_Trial_enter⟩)
    (c_Trial_enter : PySem.W.codeIn K cd_Trial_enter "Trial.__enter__" = true)
    (k_Trial_enter : PySem.W.keepIn K (.ref f_Trial_enter) = true)
    (a_Trial_exit : PySem.W.findIn K (.ref C_Trial) "__exit__" = some (some (.ref f_Trial_exit)))
    (i_Trial_exit : PySem.W.isFn K (.ref f_Trial_exit) = true)
    (l_Trial_exit : K.lookup f_Trial_exit = some ⟨oc_Trial_exit, od_Trial_exit, .func (PySem.W.fnOf "__exit__" "Trial.__exit__" (defArgs s_Trial_exit) (defBody s_Trial_exit) (defScope s_Trial_exit) .none kV_Trial_exit dc_Trial_exit pm_Trial_exit an_Trial_exit cd_Trial_exit ct_Trial_exit), sl_Trial_exit⟩)
    (c_Trial_exit : PySem.W.codeIn K cd_Trial_exit "Trial.__exit__" = true)
    (k_Trial_exit : PySem.W.keepIn K (.ref f_Trial_exit) = true)
    (a_Led_init : PySem.W.findIn K (.ref C_Led) "__init__" = some (some (.ref f_Led_init)))
    (i_Led_init : PySem.W.isFn K (.ref f_Led_init) = true)
    (l_Led_init : K.lookup f_Led_init = some ⟨oc_Led_init, od_Led_init, .func (PySem.W.fnOf "__init__" "Led.__init__" (defArgs s_Led_init) (defBody s_Led_init) (defScope s_Led_init) .none kV_Led_init dc_Led_init pm_Led_init an_Led_init cd_Led_init ct_Led_init), sl_Led_init⟩)
    (c_Led_init : PySem.W.codeIn K cd_Led_init "Led.__init__" = true)
    (k_Led_init : PySem.W.keepIn K (.ref f_Led_init) = true)
    (a_Led_stand : PySem.W.findIn K (.ref C_Led) "stand" = some (some (.ref f_Led_stand)))
    (i_Led_stand : PySem.W.isFn K (.ref f_Led_stand) = true)
    (l_Led_stand : K.lookup f_Led_stand = some ⟨oc_Led_stand, od_Led_stand, .func (PySem.W.fnOf "stand" "Led.stand" (defArgs s_Led_stand) (defBody s_Led_stand) (defScope s_Led_stand) .none kV_Led_stand dc_Led_stand pm_Led_stand an_Led_stand cd_Led_stand ct_Led_stand), sl_Led_stand⟩)
    (c_Led_stand : PySem.W.codeIn K cd_Led_stand "Led.stand" = true)
    (k_Led_stand : PySem.W.keepIn K (.ref f_Led_stand) = true)
    (a_Led_change : PySem.W.findIn K (.ref C_Led) "change" = some (some (.ref f_Led_change)))
    (i_Led_change : PySem.W.isFn K (.ref f_Led_change) = true)
    (l_Led_change : K.lookup f_Led_change = some ⟨oc_Led_change, od_Led_change, .func (PySem.W.fnOf "change" "Led.change" (defArgs s_Led_change) (defBody s_Led_change) (defScope s_Led_change) .none kV_Led_change dc_Led_change pm_Led_change an_Led_change cd_Led_change ct_Led_change), sl_Led_change⟩)
    (c_Led_change : PySem.W.codeIn K cd_Led_change "Led.change" = true)
    (k_Led_change : PySem.W.keepIn K (.ref f_Led_change) = true)
    (a_Led_leave : PySem.W.findIn K (.ref C_Led) "leave" = some (some (.ref f_Led_leave)))
    (i_Led_leave : PySem.W.isFn K (.ref f_Led_leave) = true)
    (l_Led_leave : K.lookup f_Led_leave = some ⟨oc_Led_leave, od_Led_leave, .func (PySem.W.fnOf "leave" "Led.leave" (defArgs s_Led_leave) (defBody s_Led_leave) (defScope s_Led_leave) .none kV_Led_leave dc_Led_leave pm_Led_leave an_Led_leave cd_Led_leave ct_Led_leave), sl_Led_leave⟩)
    (c_Led_leave : PySem.W.codeIn K cd_Led_leave "Led.leave" = true)
    (k_Led_leave : PySem.W.keepIn K (.ref f_Led_leave) = true)
    (a_Led_several : PySem.W.findIn K (.ref C_Led) "several" = some (some (.ref f_Led_several)))
    (i_Led_several : PySem.W.isFn K (.ref f_Led_several) = true)
    (l_Led_several : K.lookup f_Led_several = some ⟨oc_Led_several, od_Led_several, .func (PySem.W.fnOf "several" "Led.several" (defArgs s_Led_several) (defBody s_Led_several) (defScope s_Led_several) .none kV_Led_several dc_Led_several pm_Led_several an_Led_several cd_Led_several ct_Led_several), sl_Led_several⟩)
    (c_Led_several : PySem.W.codeIn K cd_Led_several "Led.several" = true)
    (k_Led_several : PySem.W.keepIn K (.ref f_Led_several) = true)
    (a_Led_follow : PySem.W.findIn K (.ref C_Led) "follow" = some (some (.ref f_Led_follow)))
    (i_Led_follow : PySem.W.isFn K (.ref f_Led_follow) = true)
    (l_Led_follow : K.lookup f_Led_follow = some ⟨oc_Led_follow, od_Led_follow, .func (PySem.W.fnOf "follow" "Led.follow" (defArgs s_Led_follow) (defBody s_Led_follow) (defScope s_Led_follow) .none kV_Led_follow dc_Led_follow pm_Led_follow an_Led_follow cd_Led_follow ct_Led_follow), sl_Led_follow⟩)
    (c_Led_follow : PySem.W.codeIn K cd_Led_follow "Led.follow" = true)
    (k_Led_follow : PySem.W.keepIn K (.ref f_Led_follow) = true)
    (a_Led_undo : PySem.W.findIn K (.ref C_Led) "undo" = some (some (.ref f_Led_undo)))
    (i_Led_undo : PySem.W.isFn K (.ref f_Led_undo) = true)
    (l_Led_undo : K.lookup f_Led_undo = some ⟨oc_Led_undo, od_Led_undo, .func (PySem.W.fnOf "undo" "Led.undo" (defArgs s_Led_undo) (defBody s_Led_undo) (defScope s_Led_undo) .none kV_Led_undo dc_Led_undo pm_Led_undo an_Led_undo cd_Led_undo ct_Led_undo), sl_Led_undo⟩)
    (c_Led_undo : PySem.W.codeIn K cd_Led_undo "Led.undo" = true)
    (k_Led_undo : PySem.W.keepIn K (.ref f_Led_undo) = true)
    (a_Led_trial : PySem.W.findIn K (.ref C_Led) "trial" = some (some (.ref f_Led_trial)))
    (i_Led_trial : PySem.W.isFn K (.ref f_Led_trial) = true)
    (l_Led_trial : K.lookup f_Led_trial = some ⟨oc_Led_trial, od_Led_trial, .func (PySem.W.fnOf "trial" "Led.trial" (defArgs s_Led_trial) (defBody s_Led_trial) (defScope s_Led_trial) .none kV_Led_trial dc_Led_trial pm_Led_trial an_Led_trial cd_Led_trial ct_Led_trial), sl_Led_trial⟩)
    (c_Led_trial : PySem.W.codeIn K cd_Led_trial "Led.trial" = true)
    (k_Led_trial : PySem.W.keepIn K (.ref f_Led_trial) = true)
    (a_Led_within : PySem.W.findIn K (.ref C_Led) "within" = some (some (.ref f_Led_within)))
    (i_Led_within : PySem.W.isFn K (.ref f_Led_within) = true)
    (l_Led_within : K.lookup f_Led_within = some ⟨oc_Led_within, od_Led_within, .func (PySem.W.fnOf "within" "Led.within" (defArgs s_Led_within) (defBody s_Led_within) (defScope s_Led_within) .none kV_Led_within dc_Led_within pm_Led_within an_Led_within cd_Led_within ct_Led_within), sl_Led_within⟩)
    (c_Led_within : PySem.W.codeIn K cd_Led_within "Led.within" = true)
    (k_Led_within : PySem.W.keepIn K (.ref f_Led_within) = true)
    (a_Led_len : PySem.W.findIn K (.ref C_Led) "__len__" = some (some (.ref f_Led_len)))
    (i_Led_len : PySem.W.isFn K (.ref f_Led_len) = true)
    (l_Led_len : K.lookup f_Led_len = some ⟨oc_Led_len, od_Led_len, .func (PySem.W.fnOf "__len__" "Led.__len__" (defArgs s_Led_len) (defBody s_Led_len) (defScope s_Led_len) .none kV_Led_len dc_Led_len pm_Led_len an_Led_len cd_Led_len ct_Led_len), sl_Led_len⟩)
    (c_Led_len : PySem.W.codeIn K cd_Led_len "Led.__len__" = true)
    (k_Led_len : PySem.W.keepIn K (.ref f_Led_len) = true)
    (a_counts_in : PySem.W.nsIn K mainGlobals "counts_in" = some (some (.ref f_counts_in)))
    (l_counts_in : K.lookup f_counts_in = some ⟨oc_counts_in, od_counts_in, .func (PySem.W.fnOf "counts_in" "counts_in" (defArgs s_counts_in) (defBody s_counts_in) (defScope s_counts_in) .none kV_counts_in dc_counts_in pm_counts_in an_counts_in cd_counts_in ct_counts_in), sl_counts_in⟩)
    (c_counts_in : PySem.W.codeIn K cd_counts_in "counts_in" = true)
    (k_counts_in : PySem.W.keepIn K (.ref f_counts_in) = true)
    (a_Rule_init : PySem.W.findIn K (.ref C_Rule) "__init__" = some (some (.ref f_Rule_init)))
    (i_Rule_init : PySem.W.isFn K (.ref f_Rule_init) = true)
    (l_Rule_init : K.lookup f_Rule_init = some ⟨oc_Rule_init, od_Rule_init, .func (PySem.W.fnOf "__init__" "Rule.__init__" (defArgs s_Rule_init) (defBody s_Rule_init) (defScope s_Rule_init) (.ref T_Rule_init) kV_Rule_init dc_Rule_init pm_Rule_init an_Rule_init cd_Rule_init ct_Rule_init), sl_Rule_init⟩)
    (lT_Rule_init : K.lookup T_Rule_init = some ⟨oT_Rule_init, dT_Rule_init, .seq #[.ref e_Rule_init] nT_Rule_init, sT_Rule_init⟩)
    (lE_Rule_init : K.lookup e_Rule_init = some ⟨.type "tuple", dE_Rule_init, .seq #[] nE_Rule_init, sE_Rule_init⟩)
    (c_Rule_init : PySem.W.codeIn K cd_Rule_init "Rule.__init__" = true)
    (k_Rule_init : PySem.W.keepIn K (.ref f_Rule_init) = true)
    (a_Rule_eq : PySem.W.findIn K (.ref C_Rule) "__eq__" = some (some (.ref f_Rule_eq)))
    (i_Rule_eq : PySem.W.isFn K (.ref f_Rule_eq) = true)
    (l_Rule_eq : K.lookup f_Rule_eq = some ⟨oc_Rule_eq, od_Rule_eq, .func (PySem.W.fnOf "__eq__" "Rule.__eq__" (defArgs s_Rule_eq) (defBody s_Rule_eq) (defScope s_Rule_eq) .none kV_Rule_eq dc_Rule_eq pm_Rule_eq an_Rule_eq cd_Rule_eq ct_Rule_eq), sl_Rule_eq⟩)
    (c_Rule_eq : PySem.W.codeIn K cd_Rule_eq "Rule.__eq__" = true)
    (k_Rule_eq : PySem.W.keepIn K (.ref f_Rule_eq) = true)
    (a_Rule_str : PySem.W.findIn K (.ref C_Rule) "__str__" = some (some (.ref f_Rule_str)))
    (i_Rule_str : PySem.W.isFn K (.ref f_Rule_str) = true)
    (l_Rule_str : K.lookup f_Rule_str = some ⟨oc_Rule_str, od_Rule_str, .func (PySem.W.fnOf "__str__" "Rule.__str__" (defArgs s_Rule_str) (defBody s_Rule_str) (defScope s_Rule_str) .none kV_Rule_str dc_Rule_str pm_Rule_str an_Rule_str cd_Rule_str ct_Rule_str), sl_Rule_str⟩)
    (c_Rule_str : PySem.W.codeIn K cd_Rule_str "Rule.__str__" = true)
    (k_Rule_str : PySem.W.keepIn K (.ref f_Rule_str) = true)
    (a_Room_init : PySem.W.findIn K (.ref C_Room) "__init__" = some (some (.ref f_Room_init)))
    (i_Room_init : PySem.W.isFn K (.ref f_Room_init) = true)
    (l_Room_init : K.lookup f_Room_init = some ⟨oc_Room_init, od_Room_init, .func (PySem.W.fnOf "__init__" "Room.__init__" (defArgs s_Room_init) (defBody s_Room_init) (defScope s_Room_init) (.ref T_Room_init) kV_Room_init dc_Room_init pm_Room_init an_Room_init cd_Room_init ct_Room_init), sl_Room_init⟩)
    (lT_Room_init : K.lookup T_Room_init = some ⟨oT_Room_init, dT_Room_init, .seq #[.ref e_Room_init] nT_Room_init, sT_Room_init⟩)
    (lE_Room_init : K.lookup e_Room_init = some ⟨.type "tuple", dE_Room_init, .seq #[] nE_Room_init, sE_Room_init⟩)
    (c_Room_init : PySem.W.codeIn K cd_Room_init "Room.__init__" = true)
    (k_Room_init : PySem.W.keepIn K (.ref f_Room_init) = true)
    (a_Room_without : PySem.W.findIn K (.ref C_Room) "without" = some (some (.ref f_Room_without)))
    (i_Room_without : PySem.W.isFn K (.ref f_Room_without) = true)
    (l_Room_without : K.lookup f_Room_without = some ⟨oc_Room_without, od_Room_without, .func (PySem.W.fnOf "without" "Room.without" (defArgs s_Room_without) (defBody s_Room_without) (defScope s_Room_without) .none kV_Room_without dc_Room_without pm_Room_without an_Room_without cd_Room_without ct_Room_without), sl_Room_without⟩)
    (c_Room_without : PySem.W.codeIn K cd_Room_without "Room.without" = true)
    (k_Room_without : PySem.W.keepIn K (.ref f_Room_without) = true)
    (a_Room_len : PySem.W.findIn K (.ref C_Room) "__len__" = some (some (.ref f_Room_len)))
    (i_Room_len : PySem.W.isFn K (.ref f_Room_len) = true)
    (l_Room_len : K.lookup f_Room_len = some ⟨oc_Room_len, od_Room_len, .func (PySem.W.fnOf "__len__" "Room.__len__" (defArgs s_Room_len) (defBody s_Room_len) (defScope s_Room_len) .none kV_Room_len dc_Room_len pm_Room_len an_Room_len cd_Room_len ct_Room_len), sl_Room_len⟩)
    (c_Room_len : PySem.W.codeIn K cd_Room_len "Room.__len__" = true)
    (k_Room_len : PySem.W.keepIn K (.ref f_Room_len) = true)
    (a_Room_getitem : PySem.W.findIn K (.ref C_Room) "__getitem__" = some (some (.ref f_Room_getitem)))
    (i_Room_getitem : PySem.W.isFn K (.ref f_Room_getitem) = true)
    (l_Room_getitem : K.lookup f_Room_getitem = some ⟨oc_Room_getitem, od_Room_getitem, .func (PySem.W.fnOf "__getitem__" "Room.__getitem__" (defArgs s_Room_getitem) (defBody s_Room_getitem) (defScope s_Room_getitem) .none kV_Room_getitem dc_Room_getitem pm_Room_getitem an_Room_getitem cd_Room_getitem ct_Room_getitem), sl_Room_getitem⟩)
    (c_Room_getitem : PySem.W.codeIn K cd_Room_getitem "Room.__getitem__" = true)
    (k_Room_getitem : PySem.W.keepIn K (.ref f_Room_getitem) = true)
    (a_Room_add : PySem.W.findIn K (.ref C_Room) "__add__" = some (some (.ref f_Room_add)))
    (i_Room_add : PySem.W.isFn K (.ref f_Room_add) = true)
    (l_Room_add : K.lookup f_Room_add = some ⟨oc_Room_add, od_Room_add, .func (PySem.W.fnOf "__add__" "Room.__add__" (defArgs s_Room_add) (defBody s_Room_add) (defScope s_Room_add) .none kV_Room_add dc_Room_add pm_Room_add an_Room_add cd_Room_add ct_Room_add), sl_Room_add⟩)
    (c_Room_add : PySem.W.codeIn K cd_Room_add "Room.__add__" = true)
    (k_Room_add : PySem.W.keepIn K (.ref f_Room_add) = true)
    (a_Room_eq : PySem.W.findIn K (.ref C_Room) "__eq__" = some (some (.ref f_Room_eq)))
    (i_Room_eq : PySem.W.isFn K (.ref f_Room_eq) = true)
    (l_Room_eq : K.lookup f_Room_eq = some ⟨oc_Room_eq, od_Room_eq, .func (PySem.W.fnOf "__eq__" "Room.__eq__" (defArgs s_Room_eq) (defBody s_Room_eq) (defScope s_Room_eq) .none kV_Room_eq dc_Room_eq pm_Room_eq an_Room_eq cd_Room_eq ct_Room_eq), sl_Room_eq⟩)
    (c_Room_eq : PySem.W.codeIn K cd_Room_eq "Room.__eq__" = true)
    (k_Room_eq : PySem.W.keepIn K (.ref f_Room_eq) = true)
    (a_Room_str : PySem.W.findIn K (.ref C_Room) "__str__" = some (some (.ref f_Room_str)))
    (i_Room_str : PySem.W.isFn K (.ref f_Room_str) = true)
    (l_Room_str : K.lookup f_Room_str = some ⟨oc_Room_str, od_Room_str, .func (PySem.W.fnOf "__str__" "Room.__str__" (defArgs s_Room_str) (defBody s_Room_str) (defScope s_Room_str) .none kV_Room_str dc_Room_str pm_Room_str an_Room_str cd_Room_str ct_Room_str), sl_Room_str⟩)
    (c_Room_str : PySem.W.codeIn K cd_Room_str "Room.__str__" = true)
    (k_Room_str : PySem.W.keepIn K (.ref f_Room_str) = true)
    (a_lw_box : PySem.W.nsIn K mainGlobals "_law_box" = some (some (.ref f_lw_box)))
    (l_lw_box : K.lookup f_lw_box = some ⟨oc_lw_box, od_lw_box, .func (PySem.W.fnOf "_law_box" "_law_box" (defArgs s_lw_box) (defBody s_lw_box) (defScope s_lw_box) .none kV_lw_box dc_lw_box pm_lw_box an_lw_box cd_lw_box ct_lw_box), sl_lw_box⟩)
    (c_lw_box : PySem.W.codeIn K cd_lw_box "_law_box" = true)
    (k_lw_box : PySem.W.keepIn K (.ref f_lw_box) = true)
    (a_lw_take : PySem.W.nsIn K mainGlobals "_law_take" = some (some (.ref f_lw_take)))
    (l_lw_take : K.lookup f_lw_take = some ⟨oc_lw_take, od_lw_take, .func (PySem.W.fnOf "_law_take" "_law_take" (defArgs s_lw_take) (defBody s_lw_take) (defScope s_lw_take) .none kV_lw_take dc_lw_take pm_lw_take an_lw_take cd_lw_take ct_lw_take), sl_lw_take⟩)
    (c_lw_take : PySem.W.codeIn K cd_lw_take "_law_take" = true)
    (k_lw_take : PySem.W.keepIn K (.ref f_lw_take) = true)
    (a_lw_mixed : PySem.W.nsIn K mainGlobals "_law_mixed" = some (some (.ref f_lw_mixed)))
    (l_lw_mixed : K.lookup f_lw_mixed = some ⟨oc_lw_mixed, od_lw_mixed, .func (PySem.W.fnOf "_law_mixed" "_law_mixed" (defArgs s_lw_mixed) (defBody s_lw_mixed) (defScope s_lw_mixed) .none kV_lw_mixed dc_lw_mixed pm_lw_mixed an_lw_mixed cd_lw_mixed ct_lw_mixed), sl_lw_mixed⟩)
    (c_lw_mixed : PySem.W.codeIn K cd_lw_mixed "_law_mixed" = true)
    (k_lw_mixed : PySem.W.keepIn K (.ref f_lw_mixed) = true)
    (a_lw_names : PySem.W.nsIn K mainGlobals "_law_names" = some (some (.ref f_lw_names)))
    (l_lw_names : K.lookup f_lw_names = some ⟨oc_lw_names, od_lw_names, .func (PySem.W.fnOf "_law_names" "_law_names" (defArgs s_lw_names) (defBody s_lw_names) (defScope s_lw_names) .none kV_lw_names dc_lw_names pm_lw_names an_lw_names cd_lw_names ct_lw_names), sl_lw_names⟩)
    (c_lw_names : PySem.W.codeIn K cd_lw_names "_law_names" = true)
    (k_lw_names : PySem.W.keepIn K (.ref f_lw_names) = true)
    (a_lw_rules : PySem.W.nsIn K mainGlobals "_law_rules" = some (some (.ref f_lw_rules)))
    (l_lw_rules : K.lookup f_lw_rules = some ⟨oc_lw_rules, od_lw_rules, .func (PySem.W.fnOf "_law_rules" "_law_rules" (defArgs s_lw_rules) (defBody s_lw_rules) (defScope s_lw_rules) .none kV_lw_rules dc_lw_rules pm_lw_rules an_lw_rules cd_lw_rules ct_lw_rules), sl_lw_rules⟩)
    (c_lw_rules : PySem.W.codeIn K cd_lw_rules "_law_rules" = true)
    (k_lw_rules : PySem.W.keepIn K (.ref f_lw_rules) = true)
    (a_lw_made : PySem.W.nsIn K mainGlobals "_law_made" = some (some (.ref f_lw_made)))
    (l_lw_made : K.lookup f_lw_made = some ⟨oc_lw_made, od_lw_made, .func (PySem.W.fnOf "_law_made" "_law_made" (defArgs s_lw_made) (defBody s_lw_made) (defScope s_lw_made) .none kV_lw_made dc_lw_made pm_lw_made an_lw_made cd_lw_made ct_lw_made), sl_lw_made⟩)
    (c_lw_made : PySem.W.codeIn K cd_lw_made "_law_made" = true)
    (k_lw_made : PySem.W.keepIn K (.ref f_lw_made) = true)
    (a_lw_main : PySem.W.nsIn K mainGlobals "law" = some (some (.ref f_lw_main)))
    (l_lw_main : K.lookup f_lw_main = some ⟨oc_lw_main, od_lw_main, .func (PySem.W.fnOf "law" "law" (defArgs s_lw_main) (defBody s_lw_main) (defScope s_lw_main) .none kV_lw_main dc_lw_main pm_lw_main an_lw_main cd_lw_main ct_lw_main), sl_lw_main⟩)
    (c_lw_main : PySem.W.codeIn K cd_lw_main "law" = true)
    (k_lw_main : PySem.W.keepIn K (.ref f_lw_main) = true)
    (sn_Trial_Rule : PySem.W.subIn K (.ref C_Trial) (.ref C_Rule) = some false)
    (sn_Led_Rule : PySem.W.subIn K (.ref C_Led) (.ref C_Rule) = some false)
    (sn_Room_Rule : PySem.W.subIn K (.ref C_Room) (.ref C_Rule) = some false)
    (n_abs : PySem.W.nsIn K mainGlobals "abs" = some none)
    (n_all : PySem.W.nsIn K mainGlobals "all" = some none)
    (n_bool : PySem.W.nsIn K mainGlobals "bool" = some none)
    (n_enumerate : PySem.W.nsIn K mainGlobals "enumerate" = some none)
    (n_int : PySem.W.nsIn K mainGlobals "int" = some none)
    (n_isinstance : PySem.W.nsIn K mainGlobals "isinstance" = some none)
    (n_len : PySem.W.nsIn K mainGlobals "len" = some none)
    (n_list : PySem.W.nsIn K mainGlobals "list" = some none)
    (n_max : PySem.W.nsIn K mainGlobals "max" = some none)
    (n_min : PySem.W.nsIn K mainGlobals "min" = some none)
    (n_range : PySem.W.nsIn K mainGlobals "range" = some none)
    (n_reversed : PySem.W.nsIn K mainGlobals "reversed" = some none)
    (n_set : PySem.W.nsIn K mainGlobals "set" = some none)
    (n_sorted : PySem.W.nsIn K mainGlobals "sorted" = some none)
    (n_str : PySem.W.nsIn K mainGlobals "str" = some none)
    (n_sum : PySem.W.nsIn K mainGlobals "sum" = some none)
    (n_tuple : PySem.W.nsIn K mainGlobals "tuple" = some none)
    (m_LETTERS : PySem.W.nsIn K mainGlobals "LETTERS" = some (some (.str "abcdefghijklmnopqrstuvwxyz" tk_LETTERS)))
    (hcd_lw_main : cd_lw_main = .ref cA_lw_main) (hPt_lw_main : h.get? PA_lw_main = some { cls := .none, data := .fields #[] }) (hCH_lw_main : PySem.W.codeHdIn K cA_lw_main PA_lw_main = true) (hPA_lw_main : K.lookup PA_lw_main = none)
    : ∃ (fd : FuncData) (Z : Wd) (cs : List (Addr × Addr)) (qs : List Str), Z.K = K ∧ cs.length = qs.length ∧ (∀ p ∈ cs, h.get? p.2 = some { cls := .none, data := .fields #[] }) ∧ (∀ p ∈ cs, K.lookup p.2 = none) ∧ (∀ p ∈ cs, PySem.W.codeHdIn K p.1 p.2 = true) ∧ (∀ (s : Shared) (v : Value), BindsTo s fd ⟨[v], []⟩ [("_law_script", v)]) ∧
      ∀ base : Heap, K.In base → base.Ns mainGlobals mg → (∀ p ∈ cs, LamX.TabB base mg p.1 p.2) → FnOk l.prog w K mg base CX0 9 fa fd ["_law_script"] (GL.spLawT Z ((cs.map (·.2)).zip qs)) := by
  obtain ⟨a, rfl, T, hb, hq_lw_main⟩ := all_mk (l := l) (w := w) X G hfa aC_Trial pg_Trial hd_Trial po_Trial sa_Trial mk_Trial kc_Trial no_Trial_led no_Trial_room no_Trial_counts no_Trial_gone no_Trial_may no_Trial_left no_Trial_deeds ha_Trial hn_Trial htk_Trial hm_Trial aC_Led pg_Led hd_Led po_Led sa_Led mk_Led kc_Led no_Led_deeds no_Led_room no_Led_counts no_Led_gone no_Led_may no_Led_left ha_Led hn_Led htk_Led hm_Led aC_Rule pg_Rule hd_Rule po_Rule sa_Rule mk_Rule kc_Rule no_Rule_name no_Rule_gone ha_Rule hn_Rule htk_Rule hm_Rule nd_Rule sx_Rule aC_Room pg_Room hd_Room po_Room sa_Room mk_Room kc_Room no_Room_rules no_Room_names ha_Room hn_Room htk_Room hm_Room sb_NoneType_Room sb_bool_Room sb_int_Room sb_str_Room sb_list_Room sb_tuple_Room so_Trial_Room so_Trial_Trial so_Led_Room so_Led_Led so_Rule_Room so_Room_Room sb_NoneType_Rule sb_bool_Rule sb_int_Rule sb_str_Rule sb_list_Rule sb_tuple_Rule so_Trial_Rule so_Led_Rule so_Rule_Rule so_Room_Rule iL_Room tL_Room iL_Rule tL_Rule a_is_int l_is_int c_is_int k_is_int a_is_index l_is_index c_is_index k_is_index a_is_name l_is_name c_is_name k_is_name a_is_sequence l_is_sequence c_is_sequence k_is_sequence a_are_names l_are_names c_are_names k_are_names a_lot_of l_lot_of c_lot_of k_lot_of a_bits_of l_bits_of c_bits_of k_bits_of a_names_of l_names_of c_names_of k_names_of a_may l_may c_may k_may a_is_fulfilled l_is_fulfilled c_is_fulfilled k_is_fulfilled a_lots_after l_lots_after c_lots_after k_lots_after a_is_order l_is_order c_is_order k_is_order a_wrong_at l_wrong_at c_wrong_at k_wrong_at a_check_order l_check_order c_check_order k_check_order a_many l_many c_many k_many a_orders_on l_orders_on c_orders_on k_orders_on a_order_at l_order_at c_order_at k_order_at a_lot_at l_lot_at c_lot_at k_lot_at a_number_of l_number_of c_number_of k_number_of a_Trial_init i_Trial_init l_Trial_init c_Trial_init k_Trial_init a_Trial_enter i_Trial_enter l_Trial_enter c_Trial_enter k_Trial_enter a_Trial_exit i_Trial_exit l_Trial_exit c_Trial_exit k_Trial_exit a_Led_init i_Led_init l_Led_init c_Led_init k_Led_init a_Led_stand i_Led_stand l_Led_stand c_Led_stand k_Led_stand a_Led_change i_Led_change l_Led_change c_Led_change k_Led_change a_Led_leave i_Led_leave l_Led_leave c_Led_leave k_Led_leave a_Led_several i_Led_several l_Led_several c_Led_several k_Led_several a_Led_follow i_Led_follow l_Led_follow c_Led_follow k_Led_follow a_Led_undo i_Led_undo l_Led_undo c_Led_undo k_Led_undo a_Led_trial i_Led_trial l_Led_trial c_Led_trial k_Led_trial a_Led_within i_Led_within l_Led_within c_Led_within k_Led_within a_Led_len i_Led_len l_Led_len c_Led_len k_Led_len a_counts_in l_counts_in c_counts_in k_counts_in a_Rule_init i_Rule_init l_Rule_init lT_Rule_init lE_Rule_init c_Rule_init k_Rule_init a_Rule_eq i_Rule_eq l_Rule_eq c_Rule_eq k_Rule_eq a_Rule_str i_Rule_str l_Rule_str c_Rule_str k_Rule_str a_Room_init i_Room_init l_Room_init lT_Room_init lE_Room_init c_Room_init k_Room_init a_Room_without i_Room_without l_Room_without c_Room_without k_Room_without a_Room_len i_Room_len l_Room_len c_Room_len k_Room_len a_Room_getitem i_Room_getitem l_Room_getitem c_Room_getitem k_Room_getitem a_Room_add i_Room_add l_Room_add c_Room_add k_Room_add a_Room_eq i_Room_eq l_Room_eq c_Room_eq k_Room_eq a_Room_str i_Room_str l_Room_str c_Room_str k_Room_str a_lw_box l_lw_box c_lw_box k_lw_box a_lw_take l_lw_take c_lw_take k_lw_take a_lw_mixed l_lw_mixed c_lw_mixed k_lw_mixed a_lw_names l_lw_names c_lw_names k_lw_names a_lw_rules l_lw_rules c_lw_rules k_lw_rules a_lw_made l_lw_made c_lw_made k_lw_made a_lw_main l_lw_main c_lw_main k_lw_main sn_Trial_Rule sn_Led_Rule sn_Room_Rule n_abs n_all n_bool n_enumerate n_int n_isinstance n_len n_list n_max n_min n_range n_reversed n_set n_sorted n_str n_sum n_tuple m_LETTERS
  exact ⟨_, ZZ K a, [(cA_lw_main, PA_lw_main)], ["law.<locals>.<lambda>"], rfl, rfl, (List.forall_mem_cons.mpr ⟨hPt_lw_main, fun _ h => (nomatch h)⟩), (List.forall_mem_cons.mpr ⟨hPA_lw_main, fun _ h => (nomatch h)⟩), (List.forall_mem_cons.mpr ⟨hCH_lw_main, fun _ h => (nomatch h)⟩), hb, fun base _ _ TB => ok_main T (hq_lw_main.trans hcd_lw_main) (TB (cA_lw_main, PA_lw_main) (List.mem_cons_self))⟩
end GK
open PySem PySem.W PyProof.Rows in
set_option maxRecDepth 100000 in
set_option maxHeartbeats 0 in
theorem PySem.Challenge.cw_leavelots_k66_whole_led_rooms_holds : PySem.Challenge.rw_leavelots_k66_whole_led_rooms.Holds := by
  w_on; o_law; k_head; (case hw => w_witness2)
  k_fill
  refine GL.walkT (l := PySem.Challenge.rw_leavelots_k66_whole_led_rooms) (k := 9) rfl rfl ⟨rfl, by decide, by decide⟩ (fun w h Y => PySem.W.km_in_of Y) ?F
  case F =>
    intro w mg fa h Y KX G hmg
    have hT := PySem.W.km_tabs_of Y
    refine' GK.law_at (w := w) KX G hmg ?aC_Trial ?pg_Trial ?hd_Trial ?po_Trial ?sa_Trial ?mk_Trial ?kc_Trial ?no_Trial_led ?no_Trial_room ?no_Trial_counts ?no_Trial_gone ?no_Trial_may ?no_Trial_left ?no_Trial_deeds ?ha_Trial ?hn_Trial ?htk_Trial ?hm_Trial ?aC_Led ?pg_Led ?hd_Led ?po_Led ?sa_Led ?mk_Led ?kc_Led ?no_Led_deeds ?no_Led_room ?no_Led_counts ?no_Led_gone ?no_Led_may ?no_Led_left ?ha_Led ?hn_Led ?htk_Led ?hm_Led ?aC_Rule ?pg_Rule ?hd_Rule ?po_Rule ?sa_Rule ?mk_Rule ?kc_Rule ?no_Rule_name ?no_Rule_gone ?ha_Rule ?hn_Rule ?htk_Rule ?hm_Rule ?nd_Rule ?sx_Rule ?aC_Room ?pg_Room ?hd_Room ?po_Room ?sa_Room ?mk_Room ?kc_Room ?no_Room_rules ?no_Room_names ?ha_Room ?hn_Room ?htk_Room ?hm_Room ?sb_NoneType_Room ?sb_bool_Room ?sb_int_Room ?sb_str_Room ?sb_list_Room ?sb_tuple_Room ?so_Trial_Room ?so_Trial_Trial ?so_Led_Room ?so_Led_Led ?so_Rule_Room ?so_Room_Room ?sb_NoneType_Rule ?sb_bool_Rule ?sb_int_Rule ?sb_str_Rule ?sb_list_Rule ?sb_tuple_Rule ?so_Trial_Rule ?so_Led_Rule ?so_Rule_Rule ?so_Room_Rule ?iL_Room ?tL_Room ?iL_Rule ?tL_Rule ?a_is_int ?l_is_int ?c_is_int ?k_is_int ?a_is_index ?l_is_index ?c_is_index ?k_is_index ?a_is_name ?l_is_name ?c_is_name ?k_is_name ?a_is_sequence ?l_is_sequence ?c_is_sequence ?k_is_sequence ?a_are_names ?l_are_names ?c_are_names ?k_are_names ?a_lot_of ?l_lot_of ?c_lot_of ?k_lot_of ?a_bits_of ?l_bits_of ?c_bits_of ?k_bits_of ?a_names_of ?l_names_of ?c_names_of ?k_names_of ?a_may ?l_may ?c_may ?k_may ?a_is_fulfilled ?l_is_fulfilled ?c_is_fulfilled ?k_is_fulfilled ?a_lots_after ?l_lots_after ?c_lots_after ?k_lots_after ?a_is_order ?l_is_order ?c_is_order ?k_is_order ?a_wrong_at ?l_wrong_at ?c_wrong_at ?k_wrong_at ?a_check_order ?l_check_order ?c_check_order ?k_check_order ?a_many ?l_many ?c_many ?k_many ?a_orders_on ?l_orders_on ?c_orders_on ?k_orders_on ?a_order_at ?l_order_at ?c_order_at ?k_order_at ?a_lot_at ?l_lot_at ?c_lot_at ?k_lot_at ?a_number_of ?l_number_of ?c_number_of ?k_number_of ?a_Trial_init ?i_Trial_init ?l_Trial_init ?c_Trial_init ?k_Trial_init ?a_Trial_enter ?i_Trial_enter ?l_Trial_enter ?c_Trial_enter ?k_Trial_enter ?a_Trial_exit ?i_Trial_exit ?l_Trial_exit ?c_Trial_exit ?k_Trial_exit ?a_Led_init ?i_Led_init ?l_Led_init ?c_Led_init ?k_Led_init ?a_Led_stand ?i_Led_stand ?l_Led_stand ?c_Led_stand ?k_Led_stand ?a_Led_change ?i_Led_change ?l_Led_change ?c_Led_change ?k_Led_change ?a_Led_leave ?i_Led_leave ?l_Led_leave ?c_Led_leave ?k_Led_leave ?a_Led_several ?i_Led_several ?l_Led_several ?c_Led_several ?k_Led_several ?a_Led_follow ?i_Led_follow ?l_Led_follow ?c_Led_follow ?k_Led_follow ?a_Led_undo ?i_Led_undo ?l_Led_undo ?c_Led_undo ?k_Led_undo ?a_Led_trial ?i_Led_trial ?l_Led_trial ?c_Led_trial ?k_Led_trial ?a_Led_within ?i_Led_within ?l_Led_within ?c_Led_within ?k_Led_within ?a_Led_len ?i_Led_len ?l_Led_len ?c_Led_len ?k_Led_len ?a_counts_in ?l_counts_in ?c_counts_in ?k_counts_in ?a_Rule_init ?i_Rule_init ?l_Rule_init ?lT_Rule_init ?lE_Rule_init ?c_Rule_init ?k_Rule_init ?a_Rule_eq ?i_Rule_eq ?l_Rule_eq ?c_Rule_eq ?k_Rule_eq ?a_Rule_str ?i_Rule_str ?l_Rule_str ?c_Rule_str ?k_Rule_str ?a_Room_init ?i_Room_init ?l_Room_init ?lT_Room_init ?lE_Room_init ?c_Room_init ?k_Room_init ?a_Room_without ?i_Room_without ?l_Room_without ?c_Room_without ?k_Room_without ?a_Room_len ?i_Room_len ?l_Room_len ?c_Room_len ?k_Room_len ?a_Room_getitem ?i_Room_getitem ?l_Room_getitem ?c_Room_getitem ?k_Room_getitem ?a_Room_add ?i_Room_add ?l_Room_add ?c_Room_add ?k_Room_add ?a_Room_eq ?i_Room_eq ?l_Room_eq ?c_Room_eq ?k_Room_eq ?a_Room_str ?i_Room_str ?l_Room_str ?c_Room_str ?k_Room_str ?a_lw_box ?l_lw_box ?c_lw_box ?k_lw_box ?a_lw_take ?l_lw_take ?c_lw_take ?k_lw_take ?a_lw_mixed ?l_lw_mixed ?c_lw_mixed ?k_lw_mixed ?a_lw_names ?l_lw_names ?c_lw_names ?k_lw_names ?a_lw_rules ?l_lw_rules ?c_lw_rules ?k_lw_rules ?a_lw_made ?l_lw_made ?c_lw_made ?k_lw_made ?a_lw_main ?l_lw_main ?c_lw_main ?k_lw_main ?sn_Trial_Rule ?sn_Led_Rule ?sn_Room_Rule ?n_abs ?n_all ?n_bool ?n_enumerate ?n_int ?n_isinstance ?n_len ?n_list ?n_max ?n_min ?n_range ?n_reversed ?n_set ?n_sorted ?n_str ?n_sum ?n_tuple ?m_LETTERS ?hcd_lw_main ?hPt_lw_main ?hCH_lw_main ?hPA_lw_main
    (case aC_Trial => k_is)
    (case pg_Trial => k_is)
    (case hd_Trial => k_is)
    (case po_Trial => k_is)
    (case sa_Trial => k_is)
    (case mk_Trial => k_is)
    (case kc_Trial => k_is)
    (case no_Trial_led => k_is)
    (case no_Trial_room => k_is)
    (case no_Trial_counts => k_is)
    (case no_Trial_gone => k_is)
    (case no_Trial_may => k_is)
    (case no_Trial_left => k_is)
    (case no_Trial_deeds => k_is)
    (case ha_Trial => k_is)
    (case hn_Trial => k_is)
    (case htk_Trial => k_is)
    (case hm_Trial => k_is)
    (case aC_Led => k_is)
    (case pg_Led => k_is)
    (case hd_Led => k_is)
    (case po_Led => k_is)
    (case sa_Led => k_is)
    (case mk_Led => k_is)
    (case kc_Led => k_is)
    (case no_Led_deeds => k_is)
    (case no_Led_room => k_is)
    (case no_Led_counts => k_is)
    (case no_Led_gone => k_is)
    (case no_Led_may => k_is)
    (case no_Led_left => k_is)
    (case ha_Led => k_is)
    (case hn_Led => k_is)
    (case htk_Led => k_is)
    (case hm_Led => k_is)
    (case aC_Rule => k_is)
    (case pg_Rule => k_is)
    (case hd_Rule => k_is)
    (case po_Rule => k_is)
    (case sa_Rule => k_is)
    (case mk_Rule => k_is)
    (case kc_Rule => k_is)
    (case no_Rule_name => k_is)
    (case no_Rule_gone => k_is)
    (case ha_Rule => k_is)
    (case hn_Rule => k_is)
    (case htk_Rule => k_is)
    (case hm_Rule => k_is)
    (case nd_Rule => k_is)
    (case sx_Rule => k_is)
    (case aC_Room => k_is)
    (case pg_Room => k_is)
    (case hd_Room => k_is)
    (case po_Room => k_is)
    (case sa_Room => k_is)
    (case mk_Room => k_is)
    (case kc_Room => k_is)
    (case no_Room_rules => k_is)
    (case no_Room_names => k_is)
    (case ha_Room => k_is)
    (case hn_Room => k_is)
    (case htk_Room => k_is)
    (case hm_Room => k_is)
    (case sb_NoneType_Room => k_is)
    (case sb_bool_Room => k_is)
    (case sb_int_Room => k_is)
    (case sb_str_Room => k_is)
    (case sb_list_Room => k_is)
    (case sb_tuple_Room => k_is)
    (case so_Trial_Room => k_is)
    (case so_Trial_Trial => k_is)
    (case so_Led_Room => k_is)
    (case so_Led_Led => k_is)
    (case so_Rule_Room => k_is)
    (case so_Room_Room => k_is)
    (case sb_NoneType_Rule => k_is)
    (case sb_bool_Rule => k_is)
    (case sb_int_Rule => k_is)
    (case sb_str_Rule => k_is)
    (case sb_list_Rule => k_is)
    (case sb_tuple_Rule => k_is)
    (case so_Trial_Rule => k_is)
    (case so_Led_Rule => k_is)
    (case so_Rule_Rule => k_is)
    (case so_Room_Rule => k_is)
    (case iL_Room => k_is)
    (case tL_Room => k_is)
    (case iL_Rule => k_is)
    (case tL_Rule => k_is)
    (case a_is_int => k_is)
    (case l_is_int => k_is)
    (case c_is_int => k_is)
    (case k_is_int => k_is)
    (case a_is_index => k_is)
    (case l_is_index => k_is)
    (case c_is_index => k_is)
    (case k_is_index => k_is)
    (case a_is_name => k_is)
    (case l_is_name => k_is)
    (case c_is_name => k_is)
    (case k_is_name => k_is)
    (case a_is_sequence => k_is)
    (case l_is_sequence => k_is)
    (case c_is_sequence => k_is)
    (case k_is_sequence => k_is)
    (case a_are_names => k_is)
    (case l_are_names => k_is)
    (case c_are_names => k_is)
    (case k_are_names => k_is)
    (case a_lot_of => k_is)
    (case l_lot_of => k_is)
    (case c_lot_of => k_is)
    (case k_lot_of => k_is)
    (case a_bits_of => k_is)
    (case l_bits_of => k_is)
    (case c_bits_of => k_is)
    (case k_bits_of => k_is)
    (case a_names_of => k_is)
    (case l_names_of => k_is)
    (case c_names_of => k_is)
    (case k_names_of => k_is)
    (case a_may => k_is)
    (case l_may => k_is)
    (case c_may => k_is)
    (case k_may => k_is)
    (case a_is_fulfilled => k_is)
    (case l_is_fulfilled => k_is)
    (case c_is_fulfilled => k_is)
    (case k_is_fulfilled => k_is)
    (case a_lots_after => k_is)
    (case l_lots_after => k_is)
    (case c_lots_after => k_is)
    (case k_lots_after => k_is)
    (case a_is_order => k_is)
    (case l_is_order => k_is)
    (case c_is_order => k_is)
    (case k_is_order => k_is)
    (case a_wrong_at => k_is)
    (case l_wrong_at => k_is)
    (case c_wrong_at => k_is)
    (case k_wrong_at => k_is)
    (case a_check_order => k_is)
    (case l_check_order => k_is)
    (case c_check_order => k_is)
    (case k_check_order => k_is)
    (case a_many => k_is)
    (case l_many => k_is)
    (case c_many => k_is)
    (case k_many => k_is)
    (case a_orders_on => k_is)
    (case l_orders_on => k_is)
    (case c_orders_on => k_is)
    (case k_orders_on => k_is)
    (case a_order_at => k_is)
    (case l_order_at => k_is)
    (case c_order_at => k_is)
    (case k_order_at => k_is)
    (case a_lot_at => k_is)
    (case l_lot_at => k_is)
    (case c_lot_at => k_is)
    (case k_lot_at => k_is)
    (case a_number_of => k_is)
    (case l_number_of => k_is)
    (case c_number_of => k_is)
    (case k_number_of => k_is)
    (case a_Trial_init => k_is)
    (case i_Trial_init => k_is)
    (case l_Trial_init => k_is)
    (case c_Trial_init => k_is)
    (case k_Trial_init => k_is)
    (case a_Trial_enter => k_is)
    (case i_Trial_enter => k_is)
    (case l_Trial_enter => k_is)
    (case c_Trial_enter => k_is)
    (case k_Trial_enter => k_is)
    (case a_Trial_exit => k_is)
    (case i_Trial_exit => k_is)
    (case l_Trial_exit => k_is)
    (case c_Trial_exit => k_is)
    (case k_Trial_exit => k_is)
    (case a_Led_init => k_is)
    (case i_Led_init => k_is)
    (case l_Led_init => k_is)
    (case c_Led_init => k_is)
    (case k_Led_init => k_is)
    (case a_Led_stand => k_is)
    (case i_Led_stand => k_is)
    (case l_Led_stand => k_is)
    (case c_Led_stand => k_is)
    (case k_Led_stand => k_is)
    (case a_Led_change => k_is)
    (case i_Led_change => k_is)
    (case l_Led_change => k_is)
    (case c_Led_change => k_is)
    (case k_Led_change => k_is)
    (case a_Led_leave => k_is)
    (case i_Led_leave => k_is)
    (case l_Led_leave => k_is)
    (case c_Led_leave => k_is)
    (case k_Led_leave => k_is)
    (case a_Led_several => k_is)
    (case i_Led_several => k_is)
    (case l_Led_several => k_is)
    (case c_Led_several => k_is)
    (case k_Led_several => k_is)
    (case a_Led_follow => k_is)
    (case i_Led_follow => k_is)
    (case l_Led_follow => k_is)
    (case c_Led_follow => k_is)
    (case k_Led_follow => k_is)
    (case a_Led_undo => k_is)
    (case i_Led_undo => k_is)
    (case l_Led_undo => k_is)
    (case c_Led_undo => k_is)
    (case k_Led_undo => k_is)
    (case a_Led_trial => k_is)
    (case i_Led_trial => k_is)
    (case l_Led_trial => k_is)
    (case c_Led_trial => k_is)
    (case k_Led_trial => k_is)
    (case a_Led_within => k_is)
    (case i_Led_within => k_is)
    (case l_Led_within => k_is)
    (case c_Led_within => k_is)
    (case k_Led_within => k_is)
    (case a_Led_len => k_is)
    (case i_Led_len => k_is)
    (case l_Led_len => k_is)
    (case c_Led_len => k_is)
    (case k_Led_len => k_is)
    (case a_counts_in => k_is)
    (case l_counts_in => k_is)
    (case c_counts_in => k_is)
    (case k_counts_in => k_is)
    (case a_Rule_init => k_is)
    (case i_Rule_init => k_is)
    (case l_Rule_init => k_is)
    (case lT_Rule_init => k_is)
    (case lE_Rule_init => k_is)
    (case c_Rule_init => k_is)
    (case k_Rule_init => k_is)
    (case a_Rule_eq => k_is)
    (case i_Rule_eq => k_is)
    (case l_Rule_eq => k_is)
    (case c_Rule_eq => k_is)
    (case k_Rule_eq => k_is)
    (case a_Rule_str => k_is)
    (case i_Rule_str => k_is)
    (case l_Rule_str => k_is)
    (case c_Rule_str => k_is)
    (case k_Rule_str => k_is)
    (case a_Room_init => k_is)
    (case i_Room_init => k_is)
    (case l_Room_init => k_is)
    (case lT_Room_init => k_is)
    (case lE_Room_init => k_is)
    (case c_Room_init => k_is)
    (case k_Room_init => k_is)
    (case a_Room_without => k_is)
    (case i_Room_without => k_is)
    (case l_Room_without => k_is)
    (case c_Room_without => k_is)
    (case k_Room_without => k_is)
    (case a_Room_len => k_is)
    (case i_Room_len => k_is)
    (case l_Room_len => k_is)
    (case c_Room_len => k_is)
    (case k_Room_len => k_is)
    (case a_Room_getitem => k_is)
    (case i_Room_getitem => k_is)
    (case l_Room_getitem => k_is)
    (case c_Room_getitem => k_is)
    (case k_Room_getitem => k_is)
    (case a_Room_add => k_is)
    (case i_Room_add => k_is)
    (case l_Room_add => k_is)
    (case c_Room_add => k_is)
    (case k_Room_add => k_is)
    (case a_Room_eq => k_is)
    (case i_Room_eq => k_is)
    (case l_Room_eq => k_is)
    (case c_Room_eq => k_is)
    (case k_Room_eq => k_is)
    (case a_Room_str => k_is)
    (case i_Room_str => k_is)
    (case l_Room_str => k_is)
    (case c_Room_str => k_is)
    (case k_Room_str => k_is)
    (case a_lw_box => k_is)
    (case l_lw_box => k_is)
    (case c_lw_box => k_is)
    (case k_lw_box => k_is)
    (case a_lw_take => k_is)
    (case l_lw_take => k_is)
    (case c_lw_take => k_is)
    (case k_lw_take => k_is)
    (case a_lw_mixed => k_is)
    (case l_lw_mixed => k_is)
    (case c_lw_mixed => k_is)
    (case k_lw_mixed => k_is)
    (case a_lw_names => k_is)
    (case l_lw_names => k_is)
    (case c_lw_names => k_is)
    (case k_lw_names => k_is)
    (case a_lw_rules => k_is)
    (case l_lw_rules => k_is)
    (case c_lw_rules => k_is)
    (case k_lw_rules => k_is)
    (case a_lw_made => k_is)
    (case l_lw_made => k_is)
    (case c_lw_made => k_is)
    (case k_lw_made => k_is)
    (case a_lw_main => k_is)
    (case l_lw_main => k_is)
    (case c_lw_main => k_is)
    (case k_lw_main => k_is)
    (case sn_Trial_Rule => k_is)
    (case sn_Led_Rule => k_is)
    (case sn_Room_Rule => k_is)
    (case n_abs => k_is)
    (case n_all => k_is)
    (case n_bool => k_is)
    (case n_enumerate => k_is)
    (case n_int => k_is)
    (case n_isinstance => k_is)
    (case n_len => k_is)
    (case n_list => k_is)
    (case n_max => k_is)
    (case n_min => k_is)
    (case n_range => k_is)
    (case n_reversed => k_is)
    (case n_set => k_is)
    (case n_sorted => k_is)
    (case n_str => k_is)
    (case n_sum => k_is)
    (case n_tuple => k_is)
    (case m_LETTERS => k_is)
    (case hcd_lw_main => exact rfl)
    (case hPt_lw_main => exact hT _ ((List.mem_cons_self)))
    (case hCH_lw_main => kernel_rfl)
    (case hPA_lw_main => kernel_rfl)
