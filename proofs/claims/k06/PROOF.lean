import PyProof.Rows.All
import Wide.All
import OpenK.AllK
import Wide.FinOn
import HandS.ForMost
import HandS.Wide
import HandS.Walk
import HandS.Star
import HandS.Flow
import HandS.TupSets
import HandS.SetTxt0
import HandS.Set
import HandS.Strs
import PyProof.Rows.SortShellAny
import KE.GoesEnum
import HandS.Iter
import HandS.IsInst
import HandS.Codes
import HandS.RaiseMore
import HandS.TupLe
import HandS.Deep
import HandS.TupAny
import HandS.Style
import HandS.Exc
import HandS.ExcOwn
import HandS.ExcInit
import HandS.ExcField
import HandS.ExcIs
import HandS.CallSlots
import HandS.WordsExc
import KE.KExcIs
import PyProof.P3In
import HandS.OwnEq
import HandS.Text
import HandS.ClsMeth
import HandS.TryOnly
import KE.KUnpackStar
import HandS.SetBool
import HandS.WideBits
import KE.SortData
import KE.DataCmp
import HandS.Defaults
import HandS.MakeKw
import HandS.MakeKwOnly
import PyProof.ReprRoads
import HandS.Ends
import HandS.SetKeys
import HandS.DictComp
import KE.DataMinKey
import HandS.SortKw
import HandS.SortInts
import KE.DataMinMax
import PyProof.Rows.RowBridgeK
import PyProof.Rows.StrMul
import KE.KxIndex
import HandS.Zip
import KE.KDictPairs
import HandS.Sort
import HandS.More
import KE.KDictList
import HandS.Conv
import KE.KDictKeyed
import PyProof.FactsAll.set_1
import PyProof.FactsAll.set_2
import PyProof.FactsAll.subtypes_5
import HandS.TupLen
import HandS.StrMore
import HandS.ExcCtx
import HandS.HotCalls
import HandS.SuiteRaise
import HandS.RaiseFrom
import HandS.ExcInitHot
import KE.OsArith
import KE.BitLaws
import PySem.Challenge.RW_leavelots_k06_texts_of_rooms
set_option Elab.async false
set_option linter.all false
set_option maxRecDepth 100000
set_option maxHeartbeats 4000000
/-! L3: data without a heap over the hand layer. A value of the program stands for a datum D; a def's body is read over data alone. -/
namespace G
open PySem L2
inductive D where
  | non | bl (b : Bool) | int (i : Int) | str (s : Str)
  | lst (xs : List D) | tup (xs : List D) | obj (c : Nat) (ds : List D) | scr (ns : List Int) | exc (a dd : Addr) (f : Str) (x : D) | dic (ks : List Key) (ds : List D) | tupF (xs : List D) | ref (a : Addr) | tupT (xs : List D) | dicF (ks : List Key) (ds : List D) | dicT (ks : List (List Key)) (ds : List D)
structure Cl where
  C : Addr
  fs : List Str
structure Wd where
  K : PySem.W.Frag
  cl : Nat → Cl
  er : Nat → Addr × Str := fun _ => (0, "")
def Ex (H H' : Hp) : Prop := ∀ a o, H a = some o → H' a = some o
theorem Ex.rfl' {H : Hp} : Ex H H := fun _ _ h => h
theorem Ex.tr {H H1 H2 : Hp} (a : Ex H H1) (b : Ex H1 H2) : Ex H H2 := fun x o h => b x o (a x o h)
theorem Ex.new {H : Hp} {p : Addr} {o : HO} (h : H p = none) : Ex H (upd H p o) := fun a u e => by
  rw [upd_ne (ne_of_none e h)]; exact e
theorem Ex.free {H H' : Hp} {p : Addr} (e : Ex H H') (h : H' p = none) : H p = none := by
  cases q : H p with
  | none => rfl
  | some o => rw [e p o q] at h; cases h
theorem Ex.both {M H : Hp} {p : Addr} {o : HO} (e : Ex M H) (h : H p = none) : Ex (upd M p o) (upd H p o) := fun a u q => by
  by_cases ha : a = p
  · subst ha; rw [upd_same] at q ⊢; exact q
  · rw [upd_ne ha] at q ⊢; exact e a u q
theorem rd_mono {M M' : Hp} (e : Ex M M') {a : Addr} {u : HO} (h : Rd M a u) : Rd M' a u := by
  rcases h with h | ⟨o, h⟩
  · exact .inl (e _ _ h)
  · exact .inr ⟨o, e _ _ h⟩
theorem sqT_mono {K : PySem.W.Frag} {M M' : Hp} (e : Ex M M') {a : Addr} {xs : List V} (h : SqT K M a xs) : SqT K M' a xs := h.imp (rd_mono e) id
theorem sqL_mono {K : PySem.W.Frag} {M M' : Hp} (e : Ex M M') {a : Addr} {xs : List V} (h : SqL K M a xs) : SqL K M' a xs := h.imp (rd_mono e) id
/-- the value v stands for the datum d by what M tells -/
inductive At (Z : Wd) (M : Hp) : V → D → Prop
  | non : At Z M .non .non
  | bl {b} : At Z M (.bl b) (.bl b)
  | int {i} : At Z M (.int i) (.int i)
  | str {s} : At Z M (.str s) (.str s)
  | lst {a vs ds} : M a = some (.lst vs) → vs.length = ds.length → (∀ (i : Nat) v d, vs[i]? = some v → ds[i]? = some d → At Z M v d) → At Z M (.ref a) (.lst ds)
  | tup {a vs ds} : SqT Z.K M a vs → vs.length = ds.length → (∀ (i : Nat) v d, vs[i]? = some v → ds[i]? = some d → At Z M v d) → At Z M (.ref a) (.tup ds)
  | obj {a dx c vs ds} : M a = some (.ins (Z.cl c).C dx ((Z.cl c).fs.zip vs)) → vs.length = (Z.cl c).fs.length → vs.length = ds.length → (∀ (i : Nat) v d, vs[i]? = some v → ds[i]? = some d → At Z M v d) → At Z M (.ref a) (.obj c ds)
  | scr {a ns} : SqL Z.K M a (ns.map V.int) → At Z M (.ref a) (.scr ns)
  | exc {a dd f v x} : M dd = some (.xd [(f, v)]) → At Z M v x → At Z M (.ref a) (.exc a dd f x)
  | dic {a kvs ks ds} : M a = some (.dK kvs) → kvs.map (·.1) = ks → (kvs.map (·.2)).length = ds.length → (∀ (i : Nat) v d, (kvs.map (·.2))[i]? = some v → ds[i]? = some d → At Z M v d) → At Z M (.ref a) (.dic ks ds)
  | tupF {a o vs ds} : M a = some (.frz o (.tup vs)) → o.cls = .type "tuple" → (o.dict = none ∧ o.slots = #[]) → vs.length = ds.length → (∀ (i : Nat) v d, vs[i]? = some v → ds[i]? = some d → At Z M v d) → At Z M (.ref a) (.tupF ds)
  | ref {a} : At Z M (.ref a) (.ref a)
  | tupT {a vs ds} : M a = some (.tup vs) → vs.length = ds.length → (∀ (i : Nat) v d, vs[i]? = some v → ds[i]? = some d → At Z M v d) → At Z M (.ref a) (.tupT ds)
  | dicF {a o kvs ks ds} : M a = some (.frz o (.dK kvs)) → kvs.map (·.1) = ks → (kvs.map (·.2)).length = ds.length → (∀ (i : Nat) v d, (kvs.map (·.2))[i]? = some v → ds[i]? = some d → At Z M v d) → At Z M (.ref a) (.dicF ks ds)
  | dicT {a o kvs ks ds} : M a = some (.frz o (.dT kvs)) → kvs.map (·.1) = ks → (kvs.map (·.2)).length = ds.length → (∀ (i : Nat) v d, (kvs.map (·.2))[i]? = some v → ds[i]? = some d → At Z M v d) → At Z M (.ref a) (.dicT ks ds)
section
variable {Z : Wd} {M M' H H' : Hp}
theorem At.mono {v : V} {d : D} (e : Ex M M') (h : At Z M v d) : At Z M' v d := by
  induction h with
  | non => exact .non
  | bl => exact .bl
  | int => exact .int
  | str => exact .str
  | lst h l _ ih => exact .lst (e _ _ h) l ih
  | tup h l _ ih => exact .tup (sqT_mono e h) l ih
  | obj h l l2 _ ih => exact .obj (e _ _ h) l l2 ih
  | scr h => exact .scr (sqL_mono e h)
  | exc h _ ih => exact .exc (e _ _ h) ih
  | dic h k l _ ih => exact .dic (e _ _ h) k l ih
  | tupF h c k l _ ih => exact .tupF (e _ _ h) c k l ih
  | ref => exact .ref
  | tupT h l _ ih => exact .tupT (e _ _ h) l ih
  | dicF h k l _ ih => exact .dicF (e _ _ h) k l ih
  | dicT h k l _ ih => exact .dicT (e _ _ h) k l ih
structure AtL (Z : Wd) (M : Hp) (vs : List V) (ds : List D) : Prop where
  len : vs.length = ds.length
  at' : ∀ (i : Nat) v d, vs[i]? = some v → ds[i]? = some d → At Z M v d
variable {vs ws : List V} {ds es : List D} {v : V} {d : D}
theorem AtL.mono (e : Ex M M') (h : AtL Z M vs ds) : AtL Z M' vs ds := ⟨h.len, fun i v d a b => (h.at' i v d a b).mono e⟩
theorem AtL.nil : AtL Z M [] [] := ⟨rfl, fun i v d a => by simp at a⟩
theorem AtL.cons (h : At Z M v d) (t : AtL Z M vs ds) : AtL Z M (v :: vs) (d :: ds) := ⟨by simp [t.len], fun i x y a b => by
  cases i with
  | zero => simp at a b; subst a; subst b; exact h
  | succ i => exact t.at' i x y (by simpa using a) (by simpa using b)⟩
theorem AtL.one (h : At Z M v d) : AtL Z M [v] [d] := .cons h .nil
theorem AtL.inv (h : AtL Z M vs (d :: ds)) : ∃ v ws, vs = v :: ws ∧ At Z M v d ∧ AtL Z M ws ds := by
  cases vs with
  | nil => have := h.len; simp at this
  | cons v ws => exact ⟨v, ws, rfl, h.at' 0 v d rfl rfl, ⟨by simpa using h.len, fun i x y a b => h.at' (i + 1) x y (by simpa using a) (by simpa using b)⟩⟩
theorem AtL.inv0 (h : AtL Z M vs []) : vs = [] := by
  have := h.len; simpa using this
theorem AtL.app (h : AtL Z M vs ds) (t : AtL Z M ws es) : AtL Z M (vs ++ ws) (ds ++ es) := ⟨by simp [h.len, t.len], fun i x y a b => by
  by_cases hi : i < vs.length
  · rw [List.getElem?_append_left hi] at a
    rw [List.getElem?_append_left (h.len ▸ hi)] at b
    exact h.at' i x y a b
  · rw [List.getElem?_append_right (by omega)] at a
    rw [List.getElem?_append_right (by have := h.len; omega)] at b
    exact t.at' (i - vs.length) x y a (by rw [h.len]; exact b)⟩
theorem AtL.take (n : Nat) (h : AtL Z M vs ds) : AtL Z M (vs.take n) (ds.take n) := ⟨by simp [h.len], fun i x y a b => by
  rw [List.getElem?_take] at a b
  split at a
  · rename_i hi; rw [if_pos hi] at b; exact h.at' i x y a b
  · cases a⟩
theorem AtL.drop (n : Nat) (h : AtL Z M vs ds) : AtL Z M (vs.drop n) (ds.drop n) := ⟨by simp [h.len], fun i x y a b => by
  rw [List.getElem?_drop] at a b
  exact h.at' (n + i) x y a b⟩
theorem AtL.set (i : Nat) (h : AtL Z M vs ds) (k : At Z M v d) : AtL Z M (vs.set i v) (ds.set i d) := ⟨by simp [h.len], fun j x y a b => by
  rw [List.getElem?_set] at a b
  split at a
  · rename_i e
    rw [if_pos e] at b
    split at a
    · rename_i q; rw [if_pos (h.len ▸ q)] at b; cases a; cases b; exact k
    · cases a
  · rename_i e; rw [if_neg e] at b; exact h.at' j x y a b⟩
theorem AtL.erase (n : Nat) (h : AtL Z M vs ds) : AtL Z M (vs.eraseIdx n) (ds.eraseIdx n) := ⟨by
    rw [List.length_eraseIdx, List.length_eraseIdx, h.len], fun i x y a b => by
  rw [List.getElem?_eraseIdx] at a b
  split at a
  · rename_i q; rw [if_pos q] at b; exact h.at' i x y a b
  · rename_i q; rw [if_neg q] at b; exact h.at' (i + 1) x y a b⟩
theorem AtL.get {i : Nat} (h : AtL Z M vs ds) (e : ds[i]? = some d) : ∃ v, vs[i]? = some v ∧ At Z M v d := by
  have hi : i < ds.length := (List.getElem?_eq_some_iff.mp e).1
  exact ⟨vs[i]'(h.len ▸ hi), by simp [h.len ▸ hi], h.at' i _ d (by simp [h.len ▸ hi]) e⟩
theorem AtL.getV {i : Nat} (h : AtL Z M vs ds) (e : vs[i]? = some v) : ∃ d, ds[i]? = some d ∧ At Z M v d := by
  have hi : i < vs.length := (List.getElem?_eq_some_iff.mp e).1
  exact ⟨ds[i]'(h.len ▸ hi), by simp [h.len ▸ hi], h.at' i v _ e (by simp [h.len ▸ hi])⟩
theorem AtL.dropLast (h : AtL Z M vs ds) : AtL Z M vs.dropLast ds.dropLast := by
  rw [List.dropLast_eq_take, List.dropLast_eq_take, h.len]; exact h.take _
theorem AtL.strs : ∀ {vs : List V} {ns : List Str}, AtL Z M vs (ns.map D.str) → vs = ns.map V.str
  | vs, [], h => h.inv0
  | vs, n :: ns, h => by
    obtain ⟨v, ws, rfl, a, t⟩ := h.inv
    cases a
    rw [AtL.strs t]; rfl
theorem AtL.bools : ∀ {vs : List V} {ns : List Bool}, AtL Z M vs (ns.map D.bl) → vs = ns.map V.bl
  | vs, [], h => h.inv0
  | vs, n :: ns, h => by
    obtain ⟨v, ws, rfl, a, t⟩ := h.inv
    cases a
    rw [AtL.bools t]; rfl
theorem AtL.ofInts : ∀ (ns : List Int), AtL Z M (ns.map V.int) (ns.map D.int)
  | [] => .nil
  | n :: ns => .cons .int (AtL.ofInts ns)
theorem AtL.ofStrs : ∀ (ns : List Str), AtL Z M (ns.map V.str) (ns.map D.str)
  | [] => .nil
  | n :: ns => .cons .str (AtL.ofStrs ns)
end
/-! ### objects that one def alone holds -/
inductive OD where
  | lst (xs : List D) | dic (kvs : List (Key × D)) | ins (c : Nat) (fs : List (Str × D)) | dT (kvs : List (List Key × D))
def ODAt (Z : Wd) (M : Hp) : HO → OD → Prop
  | .lst vs, .lst xs => AtL Z M vs xs
  | .dK kvs, .dic ds => kvs.map (·.1) = ds.map (·.1) ∧ AtL Z M (kvs.map (·.2)) (ds.map (·.2))
  | .dT kvs, .dT ds => kvs.map (·.1) = ds.map (·.1) ∧ AtL Z M (kvs.map (·.2)) (ds.map (·.2))
  | .ins C _ fs, .ins c gs => C = (Z.cl c).C ∧ fs.map (·.1) = gs.map (·.1) ∧ AtL Z M (fs.map (·.2)) (gs.map (·.2))
  | _, _ => False
inductive S where
  | no | d (x : D) | own (y : OD) | deal (q : Addr) (cs : List Int) (n : Int)
section
variable {Z : Wd} {M M' H H' : Hp}
theorem ODAt.mono (e : Ex M M') {ho : HO} {y : OD} (h : ODAt Z M ho y) : ODAt Z M' ho y := by
  cases ho with
  | lst vs => cases y with
    | lst xs => exact AtL.mono e h
    | dic _ => exact h
    | ins _ _ => exact h
    | dT _ => exact h
  | dK vs => cases y with
    | dic xs => exact ⟨h.1, h.2.mono e⟩
    | lst _ => exact h
    | ins _ _ => exact h
    | dT _ => exact h
  | dT vs => cases y with
    | dT xs => exact ⟨h.1, h.2.mono e⟩
    | lst _ => exact h
    | ins _ _ => exact h
    | dic _ => exact h
  | ins C dx fs => cases y with
    | ins c gs => exact ⟨h.1, h.2.1, h.2.2.mono e⟩
    | lst _ => exact h
    | dic _ => exact h
    | dT _ => exact h
  | _ => exact False.elim h
theorem ODAt.lstI {ho : HO} {xs : List D} (h : ODAt Z M ho (.lst xs)) : ∃ vs, ho = .lst vs ∧ AtL Z M vs xs := by
  cases ho with
  | lst vs => exact ⟨vs, rfl, h⟩
  | _ => exact False.elim h
theorem ODAt.insI {ho : HO} {c : Nat} {gs : List (Str × D)} (h : ODAt Z M ho (.ins c gs)) : ∃ dx fs, ho = .ins (Z.cl c).C dx fs ∧ fs.map (·.1) = gs.map (·.1) ∧ AtL Z M (fs.map (·.2)) (gs.map (·.2)) := by
  cases ho with
  | ins C dx fs => obtain ⟨rfl, a, b⟩ := h; exact ⟨dx, fs, rfl, a, b⟩
  | _ => exact False.elim h
def SlotOk (Z : Wd) (M H : Hp) : Option V → S → Prop
  | _, .no => True
  | o, .d x => ∃ v, o = some v ∧ At Z M v x
  | o, .own y => ∃ p ho, o = some (.ref p) ∧ H p = some ho ∧ ODAt Z M ho y ∧ M p = none
  | o, .deal q cs n => ∃ p, o = some (.ref p) ∧ H p = some (.lst [.ref q, .int n]) ∧ H q = some (.lst (cs.map V.int)) ∧ M p = none ∧ M q = none ∧ p ≠ q
/-- what a slot with the address p holds alone -/
def Hol (p : Addr) : S → Addr → Prop
  | .own _, a => a = p
  | .deal q _ _, a => a = p ∨ a = q
  | _, _ => False
def Own (σ : St) (δ : List S) (i : Nat) (a : Addr) : Prop := ∃ p s, σ[i]? = some (some (.ref p)) ∧ δ[i]? = some s ∧ Hol p s a
theorem Own.mk {σ : St} {δ : List S} {i : Nat} {p : Addr} {y : OD} (h : σ[i]? = some (some (.ref p))) (k : δ[i]? = some (.own y)) : Own σ δ i p := ⟨p, _, h, k, rfl⟩
theorem Own.inv {σ : St} {δ : List S} {i : Nat} {p : Addr} {y : OD} (h : Own σ δ i p) (k : δ[i]? = some (.own y)) : σ[i]? = some (some (.ref p)) := by
  obtain ⟨q, s, a, b, c⟩ := h
  rw [k] at b; cases b; cases c; exact a
theorem Own.not {σ : St} {δ : List S} {i : Nat} {p : Addr} {s : S} (k : δ[i]? = some s) (n : ∀ p a, ¬ Hol p s a) : ¬ Own σ δ i p := fun ⟨q, s', _, b, c⟩ => by
  rw [k] at b; cases b; exact n _ _ c
theorem Own.same {σ σ' : St} {δ δ' : List S} {i : Nat} {p : Addr} (h : Own σ δ i p) (e : σ'[i]? = σ[i]?) (f : δ'[i]? = δ[i]?) : Own σ' δ' i p := by
  obtain ⟨q, s, a, b, c⟩ := h
  exact ⟨q, s, e.trans a, f.trans b, c⟩
theorem hol_no (p a : Addr) : ¬ Hol p .no a := id
theorem hol_d (x : D) (p a : Addr) : ¬ Hol p (.d x) a := id
/-- no tuple: it may change -/
def NT (o : HO) : Prop := ∀ vs, o ≠ .tup vs
theorem NT.own {Z : Wd} {M : Hp} {ho : HO} {y : OD} (h : ODAt Z M ho y) : NT ho := fun vs e => by subst e; cases y <;> exact h.elim
/-- the heap at a def's entry, and what of it never changes -/
structure Bas where
  h : Hp
  m : Hp
/-- the state: B the heap at the def's entry, W what it has borrowed (slot, address), M what will never change, H the heap, σ the slots' values, δ their data -/
structure I3 (Z : Wd) (B : Bas) (W : List (Nat × Addr)) (M H : Hp) (σ : St) (δ : List S) : Prop where
  ex : Ex M H
  mg : ∀ a o, B.h a = some o → B.m a = none → NT o → M a = none
  keep : ∀ a o, B.h a = some o → (∀ i, (i, a) ∉ W) → H a = some o
  len : σ.length = δ.length
  sl : ∀ (i : Nat) s, δ[i]? = some s → ∃ o, σ[i]? = some o ∧ SlotOk Z M H o s
  bor : ∀ i p, (i, p) ∈ W → Own σ δ i p
  own : ∀ i p, Own σ δ i p → (i, p) ∈ W ∨ B.h p = none
  dis : ∀ i j p, Own σ δ i p → Own σ δ j p → i = j
variable {B : Bas} {W : List (Nat × Addr)} {σ : St} {δ : List S}
theorem I3.ownAt (I : I3 Z B W M H σ δ) {i : Nat} {p : Addr} (h : Own σ δ i p) : ∃ ho, H p = some ho ∧ M p = none := by
  obtain ⟨p0, s, h1, h2, h3⟩ := h
  obtain ⟨o, e, k⟩ := I.sl i _ h2
  rw [h1] at e; cases e
  cases s with
  | no => exact h3.elim
  | d x => exact h3.elim
  | own y =>
    obtain ⟨q, ho, e2, e3, e4, e5⟩ := k
    cases e2; cases h3
    exact ⟨ho, e3, e5⟩
  | deal q cs n =>
    obtain ⟨p1, e2, e3, e4, e5, e6, _⟩ := k
    cases e2
    rcases h3 with rfl | rfl
    · exact ⟨_, e3, e5⟩
    · exact ⟨_, e4, e6⟩
theorem I3.ownO (I : I3 Z B W M H σ δ) {i : Nat} {p : Addr} {y : OD} (h : Own σ δ i p) (k : δ[i]? = some (.own y)) : ∃ ho, H p = some ho ∧ ODAt Z M ho y ∧ M p = none := by
  obtain ⟨o, e, q, ho, rfl, e3, e4, e5⟩ := I.sl i _ k
  have h1 := h.inv k
  rw [e] at h1; cases h1
  exact ⟨ho, e3, e4, e5⟩
theorem plain_no {ds : List D} {n i : Nat} {s : S} (h : (ds.map S.d ++ List.replicate n S.no)[i]? = some s) : ∀ p a, ¬ Hol p s a := by
  have : s ∈ ds.map S.d ++ List.replicate n S.no := List.mem_of_getElem? h
  rcases List.mem_append.mp this with m | m
  · obtain ⟨d, _, rfl⟩ := List.mem_map.mp m; exact hol_d d
  · rw [(List.mem_replicate.mp m).2]; exact hol_no
theorem Own.plain {ds : List D} {n i : Nat} {p : Addr} : ¬ Own σ (ds.map S.d ++ List.replicate n S.no) i p := fun ⟨q, _, _, b, c⟩ => plain_no b q p c
theorem I3.fresh (I : I3 Z B W M H σ δ) {p : Addr} (h : H p = none) : B.h p = none := by
  cases q : B.h p with
  | none => rfl
  | some o =>
    by_cases hw : ∃ i, (i, p) ∈ W
    · obtain ⟨i, hi⟩ := hw
      obtain ⟨ho, e, _⟩ := I.ownAt (I.bor i p hi)
      rw [h] at e; cases e
    · have := I.keep p o q (fun i hi => hw ⟨i, hi⟩)
      rw [h] at this; cases this
theorem I3.ownNT (I : I3 Z B W M H σ δ) {i : Nat} {p : Addr} (h : Own σ δ i p) : ∃ ho, H p = some ho ∧ NT ho := by
  obtain ⟨p0, s, h1, h2, h3⟩ := h
  obtain ⟨o, e, k⟩ := I.sl i _ h2
  rw [h1] at e; cases e
  cases s with
  | no => exact h3.elim
  | d x => exact h3.elim
  | own y =>
    obtain ⟨q, ho, e2, e3, e4, e5⟩ := k
    cases e2; cases h3
    exact ⟨ho, e3, .own e4⟩
  | deal q cs n =>
    obtain ⟨p1, e2, e3, e4, e5, e6, _⟩ := k
    cases e2
    rcases h3 with rfl | rfl
    · exact ⟨_, e3, fun _ e => nomatch e⟩
    · exact ⟨_, e4, fun _ e => nomatch e⟩
theorem I3.nt (I : I3 Z B W M H σ δ) {a : Addr} {o u : HO} (e : B.h a = some o) (t : NT o) (q : H a = some u) : NT u := by
  by_cases hw : ∃ i, (i, a) ∈ W
  · obtain ⟨i, hi⟩ := hw
    obtain ⟨ho, e2, t2⟩ := I.ownNT (I.bor i a hi)
    rw [q] at e2; cases e2; exact t2
  · have := I.keep a o e fun i hi => hw ⟨i, hi⟩
    rw [q] at this; cases this; exact t
theorem SlotOk.mono {o : Option V} {s : S} (e : Ex M M') (hn : ∀ p, M p = none → M' p ≠ none → H p = none) (h : SlotOk Z M H o s) : SlotOk Z M' H o s := by
  cases s with
  | no => trivial
  | d x => obtain ⟨v, a, b⟩ := h; exact ⟨v, a, b.mono e⟩
  | own y =>
    obtain ⟨p, ho, a, b, c, d⟩ := h
    refine ⟨p, ho, a, b, c.mono e, ?_⟩
    cases q : M' p with
    | none => rfl
    | some u =>
      have := hn p d (by rw [q]; exact fun z => nomatch z)
      rw [b] at this; cases this
  | deal q cs n =>
    obtain ⟨p, a, b, c, d, f, g⟩ := h
    have no : ∀ {x : Addr} {u : HO}, H x = some u → M x = none → M' x = none := fun {x u} hx hm => by
      cases z : M' x with
      | none => rfl
      | some u =>
        have := hn x hm (by rw [z]; exact fun z => nomatch z)
        rw [hx] at this; cases this
    exact ⟨p, a, b, c, no b d, no c f, g⟩
/-- a new object that will never change -/
theorem I3.grow (I : I3 Z B W M H σ δ) {p : Addr} {o : HO} (h : H p = none) : I3 Z B W (upd M p o) (upd H p o) σ δ := by
  have hm : M p = none := I.ex.free h
  refine ⟨I.ex.both h, fun a u e n => ?_, fun a u e n => ?_, I.len, fun i s e => ?_, I.bor, I.own, I.dis⟩
  · rw [upd_ne (ne_of_none e (I.fresh h))]; exact I.mg a u e n
  · have := I.keep a u e n
    rw [upd_ne (ne_of_none this h)]; exact this
  · obtain ⟨v, e1, e2⟩ := I.sl i s e
    refine ⟨v, e1, ?_⟩
    cases s with
    | no => trivial
    | d x => obtain ⟨u, a, b⟩ := e2; exact ⟨u, a, b.mono (Ex.new hm)⟩
    | own y =>
      obtain ⟨q, ho, a, b, c, d⟩ := e2
      have hq : q ≠ p := ne_of_none b h
      exact ⟨q, ho, a, by rw [upd_ne hq]; exact b, c.mono (Ex.new hm), by rw [upd_ne hq]; exact d⟩
    | deal q cs n =>
      obtain ⟨r, a, b, c, d, f, g⟩ := e2
      have hr : r ≠ p := ne_of_none b h
      have hq : q ≠ p := ne_of_none c h
      exact ⟨r, a, by rw [upd_ne hr]; exact b, by rw [upd_ne hq]; exact c, by rw [upd_ne hr]; exact d, by rw [upd_ne hq]; exact f, g⟩
/-- another object, that nobody knows, comes or changes -/
theorem I3.other (I : I3 Z B W M H σ δ) {p : Addr} {o : HO} (hB : B.h p = none) (hm : M p = none) (ho : ∀ i, ¬ Own σ δ i p) : I3 Z B W M (upd H p o) σ δ := by
  refine ⟨fun a u e => ?_, I.mg, fun a u e n => ?_, I.len, fun i s e => ?_, I.bor, I.own, I.dis⟩
  · rw [upd_ne (ne_of_none e hm)]; exact I.ex a u e
  · rw [upd_ne (ne_of_none e hB)]; exact I.keep a u e n
  · obtain ⟨v, e1, e2⟩ := I.sl i s e
    refine ⟨v, e1, ?_⟩
    cases s with
    | no => trivial
    | d x => exact e2
    | own y =>
      obtain ⟨q, hq, a, b, c, d⟩ := e2
      subst a
      have hq' : q ≠ p := fun z => ho i (z ▸ Own.mk e1 e)
      exact ⟨q, hq, rfl, by rw [upd_ne hq']; exact b, c, d⟩
    | deal q cs n =>
      obtain ⟨r, a, b, c, d, f, g⟩ := e2
      subst a
      have hr : r ≠ p := fun z => ho i (z ▸ ⟨r, _, e1, e, .inl rfl⟩)
      have hq : q ≠ p := fun z => ho i (z ▸ ⟨r, _, e1, e, .inr rfl⟩)
      exact ⟨r, rfl, by rw [upd_ne hr]; exact b, by rw [upd_ne hq]; exact c, d, f, g⟩
theorem Own.setS {i j : Nat} {p : Addr} {s s' : S} (hi : δ[i]? = some s) (hs : ∀ p a, Hol p s a ↔ Hol p s' a) : Own σ (δ.set i s') j p ↔ Own σ δ j p := by
  have hl : i < δ.length := (List.getElem?_eq_some_iff.mp hi).1
  unfold Own
  by_cases e : i = j
  · subst e
    rw [List.getElem?_set_self hl, hi]
    constructor
    · rintro ⟨q, u, a, b, c⟩; cases b; exact ⟨q, _, a, rfl, (hs _ _).mpr c⟩
    · rintro ⟨q, u, a, b, c⟩; cases b; exact ⟨q, _, a, rfl, (hs _ _).mp c⟩
  · rw [List.getElem?_set_ne e]
theorem Own.setO {i j : Nat} {p : Addr} {y y' : OD} (hi : δ[i]? = some (.own y)) : Own σ (δ.set i (.own y')) j p ↔ Own σ δ j p := Own.setS hi fun _ _ => Iff.rfl
/-- what slot i holds alone changes -/
theorem I3.writeS (I : I3 Z B W M H σ δ) {i : Nat} {o : Option V} {s s' : S} (h : σ[i]? = some o) (hi : δ[i]? = some s) (hs : ∀ p a, Hol p s a ↔ Hol p s' a) (hH : ∀ a, ¬ Own σ δ i a → H' a = H a) (hy : SlotOk Z M H' o s') : I3 Z B W M H' σ (δ.set i s') := by
  have hl : i < δ.length := (List.getElem?_eq_some_iff.mp hi).1
  refine ⟨fun a u e => ?_, I.mg, fun a u e n => ?_, by rw [List.length_set]; exact I.len, fun j t e => ?_, fun j q w => (Own.setS hi hs).mpr (I.bor j q w), fun j q o => I.own j q ((Own.setS hi hs).mp o), fun j k q a b => I.dis j k q ((Own.setS hi hs).mp a) ((Own.setS hi hs).mp b)⟩
  · rw [hH a fun o => by obtain ⟨_, _, q⟩ := I.ownAt o; rw [q] at e; cases e]; exact I.ex a u e
  · rw [hH a fun o => by
      rcases I.own i a o with q | q
      · exact n i q
      · rw [e] at q; cases q]
    exact I.keep a u e n
  · by_cases e1 : i = j
    · subst e1
      rw [List.getElem?_set_self hl] at e; cases e
      exact ⟨_, h, hy⟩
    · rw [List.getElem?_set_ne e1] at e
      obtain ⟨v, a, b⟩ := I.sl j t e
      refine ⟨v, a, ?_⟩
      cases t with
      | no => trivial
      | d x => exact b
      | own z =>
        obtain ⟨q, hq, c, d, f, g⟩ := b
        subst c
        exact ⟨q, hq, rfl, by rw [hH q fun o => e1 (I.dis i j q o (Own.mk a e))]; exact d, f, g⟩
      | deal q cs n =>
        obtain ⟨r, c, d, f, g, k, l⟩ := b
        subst c
        exact ⟨r, rfl, by rw [hH r fun o => e1 (I.dis i j r o ⟨r, _, a, e, .inl rfl⟩)]; exact d, by rw [hH q fun o => e1 (I.dis i j q o ⟨r, _, a, e, .inr rfl⟩)]; exact f, g, k, l⟩
theorem I3.write (I : I3 Z B W M H σ δ) {i : Nat} {p : Addr} {ho : HO} {y y' : OD} (h : σ[i]? = some (some (.ref p))) (hi : δ[i]? = some (.own y)) (hy : ODAt Z M ho y') : I3 Z B W M (upd H p ho) σ (δ.set i (.own y')) :=
  I.writeS h hi (fun _ _ => Iff.rfl) (fun a n => upd_ne fun z => n (z ▸ Own.mk h hi)) ⟨p, ho, rfl, upd_same, hy, by obtain ⟨_, _, m⟩ := I.ownAt (Own.mk h hi); exact m⟩
theorem Own.setN {i j : Nat} {p : Addr} {v : Option V} {s : S} (hs : ∀ p a, ¬ Hol p s a) (h : Own (σ.set i v) (δ.set i s) j p) : i ≠ j ∧ Own σ δ j p := by
  obtain ⟨q, u, a, b, c⟩ := h
  have e : i ≠ j := fun e => by
    subst e
    rw [List.getElem?_set] at b
    split at b
    · split at b
      · cases b; exact hs _ _ c
      · cases b
    · rename_i q; exact q rfl
  rw [List.getElem?_set_ne e] at a b
  exact ⟨e, q, u, a, b, c⟩
/-- slot i gets a datum, or is forgotten -/
theorem I3.put (I : I3 Z B W M H σ δ) {i : Nat} {o : Option V} {s : S} (hi : ∀ p, (i, p) ∉ W) (hs : ∀ p a, ¬ Hol p s a) (hv : SlotOk Z M H o s) : I3 Z B W M H (σ.set i o) (δ.set i s) := by
  refine ⟨I.ex, I.mg, I.keep, by rw [List.length_set, List.length_set]; exact I.len, fun j t e => ?_, fun j q w => ?_, fun j q o => I.own j q (Own.setN hs o).2, fun j k q a b => I.dis j k q (Own.setN hs a).2 (Own.setN hs b).2⟩
  · by_cases e1 : i = j
    · subst e1
      have hl : i < δ.length := by
        have := (List.getElem?_eq_some_iff.mp e).1; rwa [List.length_set] at this
      rw [List.getElem?_set_self hl] at e; cases e
      exact ⟨o, by rw [List.getElem?_set_self (by rw [I.len]; exact hl)], hv⟩
    · rw [List.getElem?_set_ne e1] at e ⊢
      exact I.sl j t e
  · have e1 : i ≠ j := fun e => hi q (e ▸ w)
    exact (I.bor j q w).same (List.getElem?_set_ne e1) (List.getElem?_set_ne e1)
/-- slot i gets an object that nobody else holds -/
theorem I3.putS (I : I3 Z B W M H σ δ) {i : Nat} {p : Addr} {s : S} (hi : ∀ p, (i, p) ∉ W) (hl : i < δ.length) (hv : SlotOk Z M H (some (.ref p)) s) (hB : ∀ a, Hol p s a → B.h a = none) (hn : ∀ a, Hol p s a → ∀ j, ¬ Own σ δ j a) :
    I3 Z B W M H (σ.set i (some (.ref p))) (δ.set i s) := by
  have own' : ∀ j q, Own (σ.set i (some (.ref p))) (δ.set i s) j q → (j = i ∧ Hol p s q) ∨ (i ≠ j ∧ Own σ δ j q) := fun j q h => by
    obtain ⟨r, u, a, b, c⟩ := h
    by_cases e : i = j
    · subst e
      rw [List.getElem?_set_self (by rw [I.len]; exact hl)] at a
      rw [List.getElem?_set_self hl] at b
      cases a; cases b; exact .inl ⟨rfl, c⟩
    · rw [List.getElem?_set_ne e] at a b
      exact .inr ⟨e, r, u, a, b, c⟩
  refine ⟨I.ex, I.mg, I.keep, by rw [List.length_set, List.length_set]; exact I.len, fun j t e => ?_, fun j q w => ?_, fun j q o => ?_, fun j k q a b => ?_⟩
  · by_cases e1 : i = j
    · subst e1
      rw [List.getElem?_set_self hl] at e; cases e
      exact ⟨_, by rw [List.getElem?_set_self (by rw [I.len]; exact hl)], hv⟩
    · rw [List.getElem?_set_ne e1] at e ⊢
      exact I.sl j t e
  · have e1 : i ≠ j := fun e => hi q (e ▸ w)
    exact (I.bor j q w).same (List.getElem?_set_ne e1) (List.getElem?_set_ne e1)
  · rcases own' j q o with ⟨rfl, h⟩ | ⟨_, o⟩
    · exact .inr (hB q h)
    · exact I.own j q o
  · rcases own' j q a with ⟨e1, e2⟩ | ⟨_, a1⟩
    · rcases own' k q b with ⟨e3, _⟩ | ⟨_, b1⟩
      · rw [e1, e3]
      · exact absurd b1 (hn q e2 k)
    · rcases own' k q b with ⟨e3, e4⟩ | ⟨_, b1⟩
      · exact absurd a1 (hn q e4 j)
      · exact I.dis j k q a1 b1
theorem I3.putO (I : I3 Z B W M H σ δ) {i : Nat} {p : Addr} {ho : HO} {y : OD} (hi : ∀ p, (i, p) ∉ W) (hl : i < δ.length) (hp : H p = some ho) (hy : ODAt Z M ho y) (hm : M p = none) (hB : B.h p = none) (hn : ∀ j, ¬ Own σ δ j p) :
    I3 Z B W M H (σ.set i (some (.ref p))) (δ.set i (.own y)) :=
  I.putS hi hl ⟨p, ho, rfl, hp, hy, hm⟩ (fun _ h => h ▸ hB) fun _ h => h ▸ hn
/-- what slot i holds alone is a datum from now on -/
theorem I3.freeze (I : I3 Z B W M H σ δ) {i : Nat} {xs : List D} (hi : ∀ p, (i, p) ∉ W) (h : δ[i]? = some (.own (.lst xs))) : ∃ M', Ex M M' ∧ I3 Z B W M' H σ (δ.set i (.d (.lst xs))) := by
  obtain ⟨o, e1, p, ho, rfl, e3, e4, e5⟩ := I.sl i _ h
  obtain ⟨vs, rfl, a⟩ := e4.lstI
  have hO : Own σ δ i p := Own.mk e1 h
  have hl : i < δ.length := (List.getElem?_eq_some_iff.mp h).1
  have ex : Ex M (upd M p (.lst vs)) := Ex.new e5
  have es : σ.set i (some (.ref p)) = σ := by
    apply List.ext_getElem?
    intro j
    by_cases e : i = j
    · subst e; rw [List.getElem?_set_self (by rw [I.len]; exact hl), e1]
    · rw [List.getElem?_set_ne e]
  have bad : ∀ j q, Own σ (δ.set i (.d (.lst xs))) j q → i ≠ j ∧ Own σ δ j q := fun j q o => by
    rw [← es] at o
    exact Own.setN (hol_d _) o
  refine ⟨_, ex, fun b u q => ?_, fun a u e n => ?_, I.keep, by rw [List.length_set]; exact I.len, fun j t e => ?_, fun j q w => ?_, fun j q o => I.own j q (bad j q o).2, fun j k q a b => I.dis j k q (bad j q a).2 (bad k q b).2⟩
  · by_cases z : b = p
    · subst z; rw [upd_same] at q; cases q; exact e3
    · rw [upd_ne z] at q; exact I.ex b u q
  · rcases I.own i p hO with z | z
    · exact absurd z (hi p)
    · rw [upd_ne (ne_of_none e z)]; exact I.mg a u e n
  · by_cases e' : i = j
    · subst e'
      rw [List.getElem?_set_self hl] at e; cases e
      exact ⟨_, e1, _, rfl, .lst upd_same a.len (a.mono ex).at'⟩
    · rw [List.getElem?_set_ne e'] at e
      obtain ⟨v, c, d⟩ := I.sl j t e
      refine ⟨v, c, ?_⟩
      cases t with
      | no => trivial
      | d x => obtain ⟨u, f, g⟩ := d; exact ⟨u, f, g.mono ex⟩
      | own z =>
        obtain ⟨q, hq, f, g, k, l⟩ := d
        subst f
        have hq' : q ≠ p := fun zz => e' (I.dis i j p hO (zz ▸ Own.mk c e))
        exact ⟨q, hq, rfl, g, k.mono ex, by rw [upd_ne hq']; exact l⟩
      | deal q cs n =>
        obtain ⟨r, f, g, k, l, m, o⟩ := d
        subst f
        have hr : r ≠ p := fun zz => e' (I.dis i j p hO (zz ▸ ⟨r, _, c, e, .inl rfl⟩))
        have hq : q ≠ p := fun zz => e' (I.dis i j p hO (zz ▸ ⟨r, _, c, e, .inr rfl⟩))
        exact ⟨r, rfl, g, k, by rw [upd_ne hr]; exact l, by rw [upd_ne hq]; exact m, o⟩
  · have e' : i ≠ j := fun e => hi q (e ▸ w)
    exact (I.bor j q w).same rfl (List.getElem?_set_ne e')
/-- all that the slots hold alone -/
def holds : Option V → S → List Addr
  | some (.ref p), .own _ => [p]
  | some (.ref p), .deal q _ _ => [p, q]
  | _, _ => []
theorem mem_holds {o : Option V} {s : S} {a : Addr} : a ∈ holds o s ↔ ∃ p, o = some (.ref p) ∧ Hol p s a := by
  cases o with
  | none => simp [holds]
  | some v =>
    cases v with
    | ref p => cases s <;> simp [holds, Hol]
    | _ => simp [holds]
def owns : Nat → St → List S → List (Nat × Addr)
  | i, o :: σ, s :: δ => (holds o s).map (fun a => (i, a)) ++ owns (i + 1) σ δ
  | _, _, _ => []
theorem owns_of : ∀ (σ : St) (δ : List S) (n i : Nat) (p : Addr), (i, p) ∈ owns n σ δ ↔ ∃ j, i = n + j ∧ Own σ δ j p
  | [], δ, n, i, p => by
    constructor
    · intro h; cases δ <;> simp [owns] at h
    · rintro ⟨j, _, q, s, h, _⟩; simp at h
  | o :: σ, [], n, i, p => by
    constructor
    · intro h; simp [owns] at h
    · rintro ⟨j, _, q, s, _, h, _⟩; simp at h
  | o :: σ, s :: δ, n, i, p => by
    have ih := owns_of σ δ (n + 1) i p
    have tail : (∃ j, i = n + 1 + j ∧ Own σ δ j p) ↔ ∃ j, i = n + (j + 1) ∧ Own (o :: σ) (s :: δ) (j + 1) p := by
      constructor
      · rintro ⟨j, e, h⟩; exact ⟨j, by omega, by unfold Own at h ⊢; simpa using h⟩
      · rintro ⟨j, e, h⟩; exact ⟨j, by omega, by unfold Own at h ⊢; simpa using h⟩
    have zero : Own (o :: σ) (s :: δ) 0 p ↔ p ∈ holds o s := by
      rw [mem_holds]
      unfold Own
      constructor
      · rintro ⟨q, u, a, b, c⟩; simp at a b; subst b; exact ⟨q, a, c⟩
      · rintro ⟨q, a, c⟩; exact ⟨q, s, by simp [a], by simp, c⟩
    rw [show owns n (o :: σ) (s :: δ) = (holds o s).map (fun a => (n, a)) ++ owns (n + 1) σ δ from rfl, List.mem_append, ih, tail, List.mem_map]
    constructor
    · rintro (⟨a, h, e⟩ | ⟨j, e, h⟩)
      · cases e; exact ⟨0, rfl, zero.mpr h⟩
      · exact ⟨j + 1, e, h⟩
    · rintro ⟨j, e, h⟩
      cases j with
      | zero => exact .inl ⟨p, zero.mp h, by rw [e]; rfl⟩
      | succ j => exact .inr ⟨j, e, h⟩
theorem mem_owns {i : Nat} {p : Addr} : (i, p) ∈ owns 0 σ δ ↔ Own σ δ i p := by
  rw [owns_of]
  constructor
  · rintro ⟨j, e, h⟩; rw [show i = j by omega]; exact h
  · intro h; exact ⟨i, by omega, h⟩
/-- the same state as from here on -/
theorem I3.rebase (I : I3 Z B W M H σ δ) : I3 Z ⟨H, M⟩ (owns 0 σ δ) M H σ δ :=
  ⟨I.ex, fun _ _ _ e _ => e, fun _ _ e _ => e, I.len, I.sl, fun _ _ w => mem_owns.mp w, fun _ _ o => .inl (mem_owns.mpr o), I.dis⟩
theorem I3.back {W2 : List (Nat × Addr)} {σ' : St} {δ' : List S} (I : I3 Z B W M H σ δ) (hW : ∀ i p, (i, p) ∈ W2 ↔ Own σ δ i p) (J : I3 Z ⟨H, M⟩ W2 M' H' σ' δ') : I3 Z B W M' H' σ' δ' := by
  refine ⟨J.ex, fun a o e n => ?_, fun a o e n => J.keep a o (I.keep a o e n) fun i hi => ?_, J.len, J.sl, fun i p w => J.bor i p ((hW i p).mpr (I.bor i p w)), fun i p o => ?_, J.dis⟩
  · cases q : H a with
    | none => rw [I.fresh q] at e; cases e
    | some u => exact fun t => J.mg a u q (I.mg a o e n t) (I.nt e t q)
  · rcases I.own i a ((hW i a).mp hi) with q | q
    · exact n i q
    · rw [e] at q; cases q
  · rcases J.own i p o with q | q
    · exact I.own i p ((hW i p).mp q)
    · exact .inr (I.fresh q)
/-- what nobody here holds stays -/
theorem I3.stays {a : Addr} {o : HO} (J : I3 Z B W M H σ δ) (h : B.h a = some o) (hm : B.m a = none) (hn : ∀ i, (i, a) ∉ W) (t : NT o) : H a = some o ∧ (∀ i, ¬ Own σ δ i a) ∧ M a = none := by
  refine ⟨J.keep a o h hn, fun i q => ?_, J.mg a o h hm t⟩
  rcases J.own i a q with z | z
  · exact hn i z
  · rw [h] at z; cases z
end
end G
set_option Elab.async false
set_option linter.all false
set_option maxRecDepth 100000
set_option maxHeartbeats 4000000
namespace G
open PySem L2
section
variable {Z : Wd} {M H M' H' : Hp} {B : Bas} {W : List (Nat × Addr)} {σ : St} {δ : List S}
/-- a new object that nobody holds becomes a datum -/
theorem I3.hold (I : I3 Z B W M H σ δ) {p : Addr} {o : HO} (hp : H p = some o) (hm : M p = none) (hB : B.h p = none) (hn : ∀ i, ¬ Own σ δ i p) : I3 Z B W (upd M p o) H σ δ := by
  have ex : Ex M (upd M p o) := Ex.new hm
  refine ⟨fun b u q => ?_, fun a u e n => by rw [upd_ne (ne_of_none e hB)]; exact I.mg a u e n, I.keep, I.len, fun j t e => ?_, I.bor, I.own, I.dis⟩
  · by_cases z : b = p
    · subst z; rw [upd_same] at q; cases q; exact hp
    · rw [upd_ne z] at q; exact I.ex b u q
  · obtain ⟨v, c, d⟩ := I.sl j t e
    refine ⟨v, c, ?_⟩
    cases t with
    | no => trivial
    | d x => obtain ⟨u, f, g⟩ := d; exact ⟨u, f, g.mono ex⟩
    | own z =>
      obtain ⟨q, hq, f, g, k, l⟩ := d
      subst f
      have hq' : q ≠ p := fun zz => hn j (zz ▸ Own.mk c e)
      exact ⟨q, hq, rfl, g, k.mono ex, by rw [upd_ne hq']; exact l⟩
    | deal q cs n =>
      obtain ⟨r, f, g, k, l, m, o⟩ := d
      subst f
      have hr : r ≠ p := fun zz => hn j (zz ▸ ⟨r, _, c, e, .inl rfl⟩)
      have hq : q ≠ p := fun zz => hn j (zz ▸ ⟨r, _, c, e, .inr rfl⟩)
      exact ⟨r, rfl, g, k, by rw [upd_ne hr]; exact l, by rw [upd_ne hq]; exact m, o⟩
/-! ### judgements -/
def ResOk (Z : Wd) (B : Bas) (M H : Hp) (σ : St) (δ : List S) (v : V) : S → Prop
  | .no => False
  | .d x => At Z M v x
  | .own y => ∃ p ho, v = .ref p ∧ H p = some ho ∧ ODAt Z M ho y ∧ M p = none ∧ B.h p = none ∧ ∀ i, ¬ Own σ δ i p
  | .deal q cs n => ∃ p, v = .ref p ∧ SlotOk Z M H (some v) (.deal q cs n) ∧ ∀ a, Hol p (.deal q cs n) a → B.h a = none ∧ ∀ i, ¬ Own σ δ i a
/-- an expression: its answer is a datum, or a new object that nobody holds -/
def XR (Z : Wd) (te : TE) (δ : List S) (Φ : S → List S → Prop) : Prop :=
  ∀ B W M H σ (Q : VK), I3 Z B W M H σ δ → (∀ M' H' δ' v s, Φ s δ' → Ex M M' → I3 Z B W M' H' σ δ' → ResOk Z B M' H' σ δ' v s → Q v H') → te σ H Q
def onD (Φ : D → List S → Prop) : S → List S → Prop
  | .d x, δ => Φ x δ
  | _, _ => False
def onO (Φ : OD → List S → Prop) : S → List S → Prop
  | .own y, δ => Φ y δ
  | _, _ => False
abbrev XE (Z : Wd) (te : TE) (δ : List S) (Φ : D → List S → Prop) : Prop := XR Z te δ (onD Φ)
abbrev XO (Z : Wd) (te : TE) (δ : List S) (Φ : OD → List S → Prop) : Prop := XR Z te δ (onO Φ)
def XT (Z : Wd) (tt : TT) (δ : List S) (Φ : Bool → List S → Prop) : Prop :=
  ∀ B W M H σ (Q : Bool → Hp → Prop), I3 Z B W M H σ δ → (∀ M' H' δ' b, Φ b δ' → Ex M M' → I3 Z B W M' H' σ δ' → Q b H') → tt σ H Q
def XA (Z : Wd) (ta : TA) (δ : List S) (Φ : List D → List S → Prop) : Prop :=
  ∀ B W M H σ (Q : List V → Hp → Prop), I3 Z B W M H σ δ → (∀ M' H' δ' vs ds, Φ ds δ' → Ex M M' → I3 Z B W M' H' σ δ' → AtL Z M' vs ds → Q vs H') → ta σ H Q
/-- a target; vs: the slots that it may change -/
def XG (Z : Wd) (vs bs : List Nat) (g : TG) (x : D) (δ : List S) (Φ : List S → Prop) : Prop :=
  ∀ B W M H σ v (Q : St → Hp → Prop), W.map (·.1) = bs → I3 Z B W M H σ δ → At Z M v x →
    (∀ M' H' σ' δ', Φ δ' → Ex M M' → I3 Z B W M' H' σ' δ' → (∀ j, j ∉ vs → σ'[j]? = σ[j]?) → σ'.length = σ.length → Q σ' H') → g v σ H Q
structure Po where
  N : List S → Prop
  R : S → List S → Prop
  B : List S → Prop := fun _ => False
  C : List S → Prop := fun _ => False
  X : Bas → List (Nat × Addr) → Hp → Prop := fun _ _ _ => True
def RetOk (Z : Wd) (B : Bas) (M H : Hp) (v : V) : S → Prop
  | .no => False
  | .d x => At Z M v x
  | .own y => ∃ p ho, v = .ref p ∧ H p = some ho ∧ ODAt Z M ho y ∧ M p = none ∧ B.h p = none
  | .deal q cs n => ∃ p, v = .ref p ∧ SlotOk Z M H (some v) (.deal q cs n) ∧ ∀ a, Hol p (.deal q cs n) a → B.h a = none
structure EndsOk (Z : Wd) (B : Bas) (W : List (Nat × Addr)) (M : Hp) (P : Po) (E : Ends) : Prop where
  nx : ∀ M' H' σ' δ', P.N δ' → Ex M M' → I3 Z B W M' H' σ' δ' → E.nx σ' H'
  rt : ∀ M' H' σ' δ' v s, P.R s δ' → Ex M M' → I3 Z B W M' H' σ' δ' → RetOk Z B M' H' v s → E.rt v H'
  bk : ∀ M' H' σ' δ', P.B δ' → Ex M M' → I3 Z B W M' H' σ' δ' → E.bk σ' H'
  ct : ∀ M' H' σ' δ', P.C δ' → Ex M M' → I3 Z B W M' H' σ' δ' → E.ct σ' H'
  xc : ∀ M', Ex M M' → P.X B W M'
def XS (Z : Wd) (bs : List Nat) (ts : TS) (δ : List S) (P : Po) : Prop :=
  ∀ B W M H σ E, W.map (·.1) = bs → I3 Z B W M H σ δ → EndsOk Z B W M P E → ts E σ H
theorem EndsOk.mono {P : Po} {E : Ends} (e : Ex M M') (h : EndsOk Z B W M P E) : EndsOk Z B W M' P E :=
  ⟨fun _ _ _ _ p x => h.nx _ _ _ _ p (e.tr x), fun _ _ _ _ _ _ p x => h.rt _ _ _ _ _ _ p (e.tr x), fun _ _ _ _ p x => h.bk _ _ _ _ p (e.tr x), fun _ _ _ _ p x => h.ct _ _ _ _ p (e.tr x), fun _ x => h.xc _ (e.tr x)⟩
variable {te ta tb tv : TE} {tt t u : TT} {Φ : D → List S → Prop} {Ψ : S → List S → Prop}
theorem XE.run {Q : VK} (h : XE Z te δ Φ) (I : I3 Z B W M H σ δ) (k : ∀ M' H' δ' v d, Φ d δ' → Ex M M' → I3 Z B W M' H' σ δ' → At Z M' v d → Q v H') : te σ H Q :=
  h B W M H σ Q I fun M' H' δ' v s p e I' r => by
    cases s with
    | d x => exact k M' H' δ' v x p e I' r
    | _ => exact False.elim p
theorem XE.mk (h : ∀ B W M H σ (Q : VK), I3 Z B W M H σ δ → (∀ M' H' δ' v d, Φ d δ' → Ex M M' → I3 Z B W M' H' σ δ' → At Z M' v d → Q v H') → te σ H Q) : XE Z te δ Φ :=
  fun B W M H σ Q I k => h B W M H σ Q I fun M' H' δ' v d p e I' a => k M' H' δ' v (.d d) p e I' a
theorem XO.mk {Φ : OD → List S → Prop} (h : ∀ B W M H σ (Q : VK), I3 Z B W M H σ δ → (∀ M' H' δ' p ho y, Φ y δ' → Ex M M' → I3 Z B W M' H' σ δ' → H' p = some ho → ODAt Z M' ho y → M' p = none → B.h p = none → (∀ i, ¬ Own σ δ' i p) → Q (.ref p) H') → te σ H Q) : XO Z te δ Φ :=
  fun B W M H σ Q I k => h B W M H σ Q I fun M' H' δ' p ho y f e I' a b c d g => k M' H' δ' _ (.own y) f e I' ⟨p, ho, rfl, a, b, c, d, g⟩
theorem XO.run {Q : VK} {Φ : OD → List S → Prop} (h : XO Z te δ Φ) (I : I3 Z B W M H σ δ) (k : ∀ M' H' δ' p ho y, Φ y δ' → Ex M M' → I3 Z B W M' H' σ δ' → H' p = some ho → ODAt Z M' ho y → M' p = none → B.h p = none → (∀ i, ¬ Own σ δ' i p) → Q (.ref p) H') : te σ H Q :=
  h B W M H σ Q I fun M' H' δ' v s f e I' r => by
    cases s with
    | own y => obtain ⟨p, ho, rfl, a, b, c, d, g⟩ := r; exact k M' H' δ' p ho y f e I' a b c d g
    | _ => exact False.elim f
theorem XR.imp {Ψ' : S → List S → Prop} (h : XR Z te δ Ψ) (k : ∀ s δ', Ψ s δ' → Ψ' s δ') : XR Z te δ Ψ' :=
  fun B W M H σ Q I q => h B W M H σ Q I fun M' H' δ' v s p => q M' H' δ' v s (k s δ' p)
/-- a new list that is used as a datum -/
theorem xe_ofO (h : XO Z te δ fun y δ' => ∃ xs, y = .lst xs ∧ Φ (.lst xs) δ') : XE Z te δ Φ := XE.mk fun B W M H σ Q I k =>
  h.run I fun M' H' δ' p ho y f e I' a b c d g => by
    obtain ⟨xs, rfl, f⟩ := f
    obtain ⟨vs, rfl, l⟩ := b.lstI
    have ex : Ex M' (upd M' p (.lst vs)) := Ex.new c
    exact k _ _ δ' _ _ f (e.tr ex) (I'.hold a c d g) (.lst upd_same l.len (l.mono ex).at')
/-! ### names, constants -/
theorem xe_var {i : Nat} {d : D} (h : δ[i]? = some (.d d)) (k : Φ d δ) : XE Z (tVar i) δ Φ := XE.mk fun B W M H σ Q I q => by
  obtain ⟨o, e, v, rfl, a⟩ := I.sl i _ h
  exact ⟨v, e, q M H δ v d k Ex.rfl' I a⟩
theorem xe_non (k : Φ .non δ) : XE Z (tC .non) δ Φ := XE.mk fun B W M H σ Q I q => q M H δ _ _ k Ex.rfl' I .non
theorem xe_bl {b : Bool} (k : Φ (.bl b) δ) : XE Z (tC (.bl b)) δ Φ := XE.mk fun B W M H σ Q I q => q M H δ _ _ k Ex.rfl' I .bl
theorem xe_int {b : Int} (k : Φ (.int b) δ) : XE Z (tC (.int b)) δ Φ := XE.mk fun B W M H σ Q I q => q M H δ _ _ k Ex.rfl' I .int
theorem xe_str {b : Str} (k : Φ (.str b) δ) : XE Z (tC (.str b)) δ Φ := XE.mk fun B W M H σ Q I q => q M H δ _ _ k Ex.rfl' I .str
/-! ### ints -/
theorem xe_I0 {g : Int → Int → Int} (h : XE Z ta δ fun a δ1 => XE Z tb δ1 fun b δ2 => ∃ i j, a = .int i ∧ b = .int j ∧ Φ (.int (g i j)) δ2) : XE Z (tOp (rI0 fun i j => .int (g i j)) ta tb) δ Φ := XE.mk fun B W M H σ Q I q =>
  h.run I fun M1 H1 δ1 x a h1 e1 I1 at1 => XE.run h1 I1 fun M2 H2 δ2 y b h2 e2 I2 at2 => by
    obtain ⟨i, j, rfl, rfl, f⟩ := h2
    cases at1; cases at2
    exact ⟨i, j, rfl, rfl, q M2 H2 δ2 _ _ f (e1.tr e2) I2 .int⟩
theorem xe_I {C : Int → Int → Prop} {g : Int → Int → Int} (h : XE Z ta δ fun a δ1 => XE Z tb δ1 fun b δ2 => ∃ i j, a = .int i ∧ b = .int j ∧ C i j ∧ Φ (.int (g i j)) δ2) : XE Z (tOp (rI C fun i j => .int (g i j)) ta tb) δ Φ := XE.mk fun B W M H σ Q I q =>
  h.run I fun M1 H1 δ1 x a h1 e1 I1 at1 => XE.run h1 I1 fun M2 H2 δ2 y b h2 e2 I2 at2 => by
    obtain ⟨i, j, rfl, rfl, c, f⟩ := h2
    cases at1; cases at2
    exact ⟨i, j, rfl, rfl, c, q M2 H2 δ2 _ _ f (e1.tr e2) I2 .int⟩
theorem xe_B0 {g : Int → Int → Bool} (h : XE Z ta δ fun a δ1 => XE Z tb δ1 fun b δ2 => ∃ i j, a = .int i ∧ b = .int j ∧ Φ (.bl (g i j)) δ2) : XE Z (tOp (rI0 fun i j => .bl (g i j)) ta tb) δ Φ := XE.mk fun B W M H σ Q I q =>
  h.run I fun M1 H1 δ1 x a h1 e1 I1 at1 => XE.run h1 I1 fun M2 H2 δ2 y b h2 e2 I2 at2 => by
    obtain ⟨i, j, rfl, rfl, f⟩ := h2
    cases at1; cases at2
    exact ⟨i, j, rfl, rfl, q M2 H2 δ2 _ _ f (e1.tr e2) I2 .bl⟩
/-! ### scalars -/
def sc : D → Option V
  | .non => some .non | .bl b => some (.bl b) | .int i => some (.int i) | .str s => some (.str s)
  | _ => none
theorem At.scal {v w : V} {d : D} (a : At Z M v d) (h : sc d = some w) : v = w := by
  cases a <;> simp [sc] at h <;> exact h
theorem xe_eq (h : XE Z ta δ fun a δ1 => XE Z tb δ1 fun b δ2 => ∃ v w, sc a = some v ∧ sc b = some w ∧ scal v w = true ∧ Φ (.bl (decide (v = w))) δ2) : XE Z (tOp rEq ta tb) δ Φ := XE.mk fun B W M H σ Q I q =>
  h.run I fun M1 H1 δ1 x a h1 e1 I1 at1 => XE.run h1 I1 fun M2 H2 δ2 y b h2 e2 I2 at2 => by
    obtain ⟨v, w, s1, s2, c, f⟩ := h2
    cases at1.scal s1; cases at2.scal s2
    exact ⟨c, q M2 H2 δ2 _ _ f (e1.tr e2) I2 .bl⟩
theorem xe_ne (h : XE Z ta δ fun a δ1 => XE Z tb δ1 fun b δ2 => ∃ v w, sc a = some v ∧ sc b = some w ∧ scal v w = true ∧ Φ (.bl (!decide (v = w))) δ2) : XE Z (tOp rNe ta tb) δ Φ := XE.mk fun B W M H σ Q I q =>
  h.run I fun M1 H1 δ1 x a h1 e1 I1 at1 => XE.run h1 I1 fun M2 H2 δ2 y b h2 e2 I2 at2 => by
    obtain ⟨v, w, s1, s2, c, f⟩ := h2
    cases at1.scal s1; cases at2.scal s2
    exact ⟨c, q M2 H2 δ2 _ _ f (e1.tr e2) I2 .bl⟩
/-! ### any data: == and != -/
mutual
def py : D → PyData
  | .non => .none | .bl b => .bool b | .int i => .int i | .str s => .str s
  | .lst xs => .list (pyL xs) | .tup xs => .tuple (pyL xs)
  | .obj _ _ => .none | .scr ns => .list (ns.map .int) | .exc _ _ _ _ => .none | .dic _ _ => .none | .tupF _ => .none | .ref _ => .none | .tupT xs => .tuple (pyL xs) | .dicF _ _ => .none | .dicT _ _ => .none
def pyL : List D → List PyData
  | [] => []
  | x :: xs => py x :: pyL xs
end
mutual
def pla : D → Bool
  | .non => true | .bl b => true | .int i => true | .str s => true
  | .lst xs => plaL xs | .tup xs => plaL xs
  | .obj _ _ => false | .scr _ => false | .exc _ _ _ _ => false | .dic _ _ => false | .tupF _ => false | .ref _ => false | .tupT xs => plaL xs | .dicF _ _ => false | .dicT _ _ => false
def plaL : List D → Bool
  | [] => true
  | x :: xs => pla x && plaL xs
end
mutual
theorem At.dp : ∀ (d : D) (v : V), At Z M v d → Ex M H → pla d = true → Dp Z.K H v (py d)
  | .non, _, .non, _, _ => .non
  | .bl _, _, .bl, _, _ => .bl _
  | .int _, _, .int, _, _ => .int _
  | .str _, _, .str, _, _ => .str _
  | .lst ds, _, .lst h l k, e, p => .lst (SqL.of (e _ _ h)) (AtL.dp ds _ ⟨l, k⟩ e p)
  | .tup ds, _, .tup h l k, e, p => .tup (sqT_mono e h) (AtL.dp ds _ ⟨l, k⟩ e p)
  | .tupT ds, _, .tupT h l k, e, p => .tup (.inl (.inl (e _ _ h))) (AtL.dp ds _ ⟨l, k⟩ e p)
theorem AtL.dp : ∀ (ds : List D) (vs : List V), AtL Z M vs ds → Ex M H → plaL ds = true → DpAll Z.K H vs (pyL ds)
  | [], vs, a, _, _ => by rw [a.inv0]; exact .nil
  | d :: ds, vs, a, e, p => by
    obtain ⟨v, ws, rfl, a1, a2⟩ := a.inv
    have p' : (pla d && plaL ds) = true := p
    rw [Bool.and_eq_true] at p'
    exact .cons (At.dp d v a1 e p'.1) (AtL.dp ds ws a2 e p'.2)
end
theorem xe_eqD (h : XE Z ta δ fun a δ1 => XE Z tb δ1 fun b δ2 => pla a = true ∧ pla b = true ∧ SeqAt.shaped (py a) = true ∧ SeqAt.shaped (py b) = true ∧ Φ (.bl (PyData.eqv (py a) (py b))) δ2) : XE Z (tOp (rEqD Z.K) ta tb) δ Φ := XE.mk fun B W M H σ Q I q =>
  h.run I fun M1 H1 δ1 x a h1 e1 I1 at1 => XE.run h1 I1 fun M2 H2 δ2 y b h2 e2 I2 at2 => by
    obtain ⟨pa, pb, sa, sb, f⟩ := h2
    exact ⟨_, _, At.dp a x (at1.mono e2) I2.ex pa, At.dp b y at2 I2.ex pb, sa, sb, q M2 H2 δ2 _ _ f (e1.tr e2) I2 .bl⟩
theorem xe_neD (h : XE Z ta δ fun a δ1 => XE Z tb δ1 fun b δ2 => pla a = true ∧ pla b = true ∧ SeqAt.shaped (py a) = true ∧ SeqAt.shaped (py b) = true ∧ Φ (.bl (!PyData.eqv (py a) (py b))) δ2) : XE Z (tOp (rNeD Z.K) ta tb) δ Φ := XE.mk fun B W M H σ Q I q =>
  h.run I fun M1 H1 δ1 x a h1 e1 I1 at1 => XE.run h1 I1 fun M2 H2 δ2 y b h2 e2 I2 at2 => by
    obtain ⟨pa, pb, sa, sb, f⟩ := h2
    exact ⟨_, _, At.dp a x (at1.mono e2) I2.ex pa, At.dp b y at2 I2.ex pb, sa, sb, q M2 H2 δ2 _ _ f (e1.tr e2) I2 .bl⟩
/-! ### tests -/
variable {Θ : Bool → List S → Prop}
theorem xt_test (h : XE Z te δ fun d δ' => ∃ b, d = .bl b ∧ Θ b δ') : XT Z (tTest te) δ Θ := fun B W M H σ Q I q =>
  h.run I fun M1 H1 δ1 x a h1 e1 I1 at1 => by
    obtain ⟨b, rfl, f⟩ := h1
    cases at1
    exact ⟨b, rfl, q M1 H1 δ1 b f e1 I1⟩
theorem xt_B (h : XE Z te δ fun d δ' => ∃ b, d = .bl b ∧ Θ b δ') : XT Z (tB te) δ Θ := fun B W M H σ Q I q =>
  h.run I fun M1 H1 δ1 x a h1 e1 I1 at1 => by
    obtain ⟨b, rfl, f⟩ := h1
    cases at1
    exact ⟨b, rfl, q M1 H1 δ1 b f e1 I1⟩
theorem xt_and (h : XT Z t δ fun b δ' => if b = true then XT Z u δ' Θ else Θ false δ') : XT Z (tAnd t u) δ Θ := fun B W M H σ Q I q =>
  h B W M H σ _ I fun M1 H1 δ1 b h1 e1 I1 => by
    cases b with
    | true => rw [if_pos rfl] at h1 ⊢; exact h1 B W M1 H1 σ Q I1 fun M2 H2 δ2 c h2 e2 I2 => q M2 H2 δ2 c h2 (e1.tr e2) I2
    | false => rw [if_neg Bool.false_ne_true] at h1 ⊢; exact q M1 H1 δ1 _ h1 e1 I1
theorem xt_or (h : XT Z t δ fun b δ' => if b = true then Θ true δ' else XT Z u δ' Θ) : XT Z (tOr t u) δ Θ := fun B W M H σ Q I q =>
  h B W M H σ _ I fun M1 H1 δ1 b h1 e1 I1 => by
    cases b with
    | false => rw [if_neg Bool.false_ne_true] at h1 ⊢; exact h1 B W M1 H1 σ Q I1 fun M2 H2 δ2 c h2 e2 I2 => q M2 H2 δ2 c h2 (e1.tr e2) I2
    | true => rw [if_pos rfl] at h1 ⊢; exact q M1 H1 δ1 _ h1 e1 I1
theorem xt_not (h : XT Z t δ fun b δ' => Θ (!b) δ') : XT Z (tNot t) δ Θ := fun B W M H σ Q I q =>
  h B W M H σ _ I fun M1 H1 δ1 b h1 e1 I1 => q M1 H1 δ1 _ h1 e1 I1
theorem xt_yes (k : Θ true δ) : XT Z tYes δ Θ := fun B W M H σ Q I q => q M H δ true k Ex.rfl' I
/-- truth -/
def tru : D → Option Bool
  | .non => some false | .bl b => some b | .int i => some (i != 0) | .str s => some (decide (s.length ≤ sizeLine) && ((s.length : Int) != 0)) | .lst xs => some (!xs.isEmpty) | .tup xs => some (!xs.isEmpty)
  | _ => none
theorem empty_of {vs : List V} {ds : List D} (a : AtL Z M vs ds) : (!ds.isEmpty) = !vs.isEmpty := by
  have := a.len
  cases vs <;> cases ds <;> simp at this ⊢
theorem tru_of {v : V} {d : D} {b : Bool} (a : At Z M v d) (e : Ex M H) (hs : ∀ s, d = .str s → s.length ≤ sizeLine) (h : tru d = some b) : TruV Z.K v H b := by
  cases a with
  | non => cases h; rfl
  | bl => cases h; rfl
  | int => cases h; rfl
  | str =>
    have hs := hs _ rfl
    refine ⟨hs, ?_⟩
    simp only [tru, hs, decide_true, Bool.true_and, Option.some.injEq] at h
    exact h.symm
  | lst h1 l k => cases h; exact .inl ⟨_, SqL.of (e _ _ h1), empty_of ⟨l, k⟩⟩
  | tup h1 l k => cases h; exact .inr (.inl ⟨_, sqT_mono e h1, empty_of ⟨l, k⟩⟩)
  | _ => cases h
theorem xt_truth (h : XE Z ta δ fun d δ' => (∀ s, d = .str s → s.length ≤ sizeLine) ∧ ∃ b, tru d = some b ∧ Θ b δ') : XT Z (fun σ H Q => ta σ H fun x H' => ∃ k, TruV Z.K x H' k ∧ Q k H') δ Θ := fun B W M H σ Q I q =>
  h.run I fun M1 H1 δ1 x a h1 e1 I1 at1 => by
    obtain ⟨hs, b, e, f⟩ := h1
    exact ⟨b, tru_of at1 I1.ex hs e, q M1 H1 δ1 b f e1 I1⟩
/-- and, or, not as values -/
theorem xe_andV (h : XE Z ta δ fun a δ1 => ∃ c, a = .bl c ∧ if c = true then XE Z tb δ1 Φ else Φ (.bl false) δ1) : XE Z (tAndV ta tb) δ Φ := XE.mk fun B W M H σ Q I q =>
  h.run I fun M1 H1 δ1 x a h1 e1 I1 at1 => by
    obtain ⟨c, rfl, f⟩ := h1
    cases at1
    refine ⟨c, rfl, ?_⟩
    cases c with
    | true => rw [if_pos rfl] at f ⊢; exact XE.run f I1 fun M2 H2 δ2 y b h2 e2 I2 at2 => q M2 H2 δ2 y b h2 (e1.tr e2) I2 at2
    | false => rw [if_neg Bool.false_ne_true] at f ⊢; exact q M1 H1 δ1 _ _ f e1 I1 .bl
theorem xe_orV (h : XE Z ta δ fun a δ1 => ∃ c, a = .bl c ∧ if c = true then Φ (.bl true) δ1 else XE Z tb δ1 Φ) : XE Z (tOrV ta tb) δ Φ := XE.mk fun B W M H σ Q I q =>
  h.run I fun M1 H1 δ1 x a h1 e1 I1 at1 => by
    obtain ⟨c, rfl, f⟩ := h1
    cases at1
    refine ⟨c, rfl, ?_⟩
    cases c with
    | false => rw [if_neg Bool.false_ne_true] at f ⊢; exact XE.run f I1 fun M2 H2 δ2 y b h2 e2 I2 at2 => q M2 H2 δ2 y b h2 (e1.tr e2) I2 at2
    | true => rw [if_pos rfl] at f ⊢; exact q M1 H1 δ1 _ _ f e1 I1 .bl
theorem xr_if (h : XT Z t δ fun b δ' => if b = true then XR Z ta δ' Ψ else XR Z tb δ' Ψ) : XR Z (tIf t ta tb) δ Ψ := fun B W M H σ Q I q =>
  h B W M H σ _ I fun M1 H1 δ1 b h1 e1 I1 => by
    cases b with
    | true => rw [if_pos rfl] at h1 ⊢; exact h1 B W M1 H1 σ Q I1 fun M2 H2 δ2 v s h2 e2 I2 => q M2 H2 δ2 v s h2 (e1.tr e2) I2
    | false => rw [if_neg Bool.false_ne_true] at h1 ⊢; exact h1 B W M1 H1 σ Q I1 fun M2 H2 δ2 v s h2 e2 I2 => q M2 H2 δ2 v s h2 (e1.tr e2) I2
/-! ### argument lists, displays -/
variable {Λ : List D → List S → Prop} {ts : TA}
theorem xa_nil (k : Λ [] δ) : XA Z tNil δ Λ := fun B W M H σ Q I q => q M H δ [] [] k Ex.rfl' I .nil
theorem xa_cons (h : XE Z te δ fun d δ1 => XA Z ts δ1 fun ds δ2 => Λ (d :: ds) δ2) : XA Z (tCons te ts) δ Λ := fun B W M H σ Q I q =>
  h.run I fun M1 H1 δ1 x a h1 e1 I1 at1 => h1 B W M1 H1 σ _ I1 fun M2 H2 δ2 vs ds h2 e2 I2 at2 => q M2 H2 δ2 _ _ h2 (e1.tr e2) I2 (.cons (at1.mono e2) at2)
theorem xa_star (h : XE Z te δ fun d δ1 => ∃ xs, (d = .lst xs ∨ d = .tup xs) ∧ XA Z ts δ1 fun ds δ2 => Λ (xs ++ ds) δ2) : XA Z (StX.tStar Z.K te ts) δ Λ := fun B W M H σ Q I q =>
  h.run I fun M1 H1 δ1 x a h1 e1 I1 at1 => by
    obtain ⟨xs, hx, h1⟩ := h1
    have : ∃ p vs, x = .ref p ∧ (SqT Z.K H1 p vs ∨ SqL Z.K H1 p vs) ∧ AtL Z M1 vs xs := by
      rcases hx with rfl | rfl
      · cases at1 with | lst h l k => exact ⟨_, _, rfl, .inr (SqL.of (I1.ex _ _ h)), l, k⟩
      · cases at1 with | tup h l k => exact ⟨_, _, rfl, .inl (sqT_mono I1.ex h), l, k⟩
    obtain ⟨p, vs, rfl, sq, al⟩ := this
    exact ⟨p, vs, rfl, sq, h1 B W M1 H1 σ _ I1 fun M2 H2 δ2 ws ds h2 e2 I2 at2 => q M2 H2 δ2 _ _ h2 (e1.tr e2) I2 (AtL.app (al.mono e2) at2)⟩
theorem xe_tup (h : XA Z ts δ fun ds δ1 => ds.length ≤ 1000000 ∧ Φ (.tup ds) δ1) : XE Z (tTup ts) δ Φ := XE.mk fun B W M H σ Q I q =>
  h B W M H σ _ I fun M1 H1 δ1 vs ds h1 e1 I1 al => by
    refine ⟨Nat.le_trans (by rw [al.len]; exact h1.1) (by decide), fun p hp => ?_⟩
    have hm := I1.ex.free hp
    exact q _ _ δ1 _ _ h1.2 (e1.tr (Ex.new hm)) (I1.grow hp) (.tup (SqT.of upd_same) al.len (al.mono (Ex.new hm)).at')
theorem I3.newOwn (I : I3 Z B W M H σ δ) {p : Addr} (h : H p = none) : ∀ i, ¬ Own σ δ i p := fun i o => by
  obtain ⟨_, e, _⟩ := I.ownAt o
  rw [h] at e; cases e
theorem xo_lst {Φ : OD → List S → Prop} (h : XA Z ts δ fun ds δ1 => ds.length ≤ 1000000 ∧ Φ (.lst ds) δ1) : XO Z (tLst ts) δ Φ := XO.mk fun B W M H σ Q I q =>
  h B W M H σ _ I fun M1 H1 δ1 vs ds h1 e1 I1 al => by
    refine ⟨Nat.le_trans (by rw [al.len]; exact h1.1) (by decide), fun p hp => ?_⟩
    have hm := I1.ex.free hp
    exact q M1 _ δ1 p _ _ h1.2 e1 (I1.other (I1.fresh hp) hm (I1.newOwn hp)) upd_same al hm (I1.fresh hp) (I1.newOwn hp)
theorem xe_lst (h : XA Z ts δ fun ds δ1 => ds.length ≤ 1000000 ∧ Φ (.lst ds) δ1) : XE Z (tLst ts) δ Φ := xe_ofO (xo_lst fun B W M H σ Q I q => h B W M H σ Q I fun M' H' δ' vs ds k => q M' H' δ' vs ds ⟨k.1, ds, rfl, k.2⟩)
/-! ### statements -/
variable {bs : List Nat} {P : Po} {s1 s2 : TS}
theorem xs_seq (h : XS Z bs s1 δ { P with N := fun δ' => XS Z bs s2 δ' P }) : XS Z bs (tSeq s1 s2) δ P := fun B W M H σ E hb I e =>
  h B W M H σ _ hb I ⟨fun M' H' σ' δ' p x I' => p B W M' H' σ' E hb I' (e.mono x), e.rt, e.bk, e.ct, e.xc⟩
theorem xs_next (k : P.N δ) : XS Z bs tNext δ P := fun B W M H σ E hb I e => e.nx M H σ δ k Ex.rfl' I
theorem xs_cont (k : P.C δ) : XS Z bs tCont δ P := fun B W M H σ E hb I e => e.ct M H σ δ k Ex.rfl' I
theorem xs_if (h : XT Z t δ fun b δ' => if b = true then XS Z bs s1 δ' P else XS Z bs s2 δ' P) : XS Z bs (tIfS t s1 s2) δ P := fun B W M H σ E hb I e =>
  h B W M H σ _ I fun M1 H1 δ1 b h1 e1 I1 => by
    cases b with
    | true => rw [if_pos rfl] at h1 ⊢; exact h1 B W M1 H1 σ E hb I1 (e.mono e1)
    | false => rw [if_neg Bool.false_ne_true] at h1 ⊢; exact h1 B W M1 H1 σ E hb I1 (e.mono e1)
theorem slotD {v : V} {x : D} (a : At Z M v x) : SlotOk Z M H (some v) (.d x) := ⟨v, rfl, a⟩
theorem not_bor {i : Nat} (hb : W.map (·.1) = bs) (hi : i ∉ bs) (p : Addr) : (i, p) ∉ W := fun h => hi (hb ▸ List.mem_map_of_mem h)
theorem xs_set {i : Nat} (hi : i ∉ bs) (h : XE Z te δ fun d δ' => P.N (δ'.set i (.d d))) : XS Z bs (tAsg te (gName i)) δ P := fun B W M H σ E hb I e =>
  h.run I fun M1 H1 δ1 x a h1 e1 I1 at1 => e.nx _ _ _ _ h1 e1 (I1.put (not_bor hb hi) (hol_d _) (slotD at1))
theorem xs_setO {i : Nat} (hi : i ∉ bs) (h : XO Z te δ fun y δ' => i < δ'.length ∧ P.N (δ'.set i (.own y))) : XS Z bs (tAsg te (gName i)) δ P := fun B W M H σ E hb I e =>
  XO.run h I fun M1 H1 δ1 p ho y h1 e1 I1 a b c d g => e.nx _ _ _ _ h1.2 e1 (I1.putO (not_bor hb hi) h1.1 a b c d g)
/-- x, y = a, b -/
theorem xs_par {i j : Nat} (hi : i ∉ bs) (hj : j ∉ bs) (h : XE Z ta δ fun a δ1 => XE Z tb δ1 fun b δ2 => P.N ((δ2.set i (.d a)).set j (.d b))) : XS Z bs (tPar i j (tCons ta (tCons tb tNil))) δ P := fun B W M H σ E hb I e =>
  h.run I fun M1 H1 δ1 x a h1 e1 I1 at1 => XE.run h1 I1 fun M2 H2 δ2 y b h2 e2 I2 at2 =>
    ⟨x, y, rfl, e.nx _ _ _ _ h2 (e1.tr e2) ((I2.put (not_bor hb hi) (hol_d _) (slotD (at1.mono e2))).put (not_bor hb hj) (hol_d _) (slotD at2))⟩
theorem xs_parO {i j : Nat} (hi : i ∉ bs) (hj : j ∉ bs) (h : XE Z ta δ fun a δ1 => XO Z tb δ1 fun b δ2 => j < δ2.length ∧ P.N ((δ2.set i (.d a)).set j (.own b))) : XS Z bs (tPar i j (tCons ta (tCons tb tNil))) δ P := fun B W M H σ E hb I e =>
  h.run I fun M1 H1 δ1 x a h1 e1 I1 at1 => XO.run h1 I1 fun M2 H2 δ2 p ho y h2 e2 I2 c1 c2 c3 c4 c5 =>
    ⟨x, _, rfl, e.nx _ _ _ _ h2.2 (e1.tr e2) ((I2.put (not_bor hb hi) (hol_d _) (slotD (at1.mono e2))).putO (not_bor hb hj) (by rw [List.length_set]; exact h2.1) c1 c2 c3 c4 fun k o => c5 k (Own.setN (hol_d _) o).2)⟩
theorem Own.setX {i j : Nat} {p q : Addr} {y : OD} (h : Own (σ.set i (some (.ref q))) (δ.set i (.own y)) j p) : (j = i ∧ p = q) ∨ Own σ δ j p := by
  obtain ⟨r, z, a, b, c⟩ := h
  by_cases e : i = j
  · subst e
    rw [List.getElem?_set] at a b
    split at a
    · split at a
      · cases a
        rename_i h1 h2
        rw [if_pos rfl] at b
        split at b
        · cases b; cases c; exact .inl ⟨rfl, rfl⟩
        · cases b
      · cases a
    · rename_i q; exact absurd rfl q
  · rw [List.getElem?_set_ne e] at a b
    exact .inr ⟨r, z, a, b, c⟩
theorem xs_parOO {i j : Nat} (hi : i ∉ bs) (hj : j ∉ bs) (hij : i ≠ j) (h : XO Z ta δ fun a δ1 => XO Z tb δ1 fun b δ2 => i < δ2.length ∧ j < δ2.length ∧ P.N ((δ2.set i (.own a)).set j (.own b))) : XS Z bs (tPar i j (tCons ta (tCons tb tNil))) δ P := fun B W M H σ E hb I e =>
  XO.run h I fun M1 H1 δ1 p ho a h1 e1 I1 a1 a2 a3 a4 a5 => XO.run h1 I1.rebase fun M2 H2 δ2 q hq b h2 e2 J c1 c2 c3 c4 c5 => by
    obtain ⟨k1, k2, k3⟩ := J.stays a1 a3 (fun i hi => a5 i (mem_owns.mp hi)) (.own a2)
    have I2 := I1.back (fun _ _ => mem_owns) J
    have c4 : H1 q = none := c4
    have hpq : q ≠ p := fun z => by rw [z, a1] at c4; cases c4
    have I3' := (I2.putO (i := i) (not_bor hb hi) h2.1 k1 (a2.mono e2) k3 a4 k2).putO (i := j) (not_bor hb hj) (by rw [List.length_set]; exact h2.2.1) c1 c2 c3 (I1.fresh c4) fun k o => by
      rcases Own.setX o with ⟨_, z⟩ | z
      · exact hpq z
      · exact c5 k z
    exact ⟨_, _, rfl, e.nx _ _ _ _ h2.2.2 (e1.tr e2) I3'⟩
end
end G
set_option Elab.async false
set_option linter.all false
set_option maxRecDepth 100000
set_option maxHeartbeats 4000000
namespace G
open PySem L2
section
variable {Z : Wd} {M H M' H' : Hp} {B : Bas} {W : List (Nat × Addr)} {σ : St} {δ : List S}
variable {te ta tb tv : TE} {tt t u : TT} {Φ : D → List S → Prop} {Ψ : S → List S → Prop} {Ω : OD → List S → Prop} {Λ : List D → List S → Prop} {ts : TA}
/-! ### places -/
theorem atI_at {vs : List V} {xs : List D} {k : Int} {d : D} (a : AtL Z M vs xs) (h : atI xs k = some d) : ∃ v, atI vs k = some v ∧ At Z M v d := by
  unfold atI at h ⊢
  rw [a.len]
  cases e : ixN xs.length k with
  | none => rw [e] at h; cases h
  | some j =>
    rw [e] at h
    exact a.get h
def ixD : D → Int → Option D
  | .lst xs, k => atI xs k
  | .tup xs, k => atI xs k
  | .str s, k => if s.length ≤ sizeLine then (atI s.cps.toList k).map fun c => .str ⟨#[c]⟩ else none
  | .scr ns, k => (atI ns k).map .int
  | _, _ => none
theorem atI_map {α β : Type} {f : α → β} {xs : List α} {k : Int} : atI (xs.map f) k = (atI xs k).map f := by
  unfold atI
  rw [List.length_map]
  cases ixN xs.length k with
  | none => rfl
  | some j => simp
theorem xe_ix (h : XE Z ta δ fun a δ1 => XE Z tb δ1 fun b δ2 => ∃ k d, b = .int k ∧ ixD a k = some d ∧ Φ d δ2) : XE Z (tOp (rIx Z.K) ta tb) δ Φ := XE.mk fun B W M H σ Q I q =>
  h.run I fun M1 H1 δ1 x a h1 e1 I1 at1 => XE.run h1 I1 fun M2 H2 δ2 y b h2 e2 I2 at2 => by
    obtain ⟨k, d, rfl, e, f⟩ := h2
    cases at2
    have q' := fun v a => q M2 H2 δ2 v d f (e1.tr e2) I2 a
    cases at1.mono e2 with
    | lst h l c =>
      obtain ⟨v, e', a⟩ := atI_at ⟨l, c⟩ e
      exact .inl ⟨_, _, _, _, rfl, rfl, SqL.of (I2.ex _ _ h), e', q' v a⟩
    | tup h l c =>
      obtain ⟨v, e', a⟩ := atI_at ⟨l, c⟩ e
      exact .inr (.inl ⟨_, _, _, _, rfl, rfl, sqT_mono I2.ex h, e', q' v a⟩)
    | str =>
      simp only [ixD] at e
      split at e
      · rename_i hs
        cases e1 : atI _ k with
        | none => rw [e1] at e; cases e
        | some c => rw [e1] at e; cases e; exact .inr (.inr ⟨_, _, _, rfl, rfl, hs, e1, q' _ .str⟩)
      · cases e
    | scr h =>
      simp only [ixD] at e
      cases e1 : atI _ k with
      | none => rw [e1] at e; cases e
      | some c => rw [e1] at e; cases e; exact .inl ⟨_, _, _, _, rfl, rfl, sqL_mono I2.ex h, by rw [atI_map, e1]; rfl, q' _ .int⟩
    | _ => cases e
theorem xe_ixO {i : Nat} (h : XE Z tb δ fun b δ2 => ∃ xs k d, δ2[i]? = some (.own (.lst xs)) ∧ b = .int k ∧ atI xs k = some d ∧ Φ d δ2) (hv : ∃ y, δ[i]? = some (.own y)) : XE Z (tOp (rIx Z.K) (tVar i) tb) δ Φ := XE.mk fun B W M H σ Q I q => by
  obtain ⟨y, hy⟩ := hv
  obtain ⟨o, e, p, ho, rfl, _⟩ := I.sl i _ hy
  refine ⟨_, e, h.run I fun M2 H2 δ2 y b h2 e2 I2 at2 => ?_⟩
  obtain ⟨xs, k, d, hx, rfl, e3, f⟩ := h2
  cases at2
  obtain ⟨o', e', p', ho', rfl, hp', hy', _⟩ := I2.sl i _ hx
  rw [e] at e'; cases e'
  obtain ⟨vs, rfl, a⟩ := hy'.lstI
  obtain ⟨v, e4, a'⟩ := atI_at a e3
  exact .inl ⟨_, _, _, _, rfl, rfl, SqL.of hp', e4, q M2 H2 δ2 v d f e2 I2 a'⟩
/-! ### scalars in lists -/
def scs : List D → Option (List V)
  | [] => some []
  | x :: xs => match sc x, scs xs with
    | some v, some vs => some (v :: vs)
    | _, _ => none
theorem scs_of : ∀ {xs : List D} {vs ws : List V}, AtL Z M vs xs → scs xs = some ws → vs = ws ∧ ws.all flatV = true
  | [], vs, ws, a, h => by cases h; exact ⟨a.inv0, rfl⟩
  | x :: xs, vs, ws, a, h => by
    obtain ⟨v, us, rfl, a1, a2⟩ := a.inv
    unfold scs at h
    cases e1 : sc x with
    | none => rw [e1] at h; cases h
    | some w =>
      cases e2 : scs xs with
      | none => rw [e1, e2] at h; cases h
      | some ww =>
        rw [e1, e2] at h; cases h
        obtain ⟨r1, r2⟩ := scs_of a2 e2
        have r3 := a1.scal e1
        subst r1; subst r3
        refine ⟨rfl, ?_⟩
        rw [List.all_cons, r2, Bool.and_true]
        cases a1 <;> first | rfl | cases e1
theorem sc_flat {d : D} {v : V} (h : sc d = some v) : flatV v = true := by
  cases d <;> simp [sc] at h <;> subst h <;> rfl
theorem inV_strs (s : Str) (ss : List Str) : inV (.str s) (ss.map V.str) = decide (s ∈ ss) := by
  unfold inV
  rw [List.any_map]
  induction ss with
  | nil => rfl
  | cons t ss ih =>
    rw [List.any_cons, ih, Bool.eq_iff_iff]
    show ((t == s) || decide (s ∈ ss)) = true ↔ decide (s ∈ t :: ss) = true
    rw [Bool.or_eq_true, decide_eq_true_iff, decide_eq_true_iff, List.mem_cons, beq_iff_eq]
    constructor
    · rintro (h | h)
      · exact .inl h.symm
      · exact .inr h
    · rintro (h | h)
      · exact .inl h.symm
      · exact .inr h
/-- x in ys -/
theorem xe_in {neg : Bool} (h : XE Z ta δ fun a δ1 => XE Z tb δ1 fun b δ2 => ∃ v xs ws, sc a = some v ∧ (b = .lst xs ∨ b = .tup xs) ∧ scs xs = some ws ∧ Φ (.bl (if neg then !inV v ws else inV v ws)) δ2) : XE Z (tOp (rIn Z.K neg) ta tb) δ Φ := XE.mk fun B W M H σ Q I q =>
  h.run I fun M1 H1 δ1 x a h1 e1 I1 at1 => XE.run h1 I1 fun M2 H2 δ2 y b h2 e2 I2 at2 => by
    obtain ⟨v, xs, ws, s1, hb, s2, f⟩ := h2
    cases at1.scal s1
    rcases hb with rfl | rfl
    · cases at2 with
      | lst h l c =>
        obtain ⟨rfl, fl⟩ := scs_of ⟨l, c⟩ s2
        exact ⟨_, _, rfl, .inl (SqL.of (I2.ex _ _ h)), sc_flat s1, fl, q M2 H2 δ2 _ _ f (e1.tr e2) I2 .bl⟩
    · cases at2 with
      | tup h l c =>
        obtain ⟨rfl, fl⟩ := scs_of ⟨l, c⟩ s2
        exact ⟨_, _, rfl, .inr (sqT_mono I2.ex h), sc_flat s1, fl, q M2 H2 δ2 _ _ f (e1.tr e2) I2 .bl⟩
/-- one sign in a text -/
theorem xe_inS (h : XE Z ta δ fun a δ1 => XE Z tb δ1 fun b δ2 => ∃ c z, a = .str ⟨#[c]⟩ ∧ b = .str z ∧ Φ (.bl (decide (c ∈ z.cps.toList))) δ2) : XE Z (tOp (fun x y H Q => ∃ (c : Nat) (z : Str), x = .str ⟨#[c]⟩ ∧ y = .str z ∧ Q (.bl (decide (c ∈ z.cps.toList))) H) ta tb) δ Φ := XE.mk fun B W M H σ Q I q =>
  h.run I fun M1 H1 δ1 x a h1 e1 I1 at1 => XE.run h1 I1 fun M2 H2 δ2 y b h2 e2 I2 at2 => by
    obtain ⟨c, z, rfl, rfl, f⟩ := h2
    cases at1; cases at2
    exact ⟨c, z, rfl, rfl, q M2 H2 δ2 _ _ f (e1.tr e2) I2 .bl⟩
/-! ### built-in functions -/
abbrev rLen (K : PySem.W.Frag) : List V → Hp → VK → Prop := fun xs H Q => ∃ x n, xs = [x] ∧ LenV K x H n ∧ Q (.int (n : Nat)) H
def lenD : D → Option Nat
  | .lst xs => some xs.length | .tup xs => some xs.length | .scr ns => some ns.length
  | .str s => if s.length ≤ sizeLine then some s.length else none
  | _ => none
theorem xe_len (h : XE Z te δ fun d δ1 => ∃ n, lenD d = some n ∧ Φ (.int n) δ1) : XE Z (tCB (rLen Z.K) (tCons te tNil)) δ Φ := XE.mk fun B W M H σ Q I q =>
  h.run I fun M1 H1 δ1 x a h1 e1 I1 at1 => by
    obtain ⟨n, e, f⟩ := h1
    refine ⟨x, n, rfl, ?_, q M1 H1 δ1 _ _ f e1 I1 .int⟩
    cases at1 with
    | lst h l c => cases e; exact .inl ⟨_, SqL.of (I1.ex _ _ h), l.symm⟩
    | tup h l c => cases e; exact .inr ⟨_, sqT_mono I1.ex h, l.symm⟩
    | scr h => cases e; exact .inl ⟨_, sqL_mono I1.ex h, by simp⟩
    | str =>
      simp only [lenD] at e
      split at e
      · rename_i hs; cases e; exact ⟨hs, rfl⟩
      · cases e
    | _ => cases e
theorem xe_lenO {i : Nat} {xs : List D} (h : δ[i]? = some (.own (.lst xs))) (k : Φ (.int xs.length) δ) : XE Z (tCB (rLen Z.K) (tCons (tVar i) tNil)) δ Φ := XE.mk fun B W M H σ Q I q => by
  obtain ⟨o', e', p', ho', rfl, hp', hy', _⟩ := I.sl i _ h
  obtain ⟨vs, rfl, a⟩ := hy'.lstI
  exact ⟨_, e', _, _, rfl, .inl ⟨vs, SqL.of hp', rfl⟩, q M H δ _ _ (a.len ▸ k) Ex.rfl' I .int⟩
abbrev rList (K : PySem.W.Frag) : List V → Hp → VK → Prop := fun xs H Q => ∃ p ys, xs = [.ref p] ∧ (SqL K H p ys ∨ SqT K H p ys) ∧ ∀ l, H l = none → Q (.ref l) (upd H l (.lst ys))
theorem newO {p : Addr} {o : HO} {y : OD} {δ1 : List S} {Q : VK} {M1 H1 : Hp} (I1 : I3 Z B W M1 H1 σ δ1) (hp : H1 p = none) (hy : ODAt Z M1 o y) (f : Ω y δ1) (e : Ex M M1)
    (q : ∀ M' H' δ' p ho y, Ω y δ' → Ex M M' → I3 Z B W M' H' σ δ' → H' p = some ho → ODAt Z M' ho y → M' p = none → B.h p = none → (∀ i, ¬ Own σ δ' i p) → Q (.ref p) H') : Q (.ref p) (upd H1 p o) :=
  have hm := I1.ex.free hp
  q M1 _ δ1 p _ _ f e (I1.other (I1.fresh hp) hm (I1.newOwn hp)) upd_same hy hm (I1.fresh hp) (I1.newOwn hp)
theorem seq_of {v : V} {d : D} {xs : List D} (a : At Z M v d) (h : d = .lst xs ∨ d = .tup xs) (e : Ex M H) : ∃ p vs, v = .ref p ∧ (SqL Z.K H p vs ∨ SqT Z.K H p vs) ∧ AtL Z M vs xs := by
  rcases h with rfl | rfl
  · cases a with | lst h l c => exact ⟨_, _, rfl, .inl (SqL.of (e _ _ h)), l, c⟩
  · cases a with | tup h l c => exact ⟨_, _, rfl, .inr (sqT_mono e h), l, c⟩
theorem xo_list (h : XE Z te δ fun d δ1 => ∃ xs, (d = .lst xs ∨ d = .tup xs) ∧ Ω (.lst xs) δ1) : XO Z (tCB (rList Z.K) (tCons te tNil)) δ Ω := XO.mk fun B W M H σ Q I q =>
  h.run I fun M1 H1 δ1 x a h1 e1 I1 at1 => by
    obtain ⟨xs, hx, f⟩ := h1
    obtain ⟨p, vs, rfl, s, al⟩ := seq_of at1 hx I1.ex
    exact ⟨p, vs, rfl, s, fun l hl => newO (o := .lst vs) (y := .lst xs) I1 hl al f e1 q⟩
abbrev rTuple (K : PySem.W.Frag) : List V → Hp → VK → Prop := fun xs H Q => ∃ p ys, xs = [.ref p] ∧ ((SqL K H p ys ∧ ∀ l, H l = none → Q (.ref l) (upd H l (.tup ys))) ∨ (SqT K H p ys ∧ Q (.ref p) H))
theorem newT {p : Addr} {vs : List V} {xs : List D} {δ1 : List S} {Q : VK} {M1 H1 : Hp} (I1 : I3 Z B W M1 H1 σ δ1) (hp : H1 p = none) (al : AtL Z M1 vs xs) (f : Φ (.tup xs) δ1) (e : Ex M M1)
    (q : ∀ M' H' δ' v d, Φ d δ' → Ex M M' → I3 Z B W M' H' σ δ' → At Z M' v d → Q v H') : Q (.ref p) (upd H1 p (.tup vs)) :=
  have hm := I1.ex.free hp
  q _ _ δ1 _ _ f (e.tr (Ex.new hm)) (I1.grow hp) (.tup (SqT.of upd_same) al.len (al.mono (Ex.new hm)).at')
theorem xe_tuple (h : XE Z te δ fun d δ1 => ∃ xs, (d = .lst xs ∨ d = .tup xs) ∧ Φ (.tup xs) δ1) : XE Z (tCB (rTuple Z.K) (tCons te tNil)) δ Φ := XE.mk fun B W M H σ Q I q =>
  h.run I fun M1 H1 δ1 x a h1 e1 I1 at1 => by
    obtain ⟨xs, hx, f⟩ := h1
    obtain ⟨p, vs, rfl, s, al⟩ := seq_of at1 hx I1.ex
    rcases hx with rfl | rfl
    · cases at1 with | lst h l c => exact ⟨_, _, rfl, .inl ⟨SqL.of (I1.ex _ _ h), fun l' hl => newT I1 hl ⟨l, c⟩ f e1 q⟩⟩
    · cases at1 with | tup h l c => exact ⟨_, _, rfl, .inr ⟨sqT_mono I1.ex h, q M1 H1 δ1 _ _ f e1 I1 (.tup h l c)⟩⟩
theorem xe_tupleO {i : Nat} {xs : List D} (h : δ[i]? = some (.own (.lst xs))) (k : Φ (.tup xs) δ) : XE Z (tCB (rTuple Z.K) (tCons (tVar i) tNil)) δ Φ := XE.mk fun B W M H σ Q I q => by
  obtain ⟨o', e', p', ho', rfl, hp', hy', _⟩ := I.sl i _ h
  obtain ⟨vs, rfl, a⟩ := hy'.lstI
  exact ⟨_, e', _, _, rfl, .inl ⟨SqL.of hp', fun l hl => newT I hl a k Ex.rfl' q⟩⟩
theorem xe_all (h : XE Z te δ fun d δ1 => ∃ xs : List Bool, d = .lst (xs.map .bl) ∧ Φ (.bl (xs.all id)) δ1) : XE Z (tCB (rAll Z.K) (tCons te tNil)) δ Φ := XE.mk fun B W M H σ Q I q =>
  h.run I fun M1 H1 δ1 x a h1 e1 I1 at1 => by
    obtain ⟨xs, rfl, f⟩ := h1
    cases at1 with
    | lst h l c =>
      have := AtL.bools (Z := Z) (M := M1) ⟨l, c⟩
      subst this
      exact ⟨_, xs, rfl, SqL.of (I1.ex _ _ h), q M1 H1 δ1 _ _ f e1 I1 .bl⟩
/-! ### slices, + -/
def cut {α : Type} (xs : List α) (lo hi : Option Int) : List α := (xs.drop (HT.sIx xs.length 0 lo)).take (HT.sIx xs.length xs.length hi - HT.sIx xs.length 0 lo)
theorem AtL.cut {vs : List V} {xs : List D} (lo hi : Option Int) (a : AtL Z M vs xs) : AtL Z M (cutV vs lo hi) (G.cut xs lo hi) := by
  unfold cutV G.cut
  rw [a.len]
  exact (a.drop _).take _
def XP (Z : Wd) (to : TO) (δ : List S) (Θ : Option Int → List S → Prop) : Prop :=
  ∀ B W M H σ (Q : Option Int → Hp → Prop), I3 Z B W M H σ δ → (∀ M' H' δ' o, Θ o δ' → Ex M M' → I3 Z B W M' H' σ δ' → Q o H') → to σ H Q
variable {Θ : Option Int → List S → Prop} {tl th : TO}
theorem xp_no (k : Θ none δ) : XP Z tNoPart δ Θ := fun B W M H σ Q I q => q M H δ none k Ex.rfl' I
theorem xp_part (h : XE Z te δ fun d δ1 => ∃ i, d = .int i ∧ Θ (some i) δ1) : XP Z (tPart te) δ Θ := fun B W M H σ Q I q =>
  h.run I fun M1 H1 δ1 x a h1 e1 I1 at1 => by
    obtain ⟨i, rfl, f⟩ := h1
    cases at1
    exact ⟨i, rfl, q M1 H1 δ1 _ f e1 I1⟩
theorem xo_sl (h : XE Z te δ fun a δ1 => XP Z tl δ1 fun lo δ2 => XP Z th δ2 fun hi δ3 => ∃ xs, a = .lst xs ∧ Ω (.lst (cut xs lo hi)) δ3) : XO Z (tSl (rSlL Z.K) te tl th) δ Ω := XO.mk fun B W M H σ Q I q =>
  h.run I fun M1 H1 δ1 x a h1 e1 I1 at1 => h1 B W M1 H1 σ _ I1 fun M2 H2 δ2 lo h2 e2 I2 => h2 B W M2 H2 σ _ I2 fun M3 H3 δ3 hi h3 e3 I3 => by
    obtain ⟨xs, rfl, f⟩ := h3
    cases (at1.mono (e2.tr e3)) with
    | lst h l c => exact ⟨_, _, rfl, SqL.of (I3.ex _ _ h), fun p hp => newO (o := .lst _) (y := .lst _) I3 hp (AtL.cut lo hi ⟨l, c⟩) f (e1.tr (e2.tr e3)) q⟩
theorem xo_cat (h : XE Z ta δ fun a δ1 => XE Z tb δ1 fun b δ2 => ∃ xs ys, a = .lst xs ∧ b = .lst ys ∧ xs.length + ys.length ≤ 1000000 ∧ Ω (.lst (xs ++ ys)) δ2) : XO Z (tOp rCat ta tb) δ Ω := XO.mk fun B W M H σ Q I q =>
  h.run I fun M1 H1 δ1 x a h1 e1 I1 at1 => XE.run h1 I1 fun M2 H2 δ2 y b h2 e2 I2 at2 => by
    obtain ⟨xs, ys, rfl, rfl, hl, f⟩ := h2
    cases at1.mono e2 with
    | lst k1 l1 c1 => cases at2 with
      | lst k2 l2 c2 => exact ⟨_, _, _, _, rfl, rfl, I2.ex _ _ k1, I2.ex _ _ k2, Nat.le_trans (by rw [l1, l2]; exact hl) (by decide), fun p hp => newO (o := .lst _) (y := .lst _) I2 hp (AtL.app ⟨l1, c1⟩ ⟨l2, c2⟩) f (e1.tr e2) q⟩
/-! ### methods of an own list -/
theorem xe_app {i : Nat} (hv : ∃ xs, δ[i]? = some (.own (.lst xs))) (h : XE Z te δ fun d δ1 => ∃ xs, δ1[i]? = some (.own (.lst xs)) ∧ xs.length < 1000000 ∧ Φ .non (δ1.set i (.own (.lst (xs ++ [d]))))) : XE Z (tBM Z.K "list" rAppend (tVar i) (tCons te tNil)) δ Φ := XE.mk fun B W M H σ Q I q => by
  obtain ⟨x0, hy⟩ := hv
  obtain ⟨o, e, p, ho, rfl, h0, h0', _⟩ := I.sl i _ hy
  obtain ⟨vs0, rfl, _⟩ := h0'.lstI
  refine ⟨_, e, .inl ⟨rfl, vs0, SqL.of h0⟩, h.run I fun M2 H2 δ2 y b h2 e2 I2 at2 => ?_⟩
  obtain ⟨xs, hx, hl, f⟩ := h2
  obtain ⟨o', e', p', ho', rfl, hp', hy', _⟩ := I2.sl i _ hx
  rw [e] at e'; cases e'
  obtain ⟨vs, rfl, a⟩ := hy'.lstI
  exact ⟨_, vs, y, rfl, rfl, hp', Nat.lt_of_lt_of_le (by rw [a.len]; exact hl) (by decide), q M2 _ _ _ _ f e2 (I2.write e hx (ho := .lst _) (y' := .lst _) (AtL.app a (.one at2))) .non⟩
theorem xe_pop {i : Nat} (hv : ∃ xs, δ[i]? = some (.own (.lst xs))) (h : XE Z te δ fun d δ1 => ∃ xs k x, δ1[i]? = some (.own (.lst xs)) ∧ d = .int (k : Nat) ∧ k < 1000000 ∧ xs[k]? = some x ∧ Φ x (δ1.set i (.own (.lst (xs.eraseIdx k))))) : XE Z (tBM Z.K "list" rPopAt (tVar i) (tCons te tNil)) δ Φ := XE.mk fun B W M H σ Q I q => by
  obtain ⟨x0, hy⟩ := hv
  obtain ⟨o, e, p, ho, rfl, h0, h0', _⟩ := I.sl i _ hy
  obtain ⟨vs0, rfl, _⟩ := h0'.lstI
  refine ⟨_, e, .inl ⟨rfl, vs0, SqL.of h0⟩, h.run I fun M2 H2 δ2 y b h2 e2 I2 at2 => ?_⟩
  obtain ⟨xs, k, x, hx, rfl, hk, hg, f⟩ := h2
  cases at2
  obtain ⟨o', e', p', ho', rfl, hp', hy', _⟩ := I2.sl i _ hx
  rw [e] at e'; cases e'
  obtain ⟨vs, rfl, a⟩ := hy'.lstI
  obtain ⟨v, hv', av⟩ := a.get hg
  have hlt : k < vs.length := (List.getElem?_eq_some_iff.mp hv').1
  refine ⟨_, vs, (k : Int), k, v, rfl, rfl, hp', by omega, by omega, ?_, hv', q M2 _ _ _ _ f e2 (I2.write e hx (ho := .lst _) (y' := .lst _) (a.erase k)) av⟩
  unfold seqIndex?
  have h1 : ¬ ((k : Int) < 0) := by omega
  simp only [h1, if_false]
  rw [if_pos]
  · simp
  · simp; omega
variable {bs : List Nat} {P : Po} {s1 s2 : TS}
theorem xs_drop (h : XE Z te δ fun _ δ' => P.N δ') : XS Z bs (tDrop te) δ P := fun B W M H σ E hb I e =>
  h.run I fun M1 H1 δ1 x a h1 e1 I1 at1 => e.nx _ _ _ _ h1 e1 I1
/-! ### returns -/
theorem xs_ret (h : XE Z te δ fun d δ' => P.R (.d d) δ') : XS Z bs (tRet te) δ P := fun B W M H σ E hb I e =>
  h.run I fun M1 H1 δ1 x a h1 e1 I1 at1 => e.rt _ _ _ _ _ (.d a) h1 e1 I1 at1
theorem xs_retO (h : XO Z te δ fun y δ' => P.R (.own y) δ') : XS Z bs (tRet te) δ P := fun B W M H σ E hb I e =>
  XO.run h I fun M1 H1 δ1 p ho y h1 e1 I1 a b c d g => e.rt _ _ _ _ _ (.own y) h1 e1 I1 ⟨p, ho, rfl, a, b, c, d⟩
/-- an own list that is returned as new -/
theorem xs_retV {i : Nat} {y : OD} (hi : i ∉ bs) (h : δ[i]? = some (.own y)) (k : P.R (.own y) δ) : XS Z bs (tRet (tVar i)) δ P := fun B W M H σ E hb I e => by
  obtain ⟨o, e0, p, ho, rfl, hp, hy, hm⟩ := I.sl i _ h
  refine ⟨_, e0, e.rt M H _ _ _ (.own y) k Ex.rfl' I ⟨p, ho, rfl, hp, hy, hm, ?_⟩⟩
  rcases I.own i p (Own.mk e0 h) with q | q
  · exact absurd q (not_bor hb hi p)
  · exact q
/-- from here on slot i's list is a datum -/
theorem xs_freeze {i : Nat} {xs : List D} (hi : i ∉ bs) (h : δ[i]? = some (.own (.lst xs))) (k : XS Z bs s1 (δ.set i (.d (.lst xs))) P) : XS Z bs s1 δ P := fun B W M H σ E hb I e => by
  obtain ⟨M', ex, J⟩ := I.freeze (not_bor hb hi) h
  exact k B W M' H σ E hb J (e.mono ex)
/-- slot i is forgotten -/
theorem I3.forget {i : Nat} (I : I3 Z B W M H σ δ) (hi : ∀ p, (i, p) ∉ W) : I3 Z B W M H σ (δ.set i .no) := by
  have bad : ∀ j q, Own σ (δ.set i .no) j q → i ≠ j ∧ Own σ δ j q := fun j q o => by
    obtain ⟨r, y, a, b, c⟩ := o
    have e : i ≠ j := fun e => by
      subst e
      rw [List.getElem?_set] at b
      split at b
      · split at b
        · cases b; exact c
        · cases b
      · rename_i z; exact z rfl
    rw [List.getElem?_set_ne e] at b
    exact ⟨e, r, y, a, b, c⟩
  refine ⟨I.ex, I.mg, I.keep, by rw [List.length_set]; exact I.len, fun j s e => ?_, fun j q w => ?_, fun j q o => I.own j q (bad j q o).2, fun j k q a b => I.dis j k q (bad j q a).2 (bad k q b).2⟩
  · by_cases z : i = j
    · subst z
      have hl : i < δ.length := by
        have := (List.getElem?_eq_some_iff.mp e).1; rwa [List.length_set] at this
      rw [List.getElem?_set_self hl] at e; cases e
      exact ⟨σ[i]'(by rw [I.len]; exact hl), by simp [I.len, hl], trivial⟩
    · rw [List.getElem?_set_ne z] at e; exact I.sl j s e
  · have e' : i ≠ j := fun e => hi q (e ▸ w)
    exact (I.bor j q w).same rfl (List.getElem?_set_ne e')
theorem xs_forget {i : Nat} (hi : i ∉ bs) (k : XS Z bs s1 (δ.set i .no) P) : XS Z bs s1 δ P := fun B W M H σ E hb I e => k B W M H σ E hb (I.forget (not_bor hb hi)) e
end
end G
set_option Elab.async false
set_option linter.all false
set_option maxRecDepth 100000
set_option maxHeartbeats 4000000
namespace G
open PySem L2
section
variable {Z : Wd} {M H M' H' : Hp} {B : Bas} {W : List (Nat × Addr)} {σ : St} {δ : List S}
variable {te ta tb tv : TE} {tt t u : TT} {Φ : D → List S → Prop} {Ψ : S → List S → Prop} {Ω : OD → List S → Prop} {Λ : List D → List S → Prop} {ts : TA}
variable {bs : List Nat} {P : Po} {s1 s2 : TS}
/-! ### contracts of defs: over data -/
abbrev FR := List D → (S → Prop) → Prop
abbrev FB := OD → List D → (S → OD → Prop) → Prop
/-- nothing is borrowed -/
def spR (Z : Wd) (F : FR) : Sp := fun vs H Q _ => ∃ M ds Φ, Ex M H ∧ AtL Z M vs ds ∧ F ds Φ ∧
  ∀ M' H' v s, Φ s → Ex M M' → Ex M' H' → Ex H H' → (∀ p o, H p = some o → M p = none → NT o → M' p = none) → RetOk Z ⟨H, M⟩ M' H' v s → Q v H'
/-- the first argument is borrowed: an object that the caller alone holds -/
def spB (Z : Wd) (F : FB) : Sp := fun vs H Q _ => ∃ M p ws ho y ds Φ, vs = .ref p :: ws ∧ H p = some ho ∧ M p = none ∧ ODAt Z M ho y ∧ Ex M H ∧ AtL Z M ws ds ∧ F y ds Φ ∧
  ∀ M' H' v s ho' y', Φ s y' → Ex M M' → Ex M' H' → (∀ a o, a ≠ p → H a = some o → H' a = some o) → (∀ p o, H p = some o → M p = none → NT o → M' p = none) → H' p = some ho' → ODAt Z M' ho' y' → RetOk Z ⟨H, M⟩ M' H' v s → Q v H'
theorem I3.after (I : I3 Z B W M H σ δ) (e1 : Ex M M') (e2 : Ex M' H') (e3 : Ex H H') (e4 : ∀ p o, H p = some o → M p = none → NT o → M' p = none) : I3 Z B W M' H' σ δ := by
  refine ⟨e2, fun a o e n => ?_, fun a o e n => e3 _ _ (I.keep a o e n), I.len, fun i s e => ?_, I.bor, I.own, I.dis⟩
  · cases q : H a with
    | none => rw [I.fresh q] at e; cases e
    | some u => exact fun t => e4 a u q (I.mg a o e n t) (I.nt e t q)
  · obtain ⟨v, c, d⟩ := I.sl i s e
    refine ⟨v, c, ?_⟩
    cases s with
    | no => trivial
    | d x => obtain ⟨u, f, g⟩ := d; exact ⟨u, f, g.mono e1⟩
    | own z =>
      obtain ⟨q, hq, f, g, k, l⟩ := d
      exact ⟨q, hq, f, e3 _ _ g, k.mono e1, e4 _ _ g l (.own k)⟩
    | deal q cs n =>
      obtain ⟨r, f, g, k, l, m, o⟩ := d
      exact ⟨r, f, e3 _ _ g, e3 _ _ k, e4 _ _ g l (fun _ e => nomatch e), e4 _ _ k m (fun _ e => nomatch e), o⟩
/-- behind a call that has changed what slot i holds alone -/
theorem I3.afterS (I : I3 Z B W M H σ δ) {i : Nat} {o : Option V} {s s' : S} (h : σ[i]? = some o) (hi : δ[i]? = some s) (hs : ∀ p a, Hol p s a ↔ Hol p s' a) (e1 : Ex M M') (e2 : Ex M' H') (e3 : ∀ a o, ¬ Own σ δ i a → H a = some o → H' a = some o)
    (e4 : ∀ p o, H p = some o → M p = none → NT o → M' p = none) (hy : SlotOk Z M' H' o s') : I3 Z B W M' H' σ (δ.set i s') := by
  have hl : i < δ.length := (List.getElem?_eq_some_iff.mp hi).1
  refine ⟨e2, fun a o e n => ?_, fun a o e n => ?_, by rw [List.length_set]; exact I.len, fun j t e => ?_, fun j q w => (Own.setS hi hs).mpr (I.bor j q w), fun j q o => I.own j q ((Own.setS hi hs).mp o), fun j k q a b => I.dis j k q ((Own.setS hi hs).mp a) ((Own.setS hi hs).mp b)⟩
  · cases q : H a with
    | none => rw [I.fresh q] at e; cases e
    | some u => exact fun t => e4 a u q (I.mg a o e n t) (I.nt e t q)
  · refine e3 a o (fun z => ?_) (I.keep a o e n)
    rcases I.own i a z with q | q
    · exact n i q
    · rw [e] at q; cases q
  · by_cases z : i = j
    · subst z
      rw [List.getElem?_set_self hl] at e; cases e
      exact ⟨_, h, hy⟩
    · rw [List.getElem?_set_ne z] at e
      obtain ⟨v, c, d⟩ := I.sl j t e
      refine ⟨v, c, ?_⟩
      cases t with
      | no => trivial
      | d x => obtain ⟨u, f, g⟩ := d; exact ⟨u, f, g.mono e1⟩
      | own w =>
        obtain ⟨q, hq, f, g, k, l⟩ := d
        subst f
        exact ⟨q, hq, rfl, e3 _ _ (fun o => z (I.dis i j q o (Own.mk c e))) g, k.mono e1, e4 _ _ g l (.own k)⟩
      | deal q cs n =>
        obtain ⟨r, f, g, k, l, m, o⟩ := d
        subst f
        exact ⟨r, rfl, e3 _ _ (fun o => z (I.dis i j r o ⟨r, _, c, e, .inl rfl⟩)) g, e3 _ _ (fun o => z (I.dis i j q o ⟨r, _, c, e, .inr rfl⟩)) k, e4 _ _ g l (fun _ e => nomatch e), e4 _ _ k m (fun _ e => nomatch e), o⟩
theorem I3.afterB (I : I3 Z B W M H σ δ) {i : Nat} {p : Addr} {y y' : OD} {ho' : HO} (hs : σ[i]? = some (some (.ref p))) (hi : δ[i]? = some (.own y)) (e1 : Ex M M') (e2 : Ex M' H') (e3 : ∀ a o, a ≠ p → H a = some o → H' a = some o)
    (e4 : ∀ p o, H p = some o → M p = none → NT o → M' p = none) (hp : H' p = some ho') (hy : ODAt Z M' ho' y') : I3 Z B W M' H' σ (δ.set i (.own y')) := by
  obtain ⟨ho0, hp0, hk0, hm0⟩ := I.ownO (Own.mk hs hi) hi
  exact I.afterS hs hi (fun _ _ => Iff.rfl) e1 e2 (fun a o n e => e3 a o (fun z => n (z ▸ Own.mk hs hi)) e) e4 ⟨p, ho', rfl, hp, hy, e4 _ _ hp0 hm0 (.own hk0)⟩
theorem ret_res {v : V} {s : S} {M0 H0 : Hp} {δ0 : List S} (I : I3 Z B W M0 H0 σ δ0) (hs : ∀ i p, Own σ δ i p → Own σ δ0 i p) (r : RetOk Z ⟨H0, M0⟩ M' H' v s) : ResOk Z B M' H' σ δ v s := by
  cases s with
  | no => exact r
  | d x => exact r
  | own y =>
    obtain ⟨p, ho, e, a, b, c, d⟩ := r
    have d' : H0 p = none := d
    exact ⟨p, ho, e, a, b, c, I.fresh d', fun i o => I.newOwn d' i (hs i p o)⟩
  | deal q cs n =>
    obtain ⟨p, e, a, b⟩ := r
    exact ⟨p, e, a, fun x h => ⟨I.fresh (b x h), fun i o => I.newOwn (b x h) i (hs i x o)⟩⟩
/-- a call: nothing borrowed -/
theorem xr_call {F : FR} {dvs : List V} {dds : List D} {E : XK} (hd : ∀ M : Hp, AtL Z M dvs dds) (h : XA Z ts δ fun ds δ1 => F (ds ++ dds) fun s => Ψ s δ1) : XR Z (tCall (spR Z F) dvs E ts) δ Ψ := fun B W M H σ Q I q =>
  h B W M H σ _ I fun M1 H1 δ1 vs ds h1 e1 I1 al => by
    refine ⟨M1, ds ++ dds, _, I1.ex, al.app (hd M1), h1, fun M' H' v s f a1 a2 a3 a4 r => ?_⟩
    exact q M' H' δ1 v s f (e1.tr a1) (I1.after a1 a2 a3 a4) (ret_res I1 (fun _ _ o => o) r)
theorem own_setO {i : Nat} {y y' : OD} (hi : δ[i]? = some (.own y)) : ∀ j p, Own σ (δ.set i (.own y')) j p → Own σ δ j p := fun _ _ o => (Own.setO hi).mp o
/-- a call that borrows what slot i holds -/
theorem xr_callB {F : FB} {dvs : List V} {dds : List D} {E : XK} {i : Nat} (hd : ∀ M : Hp, AtL Z M dvs dds) (hv : ∃ y, δ[i]? = some (.own y)) (h : XA Z ts δ fun ds δ1 => ∃ y, δ1[i]? = some (.own y) ∧ F y (ds ++ dds) fun s y' => Ψ s (δ1.set i (.own y'))) : XR Z (tCall (spB Z F) dvs E (tCons (tVar i) ts)) δ Ψ := fun B W M H σ Q I q => by
  obtain ⟨y, hy⟩ := hv
  obtain ⟨o, e, p, ho, rfl, h0, h0', _⟩ := I.sl i _ hy
  refine ⟨_, e, h B W M H σ _ I fun M1 H1 δ1 vs ds h1 e1 I1 al => ?_⟩
  obtain ⟨y1, hy1, f⟩ := h1
  obtain ⟨o', e', p', ho', rfl, hp', hy', hm'⟩ := I1.sl i _ hy1
  rw [e] at e'; cases e'
  refine ⟨M1, p, vs ++ dvs, ho', y1, ds ++ dds, _, rfl, hp', hm', hy', I1.ex, al.app (hd M1), f, fun M' H' v s ho2 y2 g a1 a2 a3 a4 a5 a6 r => ?_⟩
  exact q M' H' _ v s g (e1.tr a1) (I1.afterB e hy1 a1 a2 a3 a4 a5 a6) (ret_res I1 (own_setO hy1) r)
/-- a new instance: its __init__ borrows it -/
theorem xe_make {F : FB} {dvs : List V} {dds : List D} {E : XK} {C : Addr} {c : Nat} (hC : (Z.cl c).C = C) (hd : ∀ M : Hp, AtL Z M dvs dds)
    (h : XA Z ts δ fun ds δ1 => F (.ins c []) (ds ++ dds) fun s y => s = .d .non ∧ ∃ gs, y = .ins c gs ∧ gs.map (·.1) = (Z.cl c).fs ∧ Φ (.obj c (gs.map (·.2))) δ1) : XE Z (tMake C (spB Z F) dvs E ts) δ Φ := XE.mk fun B W M H σ Q I q =>
  h B W M H σ _ I fun M1 H1 δ1 vs ds h1 e1 I1 al x dx hx hdx hne => by
    subst hC
    have hm := I1.ex.free hx
    have hmd := I1.ex.free hdx
    have ex2 : Ex H1 (upd (upd H1 dx (.own x)) x (.ins (Z.cl c).C dx [])) := fun b o e => by
      rw [upd_ne (ne_of_none e hx), upd_ne (ne_of_none e hdx)]; exact e
    refine ⟨M1, x, vs ++ dvs, _, .ins c [], ds ++ dds, _, rfl, upd_same, hm, ⟨rfl, rfl, .nil⟩, I1.ex.tr ex2, al.app (hd M1), h1, fun M' H' v s ho2 y2 g a1 a2 a3 a4 a5 a6 r => ?_⟩
    obtain ⟨rfl, gs, rfl, hf, f⟩ := g
    have rv : At Z M' v .non := r
    cases rv
    refine ⟨rfl, ?_⟩
    obtain ⟨dx2, fs2, rfl, k1, k2⟩ := a6.insI
    have hm2 : M' x = none := a4 x _ upd_same hm (fun _ e => nomatch e)
    have keep : Ex H1 H' := fun b o e => a3 b o (ne_of_none e hx) (ex2 b o e)
    have I2 : I3 Z B W M' H' σ δ1 := I1.after a1 a2 keep fun p o e n => a4 p o (ex2 p o e) n
    have I3' := I2.hold a5 hm2 (I1.fresh hx) (I1.newOwn hx)
    refine q _ H' δ1 _ _ f (e1.tr (a1.tr (Ex.new hm2))) I3' ?_
    have hz : fs2 = (Z.cl c).fs.zip (fs2.map (·.2)) := by
      rw [← hf, ← k1]
      clear a5 a6 k1 k2 I3' f
      induction fs2 with
      | nil => rfl
      | cons a l ih => simp only [List.map_cons, List.zip_cons_cons]; rw [← ih]
    have hlen : (fs2.map (·.2)).length = (Z.cl c).fs.length := by rw [← hf, ← k1]; simp
    refine .obj (dx := dx2) (vs := fs2.map (·.2)) (by rw [upd_same, ← hz]) hlen k2.len (k2.mono (Ex.new hm2)).at'
/-! ### a def's body over data -/
theorem entR {ts : TS} {N : List Str} {vs : List V} {Q : VK} {n : Nat} {ds : List D} {Φ : S → Prop} (ex : Ex M H) (al : AtL Z M vs ds) (hn : N.length = ds.length + n)
    (q : ∀ M' H' v s, Φ s → Ex M M' → Ex M' H' → Ex H H' → (∀ p o, H p = some o → M p = none → NT o → M' p = none) → RetOk Z ⟨H, M⟩ M' H' v s → Q v H')
    (hx : XS Z [] ts (ds.map .d ++ List.replicate n .no) { N := fun _ => Φ (.d .non), R := fun s _ => Φ s }) : ts { nx := fun _ H' => Q .non H', rt := Q } (L2.start N vs) H := by
  have hlen := al.len
  have noOwn : ∀ i p, ¬ Own (L2.start N vs) (ds.map S.d ++ List.replicate n S.no) i p := fun i p => Own.plain
  have I : I3 Z ⟨H, M⟩ [] M H (L2.start N vs) (ds.map S.d ++ List.replicate n S.no) := by
    refine ⟨ex, fun _ _ _ e _ => e, fun _ _ e _ => e, ?_, fun i s e => ?_, fun i p w => by simp at w, fun i p o => absurd o (noOwn i p), fun i j p o => absurd o (noOwn i p)⟩
    · unfold L2.start; simp; omega
    · by_cases hi : i < ds.length
      · rw [List.getElem?_append_left (by simp [hi]), List.getElem?_map] at e
        cases e1 : ds[i]? with
        | none => rw [e1] at e; cases e
        | some d =>
          rw [e1] at e; cases e
          obtain ⟨v, e2, a⟩ := al.get e1
          refine ⟨some v, ?_, v, rfl, a⟩
          unfold L2.start
          rw [List.getElem?_append_left (by simp; omega), List.getElem?_map, e2]; rfl
      · rw [List.getElem?_append_right (by simp; omega), List.getElem?_replicate] at e
        split at e
        · rename_i h1
          cases e
          refine ⟨none, ?_, trivial⟩
          unfold L2.start
          rw [List.getElem?_append_right (by simp; omega), List.getElem?_replicate, if_pos (by simp at h1 ⊢; omega)]
        · cases e
  have fin : ∀ M' H' σ' δ', I3 Z ⟨H, M⟩ [] M' H' σ' δ' → Ex H H' := fun M' H' σ' δ' J a o e => J.keep a o e fun i hi => by simp at hi
  refine hx ⟨H, M⟩ [] M H _ _ rfl I ⟨fun M' H' σ' δ' p e J => q M' H' .non (.d .non) p e J.ex (fin _ _ _ _ J) J.mg .non, fun M' H' σ' δ' v s p e J r => q M' H' v s p e J.ex (fin _ _ _ _ J) J.mg r, fun _ _ _ _ f => f.elim, fun _ _ _ _ f => f.elim, fun _ _ => trivial⟩
theorem entB {ts : TS} {N : List Str} {ws : List V} {p : Addr} {ho : HO} {y : OD} {Q : VK} {n : Nat} {ds : List D} {Φ : S → OD → Prop} (hp : H p = some ho) (hm : M p = none) (hy : ODAt Z M ho y) (ex : Ex M H) (al : AtL Z M ws ds) (hn : N.length = ds.length + 1 + n)
    (q : ∀ M' H' v s ho' y', Φ s y' → Ex M M' → Ex M' H' → (∀ a o, a ≠ p → H a = some o → H' a = some o) → (∀ p o, H p = some o → M p = none → NT o → M' p = none) → H' p = some ho' → ODAt Z M' ho' y' → RetOk Z ⟨H, M⟩ M' H' v s → Q v H')
    (hx : XS Z [0] ts (.own y :: (ds.map .d ++ List.replicate n .no)) { N := fun δ' => ∃ y', δ'[0]? = some (.own y') ∧ Φ (.d .non) y', R := fun s δ' => ∃ y', δ'[0]? = some (.own y') ∧ Φ s y' }) : ts { nx := fun _ H' => Q .non H', rt := Q } (L2.start N (.ref p :: ws)) H := by
  have hlen := al.len
  have only : ∀ i q, Own (L2.start N (V.ref p :: ws)) (S.own y :: (ds.map S.d ++ List.replicate n S.no)) i q → i = 0 ∧ q = p := fun i q o => by
    obtain ⟨r, y', e0, e, c⟩ := o
    cases i with
    | zero =>
      have : some (some (V.ref p)) = some (some (V.ref r)) := e0
      cases this
      cases e; exact ⟨rfl, c⟩
    | succ i =>
      rw [List.getElem?_cons_succ] at e
      exact (plain_no e _ _ c).elim
  have I : I3 Z ⟨H, M⟩ [(0, p)] M H (L2.start N (V.ref p :: ws)) (S.own y :: (ds.map S.d ++ List.replicate n S.no)) := by
    refine ⟨ex, fun _ _ _ e _ => e, fun _ _ e _ => e, ?_, fun i s e => ?_, fun i q w => ?_, fun i q o => ?_, fun i j q o o' => ?_⟩
    · unfold L2.start; simp; omega
    · cases i with
      | zero => cases e; exact ⟨some (.ref p), rfl, p, ho, rfl, hp, hy, hm⟩
      | succ i =>
        rw [List.getElem?_cons_succ] at e
        have es : (L2.start N (V.ref p :: ws))[i + 1]? = (ws.map some ++ List.replicate n (none : Option V))[i]? := by
          unfold L2.start
          have : N.length - (V.ref p :: ws).length = n := by simp; omega
          rw [this]; rfl
        rw [es]
        by_cases hi : i < ds.length
        · rw [List.getElem?_append_left (by simp [hi]), List.getElem?_map] at e
          cases e1 : ds[i]? with
          | none => rw [e1] at e; cases e
          | some d =>
            rw [e1] at e; cases e
            obtain ⟨v, e2, a⟩ := al.get e1
            refine ⟨some v, ?_, v, rfl, a⟩
            rw [List.getElem?_append_left (by simp; omega), List.getElem?_map, e2]; rfl
        · rw [List.getElem?_append_right (by simp; omega), List.getElem?_replicate] at e
          split at e
          · rename_i h1
            cases e
            refine ⟨none, ?_, trivial⟩
            rw [List.getElem?_append_right (by simp; omega), List.getElem?_replicate, if_pos (by simp at h1 ⊢; omega)]
          · cases e
    · have := List.mem_singleton.mp w
      cases this
      exact Own.mk rfl rfl
    · obtain ⟨rfl, rfl⟩ := only i q o
      exact .inl List.mem_cons_self
    · rw [(only i q o).1, (only j q o').1]
  have fin : ∀ M' H' σ' δ' y', I3 Z ⟨H, M⟩ [(0, p)] M' H' σ' δ' → δ'[0]? = some (.own y') → (∀ a o, a ≠ p → H a = some o → H' a = some o) ∧ ∃ ho', H' p = some ho' ∧ ODAt Z M' ho' y' := fun M' H' σ' δ' y' J e => by
    refine ⟨fun a o hne e => J.keep a o e fun i hi => ?_, ?_⟩
    · have := List.mem_singleton.mp hi
      cases this; exact hne rfl
    · have hO := J.bor 0 p List.mem_cons_self
      obtain ⟨ho', h2, h3, _⟩ := J.ownO hO e
      exact ⟨ho', h2, h3⟩
  refine hx ⟨H, M⟩ [(0, p)] M H _ _ rfl I ⟨fun M' H' σ' δ' f e J => ?_, fun M' H' σ' δ' v s f e J r => ?_, fun _ _ _ _ f => f.elim, fun _ _ _ _ f => f.elim, fun _ _ => trivial⟩
  · obtain ⟨y', hy', f⟩ := f
    obtain ⟨k1, ho', k2, k3⟩ := fin _ _ _ _ _ J hy'
    exact q M' H' .non (.d .non) ho' y' f e J.ex k1 J.mg k2 k3 .non
  · obtain ⟨y', hy', f⟩ := f
    obtain ⟨k1, ho', k2, k3⟩ := fin _ _ _ _ _ J hy'
    exact q M' H' v s ho' y' f e J.ex k1 J.mg k2 k3 r
/-! ### fields -/
structure ClOk (Z : Wd) (c : Nat) : Prop where
  cls : Cls Z.K (Z.cl c).C
  no : ∀ f ∈ (Z.cl c).fs, NoAttr Z.K (Z.cl c).C f
theorem lookup_zip : ∀ {fs : List Str} {vs : List V} {k : Nat} {f : Str} {v : V}, fs.Nodup → fs[k]? = some f → vs[k]? = some v → (fs.zip vs).lookup f = some v
  | [], _, _, _, _, _, h, _ => by simp at h
  | g :: fs, [], _, _, _, _, _, h => by simp at h
  | g :: fs, w :: vs, 0, f, v, _, h, h' => by
    simp at h h'; subst h; subst h'
    rw [List.zip_cons_cons, List.lookup_cons, beq_self_eq_true]
  | g :: fs, w :: vs, k + 1, f, v, n, h, h' => by
    obtain ⟨n1, n2⟩ := List.nodup_cons.mp n
    have hf : f ∈ fs := List.mem_of_getElem? (by simpa using h)
    have hne : (f == g) = false := by
      rw [beq_eq_false_iff_ne]; intro e; exact n1 (e ▸ hf)
    rw [List.zip_cons_cons, List.lookup_cons, hne]
    exact lookup_zip n2 (by simpa using h) (by simpa using h')
/-- o.f of a datum -/
theorem xe_fld {f : Str} (h : XE Z ta δ fun a δ1 => ∃ (c : Nat) (ds : List D) (k : Nat) (d : D), a = .obj c ds ∧ ClOk Z c ∧ (Z.cl c).fs.Nodup ∧ (Z.cl c).fs[k]? = some f ∧ ds[k]? = some d ∧ Φ d δ1) : XE Z (tFld Z.K ta f) δ Φ := XE.mk fun B W M H σ Q I q =>
  h.run I fun M1 H1 δ1 x a h1 e1 I1 at1 => by
    obtain ⟨c, ds, k, d, rfl, ok, nd, hf, hd, g⟩ := h1
    cases at1 with
    | obj k1 l1 l2 k2 =>
      have hk : k < _ := (List.getElem?_eq_some_iff.mp hd).1
      rename_i a dx vs
      have hv : vs[k]? = some (vs[k]'(by rw [l2]; exact hk)) := by simp [l2, hk]
      exact ⟨a, _, dx, _, _, rfl, I1.ex _ _ k1, ok.cls, ok.no f (List.mem_of_getElem? hf), lookup_zip nd hf hv, q M1 H1 δ1 _ d g e1 I1 (k2 k _ d hv hd)⟩
def putD (f : Str) (v : D) : List (Str × D) → List (Str × D)
  | [] => [(f, v)]
  | (g, x) :: r => if g = f then (g, v) :: r else (g, x) :: putD f v r
theorem putD_at {f : Str} {v : V} {d : D} (av : At Z M v d) : ∀ {fs : List (Str × V)} {gs : List (Str × D)}, AtL Z M (fs.map (·.2)) (gs.map (·.2)) → fs.map (·.1) = gs.map (·.1) → (putF f v fs).map (·.1) = (putD f d gs).map (·.1) ∧ AtL Z M ((putF f v fs).map (·.2)) ((putD f d gs).map (·.2))
  | [], [], _, _ => ⟨rfl, .one av⟩
  | [], g :: gs, _, e => by simp at e
  | x :: fs, [], _, e => by simp at e
  | (x1, x2) :: fs, (g1, g2) :: gs, a, e => by
    simp only [List.map_cons, List.cons.injEq] at e
    obtain ⟨rfl, e⟩ := e
    obtain ⟨v', ws, q, a1, a2⟩ := a.inv
    simp only [List.map_cons, List.cons.injEq] at q
    obtain ⟨rfl, rfl⟩ := q
    show ((if x1 = f then (x1, v) :: fs else (x1, x2) :: putF f v fs).map (·.1) = (if x1 = f then (x1, d) :: gs else (x1, g2) :: putD f d gs).map (·.1)) ∧ AtL Z M ((if x1 = f then (x1, v) :: fs else (x1, x2) :: putF f v fs).map (·.2)) ((if x1 = f then (x1, d) :: gs else (x1, g2) :: putD f d gs).map (·.2))
    by_cases c : x1 = f
    · rw [if_pos c, if_pos c]
      exact ⟨by simp [e], .cons av a2⟩
    · rw [if_neg c, if_neg c]
      obtain ⟨i1, i2⟩ := putD_at av a2 e
      exact ⟨by simp [i1], .cons a1 i2⟩
/-- self.f = e of an own instance -/
theorem xs_fldO {i : Nat} {f : Str} {c : Nat} (ok : Cls Z.K (Z.cl c).C) (n : NoAttr Z.K (Z.cl c).C f) (h : XE Z tv δ fun d δ1 => ∃ gs, δ1[i]? = some (.own (.ins c gs)) ∧ gs.length < 1000 ∧ P.N (δ1.set i (.own (.ins c (putD f d gs))))) : XS Z bs (sFld Z.K (tVar i) tv f) δ P := fun B W M H σ E hb I e =>
  h.run I fun M1 H1 δ1 x a h1 e1 I1 at1 => by
    obtain ⟨gs, hi, hl, g⟩ := h1
    obtain ⟨o, e0, p, ho, rfl, h0, h0', _⟩ := I1.sl i _ hi
    obtain ⟨dx, fs, rfl, e2, a⟩ := h0'.insI
    have hlen : fs.length < 1000 := by
      have := congrArg List.length e2; simp at this; omega
    exact ⟨_, e0, p, _, dx, fs, rfl, h0, ok, n, hlen, e.nx _ _ _ _ g e1 (I1.write e0 hi (ho := .ins _ dx _) (y' := .ins c _) ⟨rfl, (putD_at at1 a e2).1, (putD_at at1 a e2).2⟩)⟩
end
end G
set_option Elab.async false
set_option linter.all false
set_option maxRecDepth 100000
set_option maxHeartbeats 4000000
namespace G
open PySem L2
section
variable {Z : Wd} {M H M' H' : Hp} {B : Bas} {W : List (Nat × Addr)} {σ σ' : St} {δ : List S}
variable {te ta tb tv : TE} {tt t u : TT} {Φ : D → List S → Prop} {Ψ : S → List S → Prop} {Ω : OD → List S → Prop} {Λ : List D → List S → Prop} {ts : TA}
variable {bs vs : List Nat} {P : Po} {s1 s2 : TS} {Ξ : List S → Prop}
/-! ### targets -/
theorem xg_name {i : Nat} {x : D} (hv : i ∈ vs) (hi : i ∉ bs) (k : Ξ (δ.set i (.d x))) : XG Z vs bs (gName i) x δ Ξ := fun B W M H σ v Q hb I a q =>
  q M H _ _ k Ex.rfl' (I.put (not_bor hb hi) (hol_d _) (slotD a)) (fun j hj => List.getElem?_set_ne (fun z : i = j => hj (z ▸ hv))) (List.length_set ..)
def XGs (Z : Wd) (vs bs : List Nat) (g : TGs) (xs : List D) (δ : List S) (Φ : List S → Prop) : Prop :=
  ∀ B W M H σ us (Q : St → Hp → Prop), W.map (·.1) = bs → I3 Z B W M H σ δ → AtL Z M us xs →
    (∀ M' H' σ' δ', Φ δ' → Ex M M' → I3 Z B W M' H' σ' δ' → (∀ j, j ∉ vs → σ'[j]? = σ[j]?) → σ'.length = σ.length → Q σ' H') → g us σ H Q
theorem xgs_nil (k : Ξ δ) : XGs Z vs bs gNil [] δ Ξ := fun B W M H σ us Q hb I a q => ⟨a.inv0, q M H σ δ k Ex.rfl' I (fun _ _ => rfl) rfl⟩
theorem xgs_cons {g : TG} {gs : TGs} {x : D} {xs : List D} (h : XG Z vs bs g x δ fun δ1 => XGs Z vs bs gs xs δ1 Ξ) : XGs Z vs bs (gCons g gs) (x :: xs) δ Ξ := fun B W M H σ us Q hb I a q => by
  obtain ⟨v, ws, rfl, a1, a2⟩ := a.inv
  exact ⟨v, ws, rfl, h B W M H σ v _ hb I a1 fun M1 H1 σ1 δ1 h1 e1 I1 k1 l1 => h1 B W M1 H1 σ1 ws _ hb I1 (a2.mono e1) fun M2 H2 σ2 δ2 h2 e2 I2 k2 l2 => q M2 H2 σ2 δ2 h2 (e1.tr e2) I2 (fun j hj => (k2 j hj).trans (k1 j hj)) (l2.trans l1)⟩
theorem xg_tup {gs : TGs} {xs : List D} {n : Nat} (hn : xs.length = n) (h : XGs Z vs bs gs xs δ Ξ) : XG Z vs bs (gTup Z.K n gs) (.tup xs) δ Ξ := fun B W M H σ v Q hb I a q => by
  cases a with
  | tup k l c => exact ⟨_, _, rfl, sqT_mono I.ex k, by rw [l, hn], h B W M H σ _ Q hb I ⟨l, c⟩ q⟩
/-! ### what a loop walks -/
structure WD (Z : Wd) (M : Hp) (J : It) (xs : List D) : Prop where
  go : ∀ i H, i < xs.length → Ex M H → J.go i H
  stop : ∀ H, Ex M H → J.stop xs.length H
  yld : ∀ i H x H' M2, i < xs.length → Ex M M2 → Ex M2 H → J.yld i H x H' → ∃ d, xs[i]? = some d ∧ ((H' = H ∧ At Z M2 x d) ∨ ∃ T us ds, H T = none ∧ H' = upd H T (.tup us) ∧ x = .ref T ∧ AtL Z M2 us ds ∧ d = .tup ds)
def XI (Z : Wd) (wi : TI) (δ : List S) (Φ : List D → List S → Prop) : Prop :=
  ∀ B W M H σ (R : It → Hp → Prop), I3 Z B W M H σ δ → (∀ M' H' δ' J xs, Φ xs δ' → Ex M M' → I3 Z B W M' H' σ δ' → WD Z M' J xs → R J H') → wi σ H R
def YD (Z : Wd) (M : Hp) (xs : List D) (i : Nat) (H : Hp) (x : V) (H' : Hp) : Prop := ∀ M2, Ex M M2 → Ex M2 H → ∃ d, xs[i]? = some d ∧ ((H' = H ∧ At Z M2 x d) ∨ ∃ T us ds, H T = none ∧ H' = upd H T (.tup us) ∧ x = .ref T ∧ AtL Z M2 us ds ∧ d = .tup ds)
theorem WD.walk {J : It} {xs : List D} (w : WD Z M J xs) : Walk J xs.length (Ex M) (YD Z M xs) :=
  ⟨w.go, w.stop, fun i H x H' hi _ y M2 e1 e2 => w.yld i H x H' M2 hi e1 e2 y⟩
/-- what it gives, as a datum over a state -/
theorem YD.use {xs : List D} {i : Nat} {x : V} {M0 : Hp} (y : YD Z M0 xs i H x H') (e : Ex M0 M) (I : I3 Z B W M H σ δ) : ∃ d M2, xs[i]? = some d ∧ Ex M M2 ∧ I3 Z B W M2 H' σ δ ∧ At Z M2 x d ∧ (∀ p o, H p = some o → H' p = some o) ∧ ∀ p o, H p = some o → M p = none → M2 p = none := by
  obtain ⟨d, hd, c⟩ := y M e I.ex
  rcases c with ⟨rfl, a⟩ | ⟨T, us, ds, hT, rfl, rfl, al, rfl⟩
  · exact ⟨d, M, hd, Ex.rfl', I, a, fun _ _ h => h, fun _ _ _ h => h⟩
  · have hm := I.ex.free hT
    exact ⟨_, upd M T (.tup us), hd, Ex.new hm, I.grow hT, .tup (SqT.of upd_same) al.len (al.mono (Ex.new hm)).at', fun p o h => by rw [upd_ne (ne_of_none h hT)]; exact h, fun p o h n => by rw [upd_ne (ne_of_none h hT)]; exact n⟩
theorem xs_for {g : TG} {tb : TS} {wi : TI} (h : XI Z wi δ fun xs δ0 => ∃ J : Nat → List S → Prop, J 0 δ0 ∧
      (∀ i d δ1, xs[i]? = some d → J i δ1 → XG Z vs bs g d δ1 fun δ2 => XS Z bs tb δ2 { N := J (i + 1), R := P.R, B := P.N, C := J (i + 1), X := P.X }) ∧ ∀ δ1, J xs.length δ1 → P.N δ1) : XS Z bs (tFor wi g tb) δ P := fun B W M H σ E hb I e =>
  h B W M H σ _ I fun M' H' δ' J xs f e1 I1 wd => by
    obtain ⟨Jv, j0, js, jn⟩ := f
    refine for_it wd.walk (fun i σ H => ∃ M'' δ'', Ex M' M'' ∧ I3 Z B W M'' H σ δ'' ∧ Jv i δ'') ⟨M', δ', Ex.rfl', I1, j0⟩ (fun i σ H _ ⟨M'', _, a, b, _⟩ => a.tr b.ex) (fun i x σ1 H1 H2 hi ⟨M'', δ'', a, b, c⟩ y => ?_) (fun σ1 H1 ⟨M'', δ'', a, b, c⟩ => e.nx _ _ _ _ (jn _ c) (e1.tr a) b)
    obtain ⟨d, M2, hd, e2, I2, at2, _⟩ := y.use a b
    refine js i d δ'' hd c B W M2 H2 σ1 x _ hb I2 at2 fun M3 H3 σ3 δ3 h3 e3 I3' _ _ => ?_
    have e4 : Ex M M3 := e1.tr (a.tr (e2.tr e3))
    refine h3 B W M3 H3 σ3 _ hb I3' ⟨fun M4 H4 σ4 δ4 p q I4 => ⟨M4, δ4, a.tr (e2.tr (e3.tr q)), I4, p⟩, fun _ _ _ _ _ _ p q => e.rt _ _ _ _ _ _ p (e4.tr q), fun _ _ _ _ p q => e.nx _ _ _ _ p (e4.tr q), fun M4 H4 σ4 δ4 p q I4 => ⟨M4, δ4, a.tr (e2.tr (e3.tr q)), I4, p⟩, fun _ q => e.xc _ (e4.tr q)⟩
/-! ### comprehensions -/
def wipeS (δ : List S) : List Nat → List S
  | [] => δ
  | v :: vs => (wipeS δ vs).set v .no
theorem wipeS_len : ∀ (vs : List Nat), (wipeS δ vs).length = δ.length
  | [] => rfl
  | v :: vs => by rw [show wipeS δ (v :: vs) = (wipeS δ vs).set v .no from rfl, List.length_set, wipeS_len vs]
theorem wipeS_out {j : Nat} : ∀ {vs : List Nat}, j ∉ vs → (wipeS δ vs)[j]? = δ[j]?
  | [], _ => rfl
  | v :: vs, h => by
    rw [List.mem_cons, not_or] at h
    rw [show wipeS δ (v :: vs) = (wipeS δ vs).set v .no from rfl, List.getElem?_set_ne (fun z => h.1 z.symm), wipeS_out h.2]
theorem wipeS_in {j : Nat} (hj : j < δ.length) : ∀ {vs : List Nat}, j ∈ vs → (wipeS δ vs)[j]? = some .no
  | v :: vs, h => by
    rw [show wipeS δ (v :: vs) = (wipeS δ vs).set v .no from rfl]
    by_cases e : v = j
    · subst e; rw [List.getElem?_set_self (by rw [wipeS_len]; exact hj)]
    · rw [List.getElem?_set_ne e]
      rcases List.mem_cons.mp h with z | z
      · exact absurd z.symm e
      · exact wipeS_in hj z
theorem wipe_out {j : Nat} : ∀ {vs : List Nat}, j ∉ vs → (wipe σ vs)[j]? = σ[j]?
  | [], _ => rfl
  | v :: vs, h => by
    rw [List.mem_cons, not_or] at h
    rw [show wipe σ (v :: vs) = (wipe σ vs).set v none from rfl, List.getElem?_set_ne (fun z => h.1 z.symm), wipe_out h.2]
theorem wipe_in {j : Nat} (hj : j < σ.length) : ∀ {vs : List Nat}, j ∈ vs → (wipe σ vs)[j]? = some none
  | v :: vs, h => by
    rw [show wipe σ (v :: vs) = (wipe σ vs).set v none from rfl]
    by_cases e : v = j
    · subst e; rw [List.getElem?_set_self (by rw [wipe_length]; exact hj)]
    · rw [List.getElem?_set_ne e]
      rcases List.mem_cons.mp h with z | z
      · exact absurd z.symm e
      · exact wipe_in hj z
theorem wipe_eq (h : ∀ j, j ∉ vs → σ'[j]? = σ[j]?) (hl : σ'.length = σ.length) : wipe σ' vs = wipe σ vs := by
  apply List.ext_getElem?
  intro j
  by_cases hj : j ∈ vs
  · by_cases hlt : j < σ.length
    · rw [wipe_in (hl ▸ hlt) hj, wipe_in hlt hj]
    · rw [List.getElem?_eq_none (by rw [wipe_length, hl]; omega), List.getElem?_eq_none (by rw [wipe_length]; omega)]
  · rw [wipe_out hj, wipe_out hj, h j hj]
/-- other values in slots of which nothing is known -/
theorem I3.swap {δ' : List S} (I : I3 Z B W M H σ δ) (h : ∀ j, j ∉ vs → σ'[j]? = σ[j]?) (hl : σ'.length = σ.length) (hd : ∀ j, j ∉ vs → δ'[j]? = δ[j]?) (hn : ∀ j, j ∈ vs → j < δ'.length → δ'[j]? = some .no) (hl' : δ'.length = δ.length) (hw : ∀ i p, i ∈ vs → (i, p) ∉ W) : I3 Z B W M H σ' δ' := by
  have fw : ∀ j p, Own σ' δ' j p → j ∉ vs ∧ Own σ δ j p := fun j p o => by
    have hj : j ∉ vs := fun z => by
      obtain ⟨r, y, a, b, c⟩ := o
      rw [hn j z (List.getElem?_eq_some_iff.mp b).1] at b; cases b; exact c
    exact ⟨hj, o.same (h j hj).symm (hd j hj).symm⟩
  refine ⟨I.ex, I.mg, I.keep, by rw [hl, hl']; exact I.len, fun j s e => ?_, fun j q w => ?_, fun j q o => I.own j q (fw j q o).2, fun j k q a b => I.dis j k q (fw j q a).2 (fw k q b).2⟩
  · by_cases hj : j ∈ vs
    · have hlt := (List.getElem?_eq_some_iff.mp e).1
      rw [hn j hj hlt] at e; cases e
      have : j < σ'.length := by rw [hl, I.len, ← hl']; exact hlt
      exact ⟨σ'[j], by simp [this], trivial⟩
    · rw [hd j hj] at e
      obtain ⟨o, a, b⟩ := I.sl j s e
      exact ⟨o, by rw [h j hj]; exact a, b⟩
  · have hj : j ∉ vs := fun z => hw j q z w
    exact (I.bor j q w).same (h j hj) (hd j hj)
theorem xo_lc {g : TG} {wi : TI} (h : XI Z wi δ fun xs δ0 => (∀ v ∈ vs, δ0[v]? = some .no) ∧ xs.length ≤ 1000000 ∧ ∃ J : Nat → List D → List S → Prop, J 0 [] δ0 ∧
      (∀ i d acc δ1 bs, (∀ v ∈ vs, v ∉ bs) → xs[i]? = some d → J i acc δ1 → XG Z vs bs g d δ1 fun δ2 => XT Z tt δ2 fun b δ3 => if b = true then XE Z te δ3 fun y δ4 => J (i + 1) (acc ++ [y]) (wipeS δ4 vs) else J (i + 1) acc (wipeS δ3 vs)) ∧
      ∀ acc δ1, J xs.length acc δ1 → Ω (.lst acc) δ1) : XO Z (tLc wi g tt te vs) δ Ω := XO.mk fun B W M H σ Q I q =>
  h B W M H σ _ I fun M' H1 δ' J xs f e1 I1 wd A hA => by
    obtain ⟨hno, hxs, Jv, j0, js, jn⟩ := f
    have hAB := I1.fresh hA
    have hAm := I1.ex.free hA
    refine lc_it wd.walk (fun i H => i ≤ xs.length → ∃ M'' δ'' acc av, Ex M' M'' ∧ I3 Z B W M'' H σ δ'' ∧ Jv i acc δ'' ∧ H A = some (.lst av) ∧ AtL Z M'' av acc ∧ M'' A = none ∧ (∀ j, ¬ Own σ δ'' j A) ∧ (∀ v ∈ vs, δ''[v]? = some .no) ∧ acc.length ≤ i)
      (fun _ => ⟨M', δ', [], [], Ex.rfl', I1.other hAB hAm (I1.newOwn hA), j0, upd_same, .nil, hAm, I1.newOwn hA, hno, Nat.le_refl _⟩) (fun i H hi p => ?_) (fun i x Ha Hb hi p y => ?_) (fun H p => ?_)
    · obtain ⟨M'', _, _, _, a, b, _⟩ := p hi
      exact a.tr b.ex
    · obtain ⟨M'', δ'', acc, av, a, Ia, ja, hA1, al, hAm1, hAo, hno1, hacc⟩ := p (Nat.le_of_lt hi)
      obtain ⟨d, M2, hd, e2, I2, at2, k2, m2⟩ := y.use a Ia
      have hA2 := k2 _ _ hA1
      have hAm2 := m2 _ _ hA1 hAm1
      have hvlen : ∀ v ∈ vs, v < δ''.length := fun v hv => (List.getElem?_eq_some_iff.mp (hno1 v hv)).1
      have hWv : ∀ i p, i ∈ vs → (i, p) ∉ W := fun i p hv hw => by
        exact Own.not (hno1 i hv) hol_no (I2.bor i p hw)
      have Iw : I3 Z B W M2 Hb (wipe σ vs) δ'' := I2.swap (fun j hj => wipe_out hj) (wipe_length _ _) (fun _ _ => rfl) (fun j hj _ => hno1 j hj) rfl hWv
      have hbs : ∀ v ∈ vs, v ∉ (owns 0 (wipe σ vs) δ'').map (·.1) := fun v hv hm => by
        obtain ⟨⟨i, p⟩, hmem, rfl⟩ := List.mem_map.mp hm
        exact Own.not (hno1 _ hv) hol_no (mem_owns.mp hmem)
      have ownEq : ∀ i p, (i, p) ∈ owns 0 (wipe σ vs) δ'' ↔ Own σ δ'' i p := fun i p => by
        rw [mem_owns]
        constructor
        · intro o
          have hi' : i ∉ vs := fun hv => Own.not (hno1 i hv) hol_no o
          exact o.same (wipe_out hi').symm rfl
        · intro o
          have hi' : i ∉ vs := fun hv => Own.not (hno1 i hv) hol_no o
          exact o.same (wipe_out hi') rfl
      have fin : ∀ M4 H4 σ4 δ4, Ex M2 M4 → (∀ j, j ∉ vs → σ4[j]? = (wipe σ vs)[j]?) → σ4.length = (wipe σ vs).length → I3 Z ⟨Hb, M2⟩ (owns 0 (wipe σ vs) δ'') M4 H4 σ4 δ4 →
          I3 Z B W M4 H4 σ (wipeS δ4 vs) ∧ H4 A = some (.lst av) ∧ M4 A = none ∧ (∀ j, ¬ Own σ (wipeS δ4 vs) j A) ∧ ∀ v ∈ vs, (wipeS δ4 vs)[v]? = some .no := fun M4 H4 σ4 δ4 e4 k4 l4 J4 => by
        have hl4 : δ4.length = δ''.length := by rw [← J4.len, l4, wipe_length, Ia.len]
        have J5 : I3 Z ⟨Hb, M2⟩ (owns 0 (wipe σ vs) δ'') M4 H4 σ (wipeS δ4 vs) := J4.swap (vs := vs) (fun j hj => by rw [k4 j hj, wipe_out hj]) (by rw [l4, wipe_length]) (fun j hj => wipeS_out hj) (fun j hj hlt => wipeS_in (by rw [wipeS_len] at hlt; exact hlt) hj) (wipeS_len _) fun i p hv hw => hbs i hv (List.mem_map_of_mem (f := (·.1)) hw)
        obtain ⟨z1, z2, z3⟩ := J5.stays (a := A) hA2 hAm2 (fun i hi => hAo i ((ownEq i A).mp hi)) (fun _ e => nomatch e)
        exact ⟨I2.back ownEq J5, z1, z3, z2, fun v hv => wipeS_in (by rw [hl4]; exact hvlen v hv) hv⟩
      refine js i d acc δ'' _ hbs hd ja _ _ M2 Hb (wipe σ vs) x _ rfl Iw.rebase at2 fun M3 H3 σ3 δ3 h3 e3 J3 k3 l3 => ⟨(wipe_eq k3 l3).trans (wipe_eq (fun j hj => wipe_out hj) (wipe_length _ _)), ?_⟩
      refine h3 _ _ M3 H3 σ3 _ J3 fun M4 H4 δ4 b h4 e4 J4 => ?_
      cases b with
      | true =>
        rw [if_pos rfl] at h4 ⊢
        refine XE.run h4 J4 fun M5 H5 δ5 y' d' h5 e5 J5 at5 => ?_
        obtain ⟨z1, z2, z3, z4, z5⟩ := fin M5 H5 σ3 δ5 (e3.tr (e4.tr e5)) k3 l3 J5
        have hlen : av.length < sizeLine := Nat.lt_of_lt_of_le (by have := al.len; omega : av.length < 1000001) (by decide)
        refine ⟨av, z2, hlen, fun _ => ⟨M5, _, _, _, a.tr (e2.tr (e3.tr (e4.tr e5))), z1.other hAB z3 z4, h5, upd_same, AtL.app (al.mono (e2.tr (e3.tr (e4.tr e5)))) (.one at5), z3, z4, z5, by rw [List.length_append, List.length_singleton]; omega⟩⟩
      | false =>
        rw [if_neg Bool.false_ne_true] at h4 ⊢
        obtain ⟨z1, z2, z3, z4, z5⟩ := fin M4 H4 σ3 δ4 (e3.tr e4) k3 l3 J4
        exact fun _ => ⟨M4, _, _, _, a.tr (e2.tr (e3.tr e4)), z1, h4, z2, al.mono (e2.tr (e3.tr e4)), z3, z4, z5, Nat.le_succ_of_le hacc⟩
    · obtain ⟨M'', δ'', acc, av, a, Ia, ja, hA1, al, hAm1, hAo, hno1, _⟩ := p (Nat.le_refl _)
      exact q M'' H δ'' A _ _ (jn _ _ ja) (e1.tr a) Ia hA1 al hAm1 hAB hAo
/-! ### while -/
/-! ### sources -/
theorem wd_list {a : Addr} {us : List V} {xs : List D} (h : SqL Z.K M a us) (al : AtL Z M us xs) : WD Z M (Itl Z.K a) xs :=
  ⟨fun i H hi e => ⟨us, us[i]'(by rw [al.len]; exact hi), sqL_mono e h, by simp [al.len, hi]⟩, fun H e => ⟨us, sqL_mono e h, by rw [al.len]; exact Nat.le_refl _⟩, fun i H x H' M2 hi e1 e2 y => by
    have hx := y.2 us (sqL_mono (e1.tr e2) h)
    obtain ⟨d, hd, a⟩ := al.getV hx
    exact ⟨d, hd, .inl ⟨y.1, a.mono e1⟩⟩⟩
theorem wd_tup {a : Addr} {us : List V} {xs : List D} (h : SqT Z.K M a us) (al : AtL Z M us xs) : WD Z M (Itt Z.K a) xs :=
  ⟨fun i H hi e => ⟨us, us[i]'(by rw [al.len]; exact hi), sqT_mono e h, by simp [al.len, hi]⟩, fun H e => ⟨us, sqT_mono e h, by rw [al.len]; exact Nat.le_refl _⟩, fun i H x H' M2 hi e1 e2 y => by
    have hx := y.2 us (sqT_mono (e1.tr e2) h)
    obtain ⟨d, hd, a⟩ := al.getV hx
    exact ⟨d, hd, .inl ⟨y.1, a.mono e1⟩⟩⟩
theorem xi_list (h : XE Z te δ fun d δ1 => ∃ xs, (d = .lst xs ∨ ∃ ns, d = .scr ns ∧ xs = ns.map .int) ∧ Λ xs δ1) : XI Z (iList Z.K te) δ Λ := fun B W M H σ R I q =>
  h.run I fun M1 H1 δ1 x a h1 e1 I1 at1 => by
    obtain ⟨xs, hx, f⟩ := h1
    rcases hx with rfl | ⟨ns, rfl, rfl⟩
    · cases at1 with
      | lst k l c => exact ⟨_, rfl, ⟨_, SqL.of (I1.ex _ _ k)⟩, q M1 H1 δ1 _ _ f e1 I1 (wd_list (SqL.of k) ⟨l, c⟩)⟩
    · cases at1 with
      | scr k => exact ⟨_, rfl, ⟨_, sqL_mono I1.ex k⟩, q M1 H1 δ1 _ _ f e1 I1 (wd_list k (AtL.ofInts ns))⟩
theorem xi_tup (h : XE Z te δ fun d δ1 => ∃ xs, d = .tup xs ∧ Λ xs δ1) : XI Z (iTup Z.K te) δ Λ := fun B W M H σ R I q =>
  h.run I fun M1 H1 δ1 x a h1 e1 I1 at1 => by
    obtain ⟨xs, rfl, f⟩ := h1
    cases at1 with
    | tup k l c => exact ⟨_, rfl, ⟨_, sqT_mono I1.ex k⟩, q M1 H1 δ1 _ _ f e1 I1 (wd_tup k ⟨l, c⟩)⟩
def rng (lo : Int) (n : Nat) : List D := (List.range n).map fun (i : Nat) => D.int (lo + (i : Int))
theorem rng_len {lo : Int} {n : Nat} : (rng lo n).length = n := by simp [rng]
theorem rng_at {lo : Int} {n i : Nat} {d : D} (h : (rng lo n)[i]? = some d) : i < n ∧ d = .int (lo + i) := by
  have hi : i < n := by have := (List.getElem?_eq_some_iff.mp h).1; rwa [rng_len] at this
  refine ⟨hi, ?_⟩
  simp [rng, hi] at h
  exact h.symm
theorem wd_rng {lo : Int} {n : Nat} : WD Z M (Itr lo n) (rng lo n) :=
  ⟨fun i H hi _ => by rw [rng_len] at hi; exact hi, fun H _ => by rw [rng_len]; exact Nat.le_refl n, fun i H x H' M2 hi _ _ y => by
    rw [rng_len] at hi
    refine ⟨.int (lo + i), by simp [rng, hi], .inl ⟨y.1, ?_⟩⟩
    rw [y.2]; exact .int⟩
theorem xi_rng1 (h : XE Z te δ fun d δ1 => ∃ j : Int, d = .int j ∧ -(2 ^ 62) ≤ j ∧ j < 2 ^ 62 ∧ Λ (rng 0 j.toNat) δ1) : XI Z (iRng1 (tCons te tNil)) δ Λ := fun B W M H σ R I q =>
  h.run I fun M1 H1 δ1 x a h1 e1 I1 at1 => by
    obtain ⟨j, rfl, b1, b2, f⟩ := h1
    cases at1
    exact ⟨j, rfl, b1, b2, q M1 H1 δ1 _ _ f e1 I1 wd_rng⟩
def enumD (xs : List D) : List D := xs.zipIdx.map fun (x, i) => D.tup [.int (i : Nat), x]
theorem enumD_len {xs : List D} : (enumD xs).length = xs.length := by simp [enumD]
theorem enumD_at {xs : List D} {i : Nat} {d : D} (h : (enumD xs)[i]? = some d) : ∃ x, xs[i]? = some x ∧ d = .tup [.int (i : Nat), x] := by
  simp only [enumD, List.getElem?_map, List.getElem?_zipIdx] at h
  cases e : xs[i]? with
  | none => rw [e] at h; simp at h
  | some x => rw [e] at h; simp at h; exact ⟨x, rfl, h.symm⟩
theorem xi_enum (h : XE Z te δ fun d δ1 => ∃ xs, d = .lst xs ∧ Λ (enumD xs) δ1) : XI Z (iEnum Z.K (tCons te tNil)) δ Λ := fun B W M H σ R I q =>
  h.run I fun M1 H1 δ1 x a h1 e1 I1 at1 => by
    obtain ⟨xs, rfl, f⟩ := h1
    cases at1 with
    | lst k l c =>
      rename_i p us
      refine ⟨p, us, rfl, SqL.of (I1.ex _ _ k), q M1 H1 δ1 _ _ f e1 I1 ⟨fun i H hi e => ?_, fun H e => ?_, fun i H x H' M2 hi ea eb y => ?_⟩⟩
      · rw [enumD_len] at hi
        exact ⟨us, us[i]'(by rw [l]; exact hi), SqL.of (e _ _ k), by simp [l, hi]⟩
      · exact ⟨us, SqL.of (e _ _ k), by rw [enumD_len, l]; exact Nat.le_refl _⟩
      · obtain ⟨T, z, h1, h2, h3, h4⟩ := y
        have hz := h4 us (SqL.of ((ea.tr eb) _ _ k))
        obtain ⟨d, hd, ad⟩ := AtL.getV (Z := Z) (M := M1) ⟨l, c⟩ hz
        refine ⟨_, ?_, .inr ⟨T, _, [.int (i : Nat), d], h2, h3, h1, .cons .int (.one (ad.mono ea)), rfl⟩⟩
        simp only [enumD, List.getElem?_map, List.getElem?_zipIdx, hd]; simp
theorem xi_str (h : XE Z te δ fun d δ1 => ∃ s, d = .str s ∧ Λ (s.cps.toList.map fun c => D.str ⟨#[c]⟩) δ1) : XI Z (iStr te) δ Λ := fun B W M H σ R I q =>
  h.run I fun M1 H1 δ1 x a h1 e1 I1 at1 => by
    obtain ⟨s, rfl, f⟩ := h1
    cases at1
    refine ⟨s, rfl, q M1 H1 δ1 _ _ f e1 I1 ⟨fun i H hi _ => ?_, fun H _ => ?_, fun i H x H' M2 hi _ _ y => ?_⟩⟩
    · simpa using (walk_str (z := s)).goes i H (by simpa using hi) trivial
    · simpa using (walk_str (z := s)).stops H trivial
    · obtain ⟨e, c, hc, rfl⟩ := (walk_str (z := s)).yields i H x H' (by simpa using hi) trivial y
      refine ⟨.str ⟨#[c]⟩, ?_, .inl ⟨e, .str⟩⟩
      rw [List.getElem?_map, Array.getElem?_toList, hc]; rfl
end
end G
set_option Elab.async false
set_option linter.all false
set_option maxRecDepth 100000
set_option maxHeartbeats 4000000
/-! sets of texts made of a list, and sorted -/
namespace GS
open PySem PySem.Spec PyProof.Rows L2
open PySem.Froz (SD sObj tailTx addTx TxOk)
/-- the set's table can be walked -/
def Led (w : World) (D : SD) : Prop := Ris D.2.2.place.toList ∧ (w.params.followText "set-order" = true ∨ D.2.2.led = true)
theorem led_tail {w : World} {n : Nat} {xs : Array (Int × Value)} {tb : SetTable} {b : Bool} (r : Ris tb.place.toList) (l : w.params.followText "set-order" = true ∨ tb.led = true) : Led w (tailTx n xs tb b) := by
  unfold tailTx
  split
  · exact ⟨relayAll_ris tb xs _, l.imp id fun z => (relayAll_led tb xs _).trans z⟩
  · exact ⟨r, l⟩
theorem led_add {w : World} {D : SD} {n : Int} {v : Value} (L : Led w D) : Led w (addTx n v D) := by
  have r1 := layNew_ris D.2.2 D.1 n v L.1
  have l1 := L.2.imp id fun z => (layNew_led D.2.2 D.1 n v).trans z
  unfold addTx
  apply led_tail
  · split <;> exact r1
  · split <;> exact l1
section
variable {P : Program} {w : World} {A : Around} {E : Value → Shared → Prop} {s : Shared}
theorem found_x {a : Addr} {D : SD} {l : List Str} {k : Str} {u : Tok} {Q : Bool → Shared → Prop} (ho : s.heap.get? a = some (sObj "set" D)) (F : TxOk P w D l) (hk : k ∈ l) (hb : l.length < scanBound) (h : Q false s) :
    wpAny (model P w) A (setAddHashed a (.str k u) (hashStr w k)) Q E s := by
  obtain ⟨xs, n, tb⟩ := D
  have kk : (strKind P w).is k (.str k u) = true := Froz.is_str k u
  have b0 : xs.size < scanBound := by have : xs.size = l.length := F.sz; omega
  obtain ⟨e, he, hz⟩ := (F.mem k).mp hk
  have some_ : ∃ j, List.findIdx? (fun e => (strKind P w).is k e.2) xs.toList = some j := by
    cases q : List.findIdx? (fun e => (strKind P w).is k e.2) xs.toList with
    | some j => exact ⟨j, rfl⟩
    | none => have := List.findIdx?_eq_none_iff.mp q e he; rw [hz] at this; cases this
  obtain ⟨j, hj⟩ := some_
  have el : ElemsOf (strKind P w) xs.toList := F.el
  unfold setAddHashed setAddHashedIn
  refine wpAny_holding (wpAny_bind (wpAny_setState_of ho rfl F.fit ?_))
  dsimp only
  rw [byScan_of rfl b0 el]
  simp only [↓reduceIte]
  unfold setAddByScan
  refine wpAny_bind (wpAny_bind (wpAny_rule (wpAny_bind (wpAny_setScan_of (knd := strKind P w) (k := k) kk ho rfl F.fit el ?_))))
  rw [hj]
  exact wpAny_pure (wpAny_pure h)
/-- the set at a holds just the texts l, each once -/
def Holds (P : Program) (w : World) (h : Heap) (a : Addr) (l : List Str) : Prop := ∃ D, h.get? a = some (sObj "set" D) ∧ TxOk P w D l ∧ Led w D ∧ l.Nodup
theorem Holds.stay {h h' : Heap} {a : Addr} {l : List Str} (x : Holds P w h a l) (k : ∀ o, h.get? a = some o → h'.get? a = some o) : Holds P w h' a l := by
  obtain ⟨D, e, r⟩ := x
  exact ⟨D, k _ e, r⟩
def Upto (xs l : List Str) (i : Nat) : Prop := l.length ≤ i ∧ ∀ x, x ∈ l ↔ x ∈ xs.take i
theorem take_get {α : Type} {l : List α} {i : Nat} {x : α} (h : l[i]? = some x) : l.take (i + 1) = l.take i ++ [x] := by
  have hi := (List.getElem?_eq_some_iff.mp h)
  obtain ⟨hi, rfl⟩ := hi
  exact (List.take_append_getElem hi).symm
/-- one text more -/
theorem add_one {a : Addr} {l xs : List Str} {i : Nat} {k : Str} {u : Tok} {Q : Bool → Shared → Prop} (H : Holds P w s.heap a l) (U : Upto xs l i) (hx : xs[i]? = some k) (hb : i + 1 < scanBound)
    (h : ∀ b h' l', (∀ c o, c ≠ a → s.heap.get? c = some o → h'.get? c = some o) → Holds P w h' a l' → Upto xs l' (i + 1) → Q b { s with heap := h' }) : wpAny (model P w) A (setAddHashed a (.str k u) (hashStr w k)) Q E s := by
  obtain ⟨D, ho, F, L, nd⟩ := H
  obtain ⟨U1, U2⟩ := U
  have tk := take_get hx
  by_cases hk : k ∈ l
  · refine found_x ho F hk (by omega) (h false s.heap l (fun _ _ _ e => e) ⟨D, ho, F, L, nd⟩ ⟨by omega, fun x => ?_⟩)
    rw [tk, List.mem_append, List.mem_singleton, ← U2]
    exact ⟨.inl, fun z => z.elim id fun e => e ▸ hk⟩
  · refine Froz.add_x ho F hk (by omega) (h true _ (k :: l) (fun c o hc e => (Heap.get?_update_other _ _ (Ne.symm hc)).trans e) ⟨_, Froz.get_upd _ ho rfl, Froz.add_ok u F, led_add L, List.nodup_cons.mpr ⟨hk, nd⟩⟩ ⟨by rw [List.length_cons]; omega, fun x => ?_⟩)
    rw [tk, List.mem_append, List.mem_singleton, ← U2, List.mem_cons]
    exact ⟨fun z => z.elim .inr .inl, fun z => z.elim .inr .inl⟩
end
section
variable {P : Program} {w : World} {A : Around} {R : Result → Shared → Prop} {I : Addr} {fp wr : List Addr} {g : Array GenState → Array GenState → Prop} {n : Nat} {Pv : Nat → Value → Prop} {St : Nat → Shared → Prop}
theorem update_loop (K : WalksS P w A.in1 I fp wr g n Pv St) (a : Addr) (ha : a ∉ fp) (xs : List Str) (hn : xs.length = n) (hb : n + 1 < scanBound) (hv : ∀ i v, Pv i v → ∃ x t, xs[i]? = some x ∧ v = .str x t) :
    ∀ (m i : Nat) (s : Shared), n - i = m → i ≤ n → St i s → (∃ l, Holds P w s.heap a l ∧ Upto xs l i) →
      (∀ s' l, Moved (a :: wr) g s s' → Holds P w s'.heap a l → Upto xs l n → R (.ok (.ret .none)) s') → codeAny (model P w) A (.builtin "set.update.loop" ⟨[.ref a, .ref I], []⟩) R s
  | 0, i, s, hm, hi, st, ⟨l, Hl, U⟩, fin => by
    obtain rfl : i = n := by omega
    refine codeAny_builtin PyProof.Rows.F.entry_set_update_loop ?_
    rw [Around.under_plainId PyProof.Rows.F.plain_set_update_loop]
    refine wpAny_bind (K.done s (fun r s1 => wpAny (model P w) A.in1 _ _ _ s1) _ st fun s1 mv => ?_)
    have aw : a ∉ wr := fun z => ha (K.sub _ z)
    exact wpAny_pure (fin s1 l (mv.mono fun b z => List.mem_cons_of_mem _ z) (Hl.stay fun o e => mv.heap a o aw e) U)
  | m + 1, i, s, hm, hi, st, ⟨l, Hl, U⟩, fin => by
    have lt : i < n := by omega
    have aw : a ∉ wr := fun z => ha (K.sub _ z)
    have cons : ∀ b ∈ wr, b ∈ a :: wr := fun b z => List.mem_cons_of_mem _ z
    refine codeAny_builtin PyProof.Rows.F.entry_set_update_loop ?_
    rw [Around.under_plainId PyProof.Rows.F.plain_set_update_loop]
    refine wpAny_bind (K.item i s (fun r s1 => wpAny (model P w) A.in1 _ _ _ s1) _ lt st fun v s1 pv st1 mv => ?_)
    obtain ⟨x, t, hx, rfl⟩ := hv i v pv
    have H1 : Holds P w s1.heap a l := Hl.stay fun o e => mv.heap a o aw e
    show wpAny _ A.in1 (holding [Value.str x t] (setAdd a (.str x t)) >>= _) _ _ s1
    refine wpAny_bind (wpAny_holding ?_)
    unfold setAdd
    refine wpAny_holding (wpAny_bind ((PySem.strKind P w).pyHash (k := x) (strKind_is _ _ _ _) ?_))
    refine add_one (s := { s1 with toks := s1.toks + 1 }) H1 U hx (by omega) fun b h2 l2 k2 H2 U2 => ?_
    refine wpAny_pure ⟨plainId_quiet PyProof.Rows.F.plain_set_update_loop _, update_loop K a ha xs hn hb hv m (i + 1) _ (by omega) lt (K.frame _ s1 _ _ st1 (Nat.le_succ _) fun b hb o e => k2 b o (fun z => ha (z ▸ hb)) e) ⟨l2, H2, U2⟩ fun s3 l3 mv3 H3 U3 => ?_⟩
    exact fin s3 l3 (Moved.trans K.gtrans ((mv.mono cons).then_heap (Nat.le_succ _) fun b o hb e => k2 b o (fun z => hb (by rw [z]; exact List.mem_cons_self)) e) mv3) H3 U3
end
end GS
set_option Elab.async false
set_option linter.all false
set_option maxRecDepth 100000
set_option maxHeartbeats 8000000
namespace GS
open PySem PySem.Spec PyProof.Rows L2
open PySem.Froz (SD sObj tailTx addTx TxOk)
/-- a set as set() makes it -/
def new0 (w : World) : Obj := { cls := .type "set", dict := none, data := .set #[] 0 (.fresh 0 0 (!w.params.followText "set-order")) }
section
variable {P : Program} {w : World} {A : Around} {E : Value → Shared → Prop} {s : Shared}
theorem holds_new {h : Heap} {a : Addr} (e : h.get? a = some (new0 w)) : Holds P w h a [] := by
  refine ⟨(#[], 0, .fresh 0 0 (!w.params.followText "set-order")), e, Froz.TxOk.nil rfl, ⟨List.Pairwise.nil, ?_⟩, List.nodup_nil⟩
  show _ ∨ (!w.params.followText "set-order") = true
  cases w.params.followText "set-order" <;> simp
theorem strs_get : ∀ {us : List Value} {xs : List Str}, StrsAre us xs → ∀ (i : Nat) v, us[i]? = some v → ∃ x t, xs[i]? = some x ∧ v = Value.str x t
  | _, _, .nil, i, v, h => by simp at h
  | _, _, .cons n t r, 0, v, h => ⟨n, t, rfl, by simpa using h.symm⟩
  | _, _, .cons n t r, i + 1, v, h => by simpa using strs_get r i v (by simpa using h)
/-- set(xs), xs a list of texts -/
theorem call_set {l : Addr} {us : Array Value} {xs : List Str} {Q : Value → Shared → Prop} (hh : A.handled = none) (hl : s.heap.IsList l us) (hx : StrsAre us.toList xs) (hb : us.size + 1 < scanBound)
    (q : ∀ h' tk ys, (∀ b o, b < s.heap.objs.size → s.heap.get? b = some o → h'.get? b = some o) → Holds P w h' s.heap.objs.size ys → (∀ x, x ∈ ys ↔ x ∈ xs) → ys.length ≤ xs.length → Q (.ref s.heap.objs.size) { s with heap := h', toks := tk }) :
    wpAny (model P w) A (call (.type "set") [.ref l]) Q E s := by
  have hsz : xs.length = us.size := by
    have : us.toList.length = xs.length := by
      clear q hb hl
      generalize us.toList = z at hx
      induction hx with
      | nil => rfl
      | cons _ _ _ ih => simp [ih]
    rw [← this, Array.length_toList]
  obtain ⟨c, tl, hmro⟩ := PySem.F.called_set.mro
  have made := PySem.F.called_set.made
  have sub := PySem.F.called_set.sub
  have nt := PySem.F.called_set.notType
  have cc := PySem.F.called_set.canCreate
  have tc := PySem.F.typeCall_set_1 (.ref l)
  refine wpAny_call (codeAny_of_tree (M := model P w) ?_)
  refine wpAny_pure (A := A.in1) ⟨Code.quiet_builtin _ (by decide +kernel), codeAny_builtin PySem.F.entry_type_call ?_⟩
  rw [Around.under_plain (weight_type_call_type "set" [.ref l] []) rfl]
  repeat (any_goals (first | assumption | wp_step))
  refine codeAny_mono (code_set_led1 (.ref l) (E := E) (Q₁ := fun v t => v = .ref s.heap.objs.size ∧ t = { s with heap := s.heap.push (new0 w) }) ⟨rfl, rfl⟩) fun r t hr => ?_
  match r, hr with
  | .error e, hr => exact hr
  | .ok (.ret v), hr =>
    obtain ⟨rfl, rfl⟩ := hr
    have h0 : (s.heap.push (new0 w)).get? s.heap.objs.size = some (new0 w) := Heap.get?_push_size _ rfl
    have ty : Shared.TypeIs { s with heap := s.heap.push (new0 w) } (.ref s.heap.objs.size) "set" := ⟨_, h0, rfl⟩
    have il := PySem.F.called_set.init.lookup
    have ib := PySem.F.called_set.init.bind (.ref s.heap.objs.size)
    repeat (any_goals (first | assumption | wp_step))
    refine codeAny_mono (codeAny_call_builtin (R := wants (fun r t => r = .none ∧ ∃ h' tk ys, t = { s with heap := h', toks := tk } ∧ (∀ b o, b < s.heap.objs.size → s.heap.get? b = some o → h'.get? b = some o) ∧ Holds P w h' s.heap.objs.size ys ∧ (∀ x, x ∈ ys ↔ x ∈ xs) ∧ ys.length ≤ xs.length) E)
      PySem.F.called_set.init.plain PySem.F.entry_set_init (check_set_init_1 ty ?_)) fun r2 t2 hr2 => ?_
    · obtain ⟨⟨oc, od, odt, osl⟩, hol, hcl, nl, hdl⟩ := hl
      simp only at hcl hdl
      subst hcl hdl
      have hlt : l < s.heap.objs.size := Heap.lt_size hol
      have il1 : (s.heap.push (new0 w)).IsList l us := ⟨_, Heap.get?_push_of_some _ hol, rfl, nl, rfl⟩
      have ol := Heap.get?_push_of_some (new0 w) hol
      have sb1 := PySem.F.sub_list_set
      have sb2 := PySem.F.sub_list_frozenset
      have nd : (Value.type "list" == Value.type "dict") = false := by decide
      unfold Builtin.«set.__init__» noKeywords Builtin.Frozenset.updateFrom
      generalize hPI : pyIter = PI
      wp_walk
      subst hPI
      refine wpAny_pyIter_list il1 (wpAny_bind (wpAny_runValue ?_))
      have hh3 : A.in1.in1.in1.handled = none := by simp [hh]
      have z1 : (s.heap.push (new0 w)).objs.size = s.heap.objs.size + 1 := Heap.size_push ..
      have ne1 : l ≠ (s.heap.push (new0 w)).objs.size := by rw [z1]; exact Nat.ne_of_lt (Nat.lt_succ_of_lt hlt)
      have out : s.heap.objs.size ∉ [(s.heap.push (new0 w)).objs.size, l] := by
        rw [z1]
        intro h
        rcases List.mem_cons.mp h with h | h
        · exact Nat.ne_of_lt (Nat.lt_succ_self _) h
        · exact Nat.ne_of_gt hlt (List.mem_singleton.mp h)
      refine update_loop ((Walks.list hh3 _ l ne1 us).toS) s.heap.objs.size out xs hsz hb (fun i v hv => strs_get hx i v (by rw [Array.getElem?_toList]; exact hv)) (us.size - 0) 0 _ (by omega) (Nat.zero_le _)
        ⟨⟨_, Heap.get?_push_size _ rfl, rfl, rfl⟩, il1.push _⟩ ⟨[], holds_new (Heap.get?_push_of_some _ h0), Nat.le_refl _, fun x => by simp⟩ fun t ys mv Hy U => ?_
      obtain ⟨h', g', d', tk', os'⟩ := t
      obtain rfl : g' = s.gens := mv.gens
      obtain rfl : d' = s.drawn := mv.drawn
      obtain rfl : os' = s.os := mv.os
      have fin : ∀ b o, b < s.heap.objs.size → s.heap.get? b = some o → h'.get? b = some o := fun b o hb e => ?fin
      case fin =>
        refine mv.heap b o (fun z => ?_) (Heap.get?_push_of_some _ (Heap.get?_push_of_some _ e))
        rcases List.mem_cons.mp z with z | z
        · exact Nat.ne_of_lt hb z
        · have z := List.mem_singleton.mp z
          rw [z1] at z
          exact Nat.ne_of_lt (Nat.lt_succ_of_lt hb) z
      show wpAny _ _ _ _ _ _
      refine wpAny_pure ?_
      show wpAny _ _ (ret Value.none) _ _ _
      exact wpAny_pure ⟨rfl, h', tk', ys, rfl, fin, Hy, fun x => by rw [U.2, ← hsz, List.take_length], by rw [hsz]; exact U.1⟩
    · match r2, hr2 with
      | .error e, hr2 => exact hr2
      | .ok (.ret v2), hr2 =>
        obtain ⟨rfl, h', tk, ys, rfl, k1, k2, k3, k4⟩ := hr2
        repeat (any_goals (first | assumption | wp_step))
        exact q _ _ _ k1 k2 k3 k4
end
end GS
set_option Elab.async false
set_option linter.all false
set_option maxRecDepth 100000
set_option maxHeartbeats 8000000
namespace GS
open PySem PySem.Spec PyProof.Rows L2
open PySem.Froz (SD sObj tailTx addTx TxOk)
section
variable {P : Program} {w : World} {A : Around} {E : Value → Shared → Prop} {s : Shared}
/-- set(xs), xs a tuple of texts -/
theorem call_setT {l : Addr} {us : Array Value} {xs : List Str} {Q : Value → Shared → Prop} (hh : A.handled = none) (hl : s.heap.IsTuple l us) (hx : StrsAre us.toList xs) (hb : us.size + 1 < scanBound)
    (q : ∀ h' tk ys, (∀ b o, b < s.heap.objs.size → s.heap.get? b = some o → h'.get? b = some o) → Holds P w h' s.heap.objs.size ys → (∀ x, x ∈ ys ↔ x ∈ xs) → ys.length ≤ xs.length → Q (.ref s.heap.objs.size) { s with heap := h', toks := tk }) :
    wpAny (model P w) A (call (.type "set") [.ref l]) Q E s := by
  have hsz : xs.length = us.size := by
    have : us.toList.length = xs.length := by
      clear q hb hl
      generalize us.toList = z at hx
      induction hx with
      | nil => rfl
      | cons _ _ _ ih => simp [ih]
    rw [← this, Array.length_toList]
  obtain ⟨c, tl, hmro⟩ := PySem.F.called_set.mro
  have made := PySem.F.called_set.made
  have sub := PySem.F.called_set.sub
  have nt := PySem.F.called_set.notType
  have cc := PySem.F.called_set.canCreate
  have tc := PySem.F.typeCall_set_1 (.ref l)
  refine wpAny_call (codeAny_of_tree (M := model P w) ?_)
  refine wpAny_pure (A := A.in1) ⟨Code.quiet_builtin _ (by decide +kernel), codeAny_builtin PySem.F.entry_type_call ?_⟩
  rw [Around.under_plain (weight_type_call_type "set" [.ref l] []) rfl]
  repeat (any_goals (first | assumption | wp_step))
  refine codeAny_mono (code_set_led1 (.ref l) (E := E) (Q₁ := fun v t => v = .ref s.heap.objs.size ∧ t = { s with heap := s.heap.push (new0 w) }) ⟨rfl, rfl⟩) fun r t hr => ?_
  match r, hr with
  | .error e, hr => exact hr
  | .ok (.ret v), hr =>
    obtain ⟨rfl, rfl⟩ := hr
    have h0 : (s.heap.push (new0 w)).get? s.heap.objs.size = some (new0 w) := Heap.get?_push_size _ rfl
    have ty : Shared.TypeIs { s with heap := s.heap.push (new0 w) } (.ref s.heap.objs.size) "set" := ⟨_, h0, rfl⟩
    have il := PySem.F.called_set.init.lookup
    have ib := PySem.F.called_set.init.bind (.ref s.heap.objs.size)
    repeat (any_goals (first | assumption | wp_step))
    refine codeAny_mono (codeAny_call_builtin (R := wants (fun r t => r = .none ∧ ∃ h' tk ys, t = { s with heap := h', toks := tk } ∧ (∀ b o, b < s.heap.objs.size → s.heap.get? b = some o → h'.get? b = some o) ∧ Holds P w h' s.heap.objs.size ys ∧ (∀ x, x ∈ ys ↔ x ∈ xs) ∧ ys.length ≤ xs.length) E)
      PySem.F.called_set.init.plain PySem.F.entry_set_init (check_set_init_1 ty ?_)) fun r2 t2 hr2 => ?_
    · obtain ⟨⟨oc, od, odt, osl⟩, hol, hcl, nl, hdl⟩ := hl
      simp only at hcl hdl
      subst hcl hdl
      have hlt : l < s.heap.objs.size := Heap.lt_size hol
      have il1 : (s.heap.push (new0 w)).IsTuple l us := ⟨_, Heap.get?_push_of_some _ hol, rfl, nl, rfl⟩
      have ol := Heap.get?_push_of_some (new0 w) hol
      have sb1 := PySem.F.sub_tuple_set
      have sb2 := PySem.F.sub_tuple_frozenset
      have nd : (Value.type "tuple" == Value.type "dict") = false := by decide
      unfold Builtin.«set.__init__» noKeywords Builtin.Frozenset.updateFrom
      generalize hPI : pyIter = PI
      wp_walk
      subst hPI
      refine wpAny_pyIter_tuple il1 (wpAny_bind (wpAny_runValue ?_))
      have hh3 : A.in1.in1.in1.handled = none := by simp [hh]
      have z1 : (s.heap.push (new0 w)).objs.size = s.heap.objs.size + 1 := Heap.size_push ..
      have ne1 : l ≠ (s.heap.push (new0 w)).objs.size := by rw [z1]; exact Nat.ne_of_lt (Nat.lt_succ_of_lt hlt)
      have out : s.heap.objs.size ∉ [(s.heap.push (new0 w)).objs.size, l] := by
        rw [z1]
        intro h
        rcases List.mem_cons.mp h with h | h
        · exact Nat.ne_of_lt (Nat.lt_succ_self _) h
        · exact Nat.ne_of_gt hlt (List.mem_singleton.mp h)
      refine update_loop ((Walks.tuple hh3 _ l ne1 us).toS) s.heap.objs.size out xs hsz hb (fun i v hv => strs_get hx i v (by rw [Array.getElem?_toList]; exact hv)) (us.size - 0) 0 _ (by omega) (Nat.zero_le _)
        ⟨⟨_, Heap.get?_push_size _ rfl, rfl, rfl⟩, il1.push _⟩ ⟨[], holds_new (Heap.get?_push_of_some _ h0), Nat.le_refl _, fun x => by simp⟩ fun t ys mv Hy U => ?_
      obtain ⟨h', g', d', tk', os'⟩ := t
      obtain rfl : g' = s.gens := mv.gens
      obtain rfl : d' = s.drawn := mv.drawn
      obtain rfl : os' = s.os := mv.os
      have fin : ∀ b o, b < s.heap.objs.size → s.heap.get? b = some o → h'.get? b = some o := fun b o hb e => ?fin
      case fin =>
        refine mv.heap b o (fun z => ?_) (Heap.get?_push_of_some _ (Heap.get?_push_of_some _ e))
        rcases List.mem_cons.mp z with z | z
        · exact Nat.ne_of_lt hb z
        · have z := List.mem_singleton.mp z
          rw [z1] at z
          exact Nat.ne_of_lt (Nat.lt_succ_of_lt hb) z
      show wpAny _ _ _ _ _ _
      refine wpAny_pure ?_
      show wpAny _ _ (ret Value.none) _ _ _
      exact wpAny_pure ⟨rfl, h', tk', ys, rfl, fin, Hy, fun x => by rw [U.2, ← hsz, List.take_length], by rw [hsz]; exact U.1⟩
    · match r2, hr2 with
      | .error e, hr2 => exact hr2
      | .ok (.ret v2), hr2 =>
        obtain ⟨rfl, h', tk, ys, rfl, k1, k2, k3, k4⟩ := hr2
        repeat (any_goals (first | assumption | wp_step))
        exact q _ _ _ k1 k2 k3 k4
end
end GS
set_option Elab.async false
set_option linter.all false
set_option maxRecDepth 100000
set_option maxHeartbeats 4000000
/-! lots of texts: in order, each once -/
namespace GS
open PySem PySem.Spec PyProof.Rows
theorem ltc_irr : ∀ a : List Nat, ltCps a a = false
  | [] => rfl
  | x :: a => by simp [ltCps, ltc_irr a]
theorem ltc_tr : ∀ {a b c : List Nat}, ltCps a b = true → ltCps b c = true → ltCps a c = true
  | [], _ :: _, [], _, h => by simp [ltCps] at h
  | [], _, _ :: _, _, _ => rfl
  | [], [], [], h, _ => by simp [ltCps] at h
  | _ :: _, [], _, h, _ => by simp [ltCps] at h
  | _ :: _, _ :: _, [], _, h => by simp [ltCps] at h
  | x :: a, y :: b, z :: c, h1, h2 => by
    simp only [ltCps, Bool.or_eq_true, decide_eq_true_eq, Bool.and_eq_true, beq_iff_eq] at h1 h2 ⊢
    rcases h1 with h1 | ⟨rfl, h1⟩
    · rcases h2 with h2 | ⟨rfl, _⟩
      · exact .inl (Nat.lt_trans h1 h2)
      · exact .inl h1
    · rcases h2 with h2 | ⟨rfl, h2⟩
      · exact .inl h2
      · exact .inr ⟨rfl, ltc_tr h1 h2⟩
theorem ltc_tri : ∀ {a b : List Nat}, ltCps a b = false → ltCps b a = false → a = b
  | [], [], _, _ => rfl
  | [], _ :: _, h, _ => by simp [ltCps] at h
  | _ :: _, [], _, h => by simp [ltCps] at h
  | x :: a, y :: b, h1, h2 => by
    simp only [ltCps, Bool.or_eq_false_iff, decide_eq_false_iff_not, Bool.and_eq_false_iff, beq_eq_false_iff_ne] at h1 h2
    obtain ⟨p1, p2⟩ := h1
    obtain ⟨q1, q2⟩ := h2
    obtain rfl : x = y := by omega
    rcases p2 with p2 | p2
    · exact absurd rfl p2
    · rcases q2 with q2 | q2
      · exact absurd rfl q2
      · rw [ltc_tri p2 q2]
theorem str_ext {x y : Str} (h : x.cps.toList = y.cps.toList) : x = y := by
  cases x; cases y
  simp only [Str.mk.injEq]
  exact Array.ext' h
/-- x stands ahead of y -/
def Lt (x y : Str) : Prop := ltCps x.cps.toList y.cps.toList = true
theorem Lt.irr {x : Str} (h : Lt x x) : False := by unfold Lt at h; rw [ltc_irr] at h; cases h
theorem Lt.tr {x y z : Str} (a : Lt x y) (b : Lt y z) : Lt x z := ltc_tr a b
theorem Lt.tri {x y : Str} (a : ¬ Lt x y) (b : ¬ Lt y x) : x = y := str_ext (ltc_tri (Bool.eq_false_iff.mpr a) (Bool.eq_false_iff.mpr b))
abbrev Asc (xs : List Str) : Prop := xs.Pairwise Lt
theorem Asc.uniq : ∀ {xs ys : List Str}, Asc xs → Asc ys → (∀ z, z ∈ xs ↔ z ∈ ys) → xs = ys
  | [], [], _, _, _ => rfl
  | [], y :: ys, _, _, h => by have := (h y).mpr List.mem_cons_self; simp at this
  | x :: xs, [], _, _, h => by have := (h x).mp List.mem_cons_self; simp at this
  | x :: xs, y :: ys, hx, hy, h => by
    obtain ⟨x1, x2⟩ := List.pairwise_cons.mp hx
    obtain ⟨y1, y2⟩ := List.pairwise_cons.mp hy
    have e : x = y := by
      have a := (h x).mp List.mem_cons_self
      have b := (h y).mpr List.mem_cons_self
      rcases List.mem_cons.mp a with a | a
      · exact a
      · rcases List.mem_cons.mp b with b | b
        · exact b.symm
        · exact ((x1 y b).tr (y1 x a)).irr.elim
    subst e
    rw [Asc.uniq x2 y2 fun z => ?_]
    have hz := h z
    rw [List.mem_cons, List.mem_cons] at hz
    constructor
    · intro m
      rcases hz.mp (.inr m) with q | q
      · subst q; exact (x1 z m).irr.elim
      · exact q
    · intro m
      rcases hz.mpr (.inr m) with q | q
      · subst q; exact (y1 z m).irr.elim
      · exact q
/-- ys is the lot of xs -/
structure IsLot (ys xs : List Str) : Prop where
  asc : Asc ys
  mem : ∀ z, z ∈ ys ↔ z ∈ xs
theorem Asc.nodup {xs : List Str} (h : Asc xs) : xs.Nodup := h.imp fun a e => (e ▸ a).irr
/-- sorted, equal ones may stand side by side -/
theorem pw_of_sorted : ∀ {xs : List Str}, sortedS xs = true → xs.Pairwise fun a b => ¬ Lt b a
  | [], _ => .nil
  | x :: xs, h => go x xs h
where go (x : Str) : ∀ (xs : List Str), risingS x xs = true → (x :: xs).Pairwise fun a b => ¬ Lt b a
  | [], _ => List.pairwise_singleton _ _
  | y :: xs, h => by
    have h' : (!ltCps y.cps.toList x.cps.toList && risingS y xs) = true := h
    rw [Bool.and_eq_true, Bool.not_eq_true'] at h'
    have r := go y xs h'.2
    refine List.pairwise_cons.mpr ⟨fun z hz => ?_, r⟩
    have hyx : ¬ Lt y x := by unfold Lt; rw [h'.1]; exact Bool.false_ne_true
    rcases List.mem_cons.mp hz with rfl | hz
    · exact hyx
    · intro c
      have hzy := (List.pairwise_cons.mp r).1 z hz
      by_cases e : Lt x y
      · exact hzy (Lt.tr c e)
      · rw [Lt.tri e hyx] at c; exact hzy c
theorem asc_of : ∀ {xs : List Str}, xs.Pairwise (fun a b => ¬ Lt b a) → xs.Nodup → Asc xs
  | [], _, _ => .nil
  | x :: xs, h, n => by
    obtain ⟨h1, h2⟩ := List.pairwise_cons.mp h
    obtain ⟨n1, n2⟩ := List.nodup_cons.mp n
    refine List.pairwise_cons.mpr ⟨fun y hy => ?_, asc_of h2 n2⟩
    by_cases c : Lt x y
    · exact c
    · exact absurd (Lt.tri c (h1 y hy) ▸ hy) n1
end GS
set_option Elab.async false
set_option linter.all false
set_option maxRecDepth 100000
set_option maxHeartbeats 8000000
namespace GS
open PySem PySem.Spec PyProof.Rows L2
open PySem.Froz (SD sObj tailTx addTx TxOk)
section
variable {P : Program} {w : World} {A : Around} {E : Value → Shared → Prop} {s : Shared}
theorem strs_of : ∀ (us : List Value), (∀ v ∈ us, ∃ k t, v = Value.str k t) → ∃ xs, StrsAre us xs
  | [], _ => ⟨[], .nil⟩
  | v :: us, h => by
    obtain ⟨k, t, rfl⟩ := h v List.mem_cons_self
    obtain ⟨xs, q⟩ := strs_of us fun u hu => h u (List.mem_cons_of_mem _ hu)
    exact ⟨_, .cons k t q⟩
theorem strs_mem : ∀ {us : List Value} {xs : List Str}, StrsAre us xs → ∀ x, x ∈ xs ↔ ∃ t, Value.str x t ∈ us
  | _, _, .nil, x => by simp
  | _, _, .cons n t r, x => by
    rw [List.mem_cons, strs_mem r x]
    constructor
    · rintro (rfl | ⟨t', h⟩)
      · exact ⟨t, List.mem_cons_self⟩
      · exact ⟨t', List.mem_cons_of_mem _ h⟩
    · rintro ⟨t', h⟩
      rcases List.mem_cons.mp h with h | h
      · cases h; exact .inl rfl
      · exact .inr ⟨t', h⟩
theorem strs_len : ∀ {us : List Value} {xs : List Str}, StrsAre us xs → us.length = xs.length
  | _, _, .nil => rfl
  | _, _, .cons n t r => by simp [strs_len r]
theorem perm_of_sub : ∀ {l ss : List Str}, l.Nodup → (∀ x, x ∈ l → x ∈ ss) → ss.length = l.length → ss.Perm l
  | [], ss, _, _, e => by
    have : ss = [] := List.eq_nil_of_length_eq_zero e
    rw [this]
  | x :: l, ss, n, h, e => by
    obtain ⟨n1, n2⟩ := List.nodup_cons.mp n
    have hx := h x List.mem_cons_self
    have p := List.perm_cons_erase hx
    have r := perm_of_sub (ss := ss.erase x) n2 (fun y hy => (List.mem_erase_of_ne (fun z : y = x => n1 (z ▸ hy))).mpr (h y (List.mem_cons_of_mem _ hy))) (by
      have := p.length_eq
      simp only [List.length_cons] at this e
      omega)
    exact p.trans (r.cons x)
/-- sorted(set) -/
theorem sort_set {a : Addr} {l : List Str} {Q : Value → Shared → Prop} (H : Holds P w s.heap a l) (hh : A.handled = none) (hb : l.length < scanBound)
    (q : ∀ s' p (out : Array Value) (c : Nat) ys, (∀ b o, s.heap.get? b = some o → s'.heap.get? b = some o) → s'.gens = s.gens → s'.os = s.os → s.heap.objs.size ≤ p → s'.heap.get? p = some (seqObj "list" out c) → StrsAre out.toList ys → IsLot ys l → ys.length = l.length → Q (.ref p) s') :
    wpAny (model P w) A (call (.builtin "sorted") [.ref a]) Q E s := by
  obtain ⟨⟨xs, n, tb⟩, ho, F, L, nd⟩ := H
  have hsz : xs.size = l.length := F.sz
  refine Calls.call_function_entry kind_sorted plain_sorted entry_sorted (args_sorted1 _) ?_
  unfold Builtin.«sorted»
  refine wpAny_bind (m := checkCount "sorted" 1 1 _) (wpAny_pure (wpAny_bind (collect_set (A := A.in1) hh ⟨_, ho, rfl, rfl⟩ F.fit (by rw [hsz]; exact hb) L.1 L.2 fun s1 vs k1 z1 g1 o1 pm => ?_)))
  have all : ∀ v ∈ vs, ∃ k t, v = Value.str k t := fun v hv => by
    obtain ⟨e, he, rfl⟩ := List.mem_map.mp (pm.mem_iff.mp hv)
    obtain ⟨⟨k, hk, _⟩, _⟩ := F.el e he
    obtain ⟨t, ht⟩ := Value.isStrOf_shape hk
    exact ⟨k, t, ht⟩
  obtain ⟨ss, hss⟩ := strs_of vs all
  have hlen : vs.length = l.length := by rw [pm.length_eq, List.length_map, Array.length_toList, hsz]
  have hmem : ∀ x, x ∈ ss ↔ x ∈ l := fun x => by
    rw [strs_mem hss, F.mem]
    constructor
    · rintro ⟨t, ht⟩
      obtain ⟨e, he, hz⟩ := List.mem_map.mp (pm.mem_iff.mp ht)
      exact ⟨e, he, by rw [hz]; exact Froz.is_str x t⟩
    · rintro ⟨e, he, hz⟩
      obtain ⟨t, ht⟩ := Value.isStrOf_shape (x := x) hz
      exact ⟨t, ht ▸ pm.mem_iff.mpr (List.mem_map_of_mem he)⟩
  have hle : ss.length = l.length := (strs_len hss).symm.trans hlen
  have snd : ss.Nodup := (perm_of_sub nd (fun x hx => (hmem x).mpr hx) hle).nodup_iff.mpr nd
  have fits : vs.length ≤ sizeLine := by rw [hlen]; exact fits_of_scanBound hb
  refine wpAny_bind (wpAny_newList ?_ fits)
  have hoL : (s1.heap.push (seqObj "list" vs.toArray 0)).get? s1.heap.objs.size = some (seqObj "list" vs.toArray 0) := Heap.get?_push_size _ rfl
  refine wpAny_bind (wpAny_holding (wpAny_call_entry slot_list_sort ⟨_, hoL, rfl⟩ entry_list_sort (list_sort_treeKAny strKind_oneLt hoL hss.keysOf (fun v₁ v₂ rest e => keyKind_strs (by rw [← e]; exact hss)) fits fun st' b1 b2 => ⟨_, rfl, ?_⟩) (args_list_sort _)))
  obtain ⟨ys, y1, y2, y3⟩ := sorted_out_str hss b1 b2
  obtain ⟨c, hc⟩ := sortedHeap_at (vs := vs) (out := (arrOf st').map (·.2)) hoL
  refine wpAny_pure ⟨_, rfl, q _ s1.heap.objs.size _ c ys (fun b u e => ?_) g1 o1 z1 hc y1 ⟨asc_of (pw_of_sorted y3) (y2.nodup_iff.mpr snd), fun x => (y2.mem_iff).trans (hmem x)⟩ (y2.length_eq.trans hle)⟩
  have e1 := k1 b u e
  have lt := Heap.lt_size e1
  show (sortedHeap (s1.heap.push (seqObj "list" vs.toArray 0)) s1.heap.objs.size vs ((arrOf st').map (·.2))).get? b = some u
  rw [sortedHeap_old (Nat.ne_of_lt lt) (by rw [size_push']; exact Nat.lt_succ_of_lt lt)]
  exact Heap.get?_push_of_some _ e1
end
section
variable {X : Cx}
def SetHO (P : Program) (w : World) (a : Addr) (l : List Str) : HO := .ext fun h => Holds P w h a l
/-- set(xs) -/
def rSet (X : Cx) : List V → Hp → VK → Prop := fun vs H Q => ∃ (p : Addr) (xs : List Str), vs = [.ref p] ∧ (SqL X.K H p (xs.map V.str) ∨ SqT X.K H p (xs.map V.str)) ∧ xs.length + 1 < scanBound ∧
  ∀ a l, H a = none → (∀ x, x ∈ l ↔ x ∈ xs) → l.length ≤ xs.length → l.Nodup → Q (.ref a) (upd H a (SetHO X.prog X.w a l))
theorem cr_set (hc : X.calm = true) : CallR X (.type "set") (rSet X) := by
  intro pins s σ H vs us Q I r h
  obtain ⟨p, xs, rfl, hs, hb, q⟩ := h
  have fin : ∀ h' tk ys, (∀ b o, b < s.heap.objs.size → s.heap.get? b = some o → h'.get? b = some o) → Holds X.prog X.w h' s.heap.objs.size ys → (∀ x, x ∈ ys ↔ x ∈ xs) → ys.length ≤ xs.length → EP X pins σ Q (.ref s.heap.objs.size) { s with heap := h', toks := tk } := fun h' tk ys k Hy m1 m2 => by
    have new : ObjOk X.prog X.w (upd H s.heap.objs.size (SetHO X.prog X.w s.heap.objs.size ys)) h' s.heap.objs.size (SetHO X.prog X.w s.heap.objs.size ys) := by
      obtain ⟨D, e, r⟩ := Hy
      exact ⟨⟨D, e, r⟩, ⟨_, e⟩, fun h1 h2 a b => Holds.stay a b⟩
    exact ⟨.ref _, _, I.laid (t' := tk) (fun b u e => k b u (Heap.lt_size e) e) (Nat.le_refl _) new, rfl, q _ _ (I.hok.fresh (Nat.le_refl _)) m1 m2 (by obtain ⟨D, _, _, _, nd⟩ := Hy; exact nd)⟩
  rw [Vals.ref1 r]
  rcases hs with hs | hs
  · obtain ⟨its, rv, hl, _⟩ := I.list hs
    have hlen := rv.length
    rw [List.length_map] at hlen
    exact call_set (I.ok.hd hc) hl.isList (by simpa using rv.strs) (by rw [List.size_toArray, ← hlen]; exact hb) fin
  · obtain ⟨its, rv, hl, _⟩ := I.tuple hs
    have hlen := rv.length
    rw [List.length_map] at hlen
    exact call_setT (I.ok.hd hc) hl (by simpa using rv.strs) (by rw [List.size_toArray, ← hlen]; exact hb) fin
/-- sorted(set) -/
def rSortSet (X : Cx) : List V → Hp → VK → Prop := fun vs H Q => ∃ (a : Addr) (l : List Str), vs = [V.ref a] ∧ H a = some (SetHO X.prog X.w a l) ∧ l.length < scanBound ∧
  ∀ ys p, IsLot ys l → ys.length = l.length → H p = none → Q (.ref p) (upd H p (.lst (ys.map V.str)))
theorem cr_sortSet (hc : X.calm = true) : CallR X (.builtin "sorted") (rSortSet X) := by
  intro pins s σ H vs us Q I r h
  obtain ⟨a, l, rfl, ha, hb, q⟩ := h
  have Hl : Holds X.prog X.w s.heap a l := (I.hok a _ ha).1
  rw [Vals.ref1 r]
  refine sort_set Hl (I.ok.hd hc) hb fun s' p out c ys k g o hp hg hi hs hl => ?_
  have hlen : (ys.map V.str).length ≤ sizeLine := by rw [List.length_map, hl]; exact fits_of_scanBound hb
  have hn : H p = none := I.hok.fresh hp
  have J : Inv X pins σ (upd H p (.lst (ys.map V.str))) { s with heap := s'.heap, gens := s'.gens, drawn := s'.drawn, toks := s'.toks } :=
    I.call (ch := []) (Un.laid k hp hn) (I.hok.laid k hp ⟨hlen, out.toList, c, vals_of_strs hi, hg⟩) (by rw [g]; exact I.bare) (fun _ z => nomatch z)
  have e : s' = { s with heap := s'.heap, gens := s'.gens, drawn := s'.drawn, toks := s'.toks } := by
    cases s'; cases s; cases o; rfl
  rw [e]
  exact ⟨.ref p, _, J, rfl, q ys p hs hl hn⟩
/-- sorted(xs), texts, any number of them -/
def rSortS (K : PySem.W.Frag) : List V → Hp → VK → Prop := fun vs H Q => ∃ (a : Addr) (xs : List Str), vs = [V.ref a] ∧ SqL K H a (xs.map V.str) ∧
  ∀ (ys : List Str) (p : Addr), ys.Perm xs → ys.Pairwise (fun x y => ¬ Lt y x) → H p = none → Q (.ref p) (upd H p (.lst (ys.map V.str)))
theorem cr_sortS : CallR X (.builtin "sorted") (rSortS X.K) := by
  intro pins s σ H vs us Q I r h
  obtain ⟨a, xs, rfl, hs, q⟩ := h
  obtain ⟨its, rv, hl, hz⟩ := I.list hs
  rw [Vals.ref1 r]
  have hlen0 := rv.length
  refine sorted_strsAny hl.isList rv.strs (by rw [← hlen0]; exact hz) fun out ys h1 h2 h3 => ?_
  obtain ⟨ep, he⟩ := sortedAll_at s.heap its out
  have hlen : (ys.map V.str).length ≤ sizeLine := by rw [List.length_map, h2.length_eq, ← List.length_map (f := V.str)]; exact hz
  exact ⟨.ref _, upd H (s.heap.objs.size + 1) (.lst (ys.map V.str)), I.laid (t' := s.toks) (fun _ _ => sortedAll_old) (Nat.le_succ _) ⟨hlen, out.toList, ep, vals_of_strs h1, he⟩, rfl, q ys _ h2 (pw_of_sorted h3) (I.hok.fresh (Nat.le_succ _))⟩
end
end GS
namespace G
open PySem L2
section
variable {Z : Wd} {δ : List S} {te : TE} {Ω : OD → List S → Prop} {X : Cx}
/-- sorted(set(xs)) -/
theorem xo_lot (hK : X.K = Z.K) (h : XE Z te δ fun d δ1 => ∃ xs : List Str, (d = .lst (xs.map .str) ∨ d = .tup (xs.map .str)) ∧ xs.length < 4000 ∧ ∀ ys, GS.IsLot ys xs → ys.length ≤ xs.length → Ω (.lst (ys.map .str)) δ1) :
    XO Z (tCB (GS.rSortSet X) (tCons (tCB (GS.rSet X) (tCons te tNil)) tNil)) δ Ω := XO.mk fun B W M H σ Q I q =>
  h.run I fun M1 H1 δ1 x a h1 e1 I1 at1 => by
    obtain ⟨xs, hd, hx, f⟩ := h1
    have sq : ∃ p, x = .ref p ∧ (SqL X.K H1 p (xs.map V.str) ∨ SqT X.K H1 p (xs.map V.str)) := by
      rcases hd with rfl | rfl
      · cases at1 with
        | lst k l c =>
          have := AtL.strs (Z := Z) (M := M1) ⟨l, c⟩
          subst this
          exact ⟨_, rfl, .inl (SqL.of (I1.ex _ _ k))⟩
      · cases at1 with
        | tup k l c =>
          have := AtL.strs (Z := Z) (M := M1) ⟨l, c⟩
          subst this
          exact ⟨_, rfl, .inr (hK ▸ sqT_mono I1.ex k)⟩
    obtain ⟨p, rfl, sq⟩ := sq
    refine ⟨p, xs, rfl, sq, Nat.lt_of_le_of_lt (Nat.succ_le_of_lt hx) (by decide), fun a l1 ha m1 m2 _ => ?_⟩
    have hm := I1.ex.free ha
    have I2 : I3 Z B W M1 (upd H1 a (GS.SetHO X.prog X.w a l1)) σ δ1 := I1.other (I1.fresh ha) hm (I1.newOwn ha)
    refine ⟨a, l1, rfl, upd_same, Nat.lt_of_le_of_lt (Nat.le_trans m2 (Nat.le_of_lt hx)) (by decide), fun ys p hy hl hp => ?_⟩
    exact newO (o := .lst _) (y := .lst _) I2 hp (AtL.ofStrs ys) (f ys ⟨hy.asc, fun z => (hy.mem z).trans (m1 z)⟩ (by omega)) e1 q
theorem xo_sort (h : XE Z te δ fun d δ1 => ∃ xs : List Str, d = .lst (xs.map .str) ∧ ∀ ys : List Str, ys.Perm xs → ys.Pairwise (fun x y => ¬ GS.Lt y x) → Ω (.lst (ys.map .str)) δ1) :
    XO Z (tCB (GS.rSortS Z.K) (tCons te tNil)) δ Ω := XO.mk fun B W M H σ Q I q =>
  h.run I fun M1 H1 δ1 x a h1 e1 I1 at1 => by
    obtain ⟨xs, rfl, f⟩ := h1
    cases at1 with
    | lst k l c =>
      rename_i p vs
      have := AtL.strs (Z := Z) (M := M1) ⟨l, c⟩
      subst this
      exact ⟨p, xs, rfl, SqL.of (I1.ex _ _ k), fun ys p h1 h2 hp => newO (o := .lst _) (y := .lst _) I1 hp (AtL.ofStrs ys) (f ys h1 h2) e1 q⟩
end
end G
set_option Elab.async false
set_option linter.all false
set_option maxRecDepth 100000
set_option maxHeartbeats 4000000
/-! enumerate of a tuple -/
namespace GE
open PySem PySem.Spec PyProof.Rows L2
theorem new_enum {v : Value} {o : Obj} {C : Heap → Prop} (B : Begins v o C) : Meets (Builtin.«enumerate.__new__» ⟨[.type "enumerate", v], []⟩) (fun _ R s => C s.heap ∧
    R (.ok (.ret (.ref (s.heap.push o).objs.size))) { s with heap := (s.heap.push o).push { cls := .type "enumerate", data := .fields #[.none, .bool false, .ref s.heap.objs.size, rawInt 0, .none, .none] } }) :=
  .of_wp fun prog w A R s h => by
    obtain ⟨hp, g, d, tk, os⟩ := s
    obtain ⟨c0, fin⟩ := h
    have sube := sub_enumerate
    have start : ∀ {A' : Around} {E Q : Value → Shared → Prop}, Q (.ref hp.objs.size) ⟨hp.push o, g, d, tk, os⟩ → wpAny (model prog w) A' (pyIter v) Q E ⟨hp, g, d, tk, os⟩ := fun q => B.iter prog w _ _ ⟨hp, g, d, tk, os⟩ _ c0 q
    wp_walk using start
    refine wpAny_stack_any fun st => wpAny_pure ?_
    split
    · rename_i c _ _ _ _ _
      cases (c == Value.type "enumerate") <;> (wp_walk using start; exact ⟨_, rfl, fin⟩)
    · wp_walk using start
      exact ⟨_, rfl, fin⟩
section
variable {prog : Program} {w : World} {A : Around} {E : Value → Shared → Prop} {s : Shared}
theorem call_enum {v : Value} {o : Obj} {C : Heap → Prop} {Q : Value → Shared → Prop} (B : Begins v o C) (c0 : C s.heap)
    (h : ∀ h', IsEnum h' (s.heap.objs.size + 1) s.heap.objs.size 0 .none → h'.get? s.heap.objs.size = some o → (∀ b u, s.heap.get? b = some u → h'.get? b = some u) → Q (.ref (s.heap.objs.size + 1)) { s with heap := h' }) :
    wpAny (model prog w) A (call (.type "enumerate") [v]) Q E s := by
  refine callType_new F.called_enumerate (by decide) (F.typeCall_enumerate_1 v) (F.newCall_enumerate_1 v) (fun x => F.args_object_init_2 x v) F.entry_enumerate_new (new_enum B) ⟨c0, ?_⟩
  have z : (s.heap.push o).objs.size = s.heap.objs.size + 1 := Heap.size_push ..
  have e : IsEnum ((s.heap.push o).push { cls := .type "enumerate", data := .fields #[.none, .bool false, .ref s.heap.objs.size, rawInt 0, .none, .none] }) (s.heap.objs.size + 1) s.heap.objs.size 0 .none := by
    have q := Heap.get?_push_size (s.heap.push o) (o := { cls := .type "enumerate", data := .fields #[.none, .bool false, .ref s.heap.objs.size, rawInt 0, .none, .none] }) rfl
    rwa [z] at q
  show _ ∧ _
  rw [z]
  exact ⟨⟨_, e, rfl⟩, h _ e (Heap.get?_push_of_some _ (Heap.get?_push_size _ B.free)) fun b u x => Heap.get?_push_of_some _ (Heap.get?_push_of_some _ x)⟩
end
/-- the tuple at a, each item in a new pair -/
def ItE (K : PySem.W.Frag) (a : Addr) : It :=
  ⟨fun i H => ∃ (xs : List V) (x : V), SqT K H a xs ∧ xs[i]? = some x, fun i H v H' => ∃ T x, v = .ref T ∧ H T = none ∧ H' = upd H T (.tup [.int (i : Nat), x]) ∧ ∀ xs, SqT K H a xs → xs[i]? = some x, fun i H => ∃ xs : List V, SqT K H a xs ∧ xs.length ≤ i⟩
theorem turnE {P : Program} {w : World} {K : PySem.W.Frag} {elts : List Expr} {kk : Nat} {tpos : Pos} (a e it : Addr) (hai : a ≠ it) (hea : e ≠ a) :
    Turn P w K (.Tuple elts kk tpos) (ItE K a) [e, it] e (fun i h => (∃ old, IsEnum h e it ((i : Nat) : Int) old) ∧ h.IsTupleIter it a i ∧ e ≠ it) where
  mem := by simp
  obj := fun i h st b hb => by
    obtain ⟨⟨old, he⟩, ⟨o, ho, hc, hd⟩, _⟩ := st
    have hb : b = e ∨ b = it := by simpa using hb
    rcases hb with rfl | rfl
    · exact ⟨_, he, fun v q => nomatch q⟩
    · exact ⟨o, ho, fun v q => by rw [hd] at q; cases q⟩
  keep := fun i h h' st k => let ⟨⟨old, he⟩, hi, hne⟩ := st; ⟨⟨old, k e (by simp) _ he⟩, hi.at fun o q => k it (by simp) o q, hne⟩
  item := by
    intro X hP hw hK hc i pins s σ H E I hf st hg
    subst hP hw hK
    obtain ⟨⟨old, he⟩, hit, hne⟩ := st
    obtain ⟨xs, x, hq, hx⟩ := hg
    obtain ⟨its, rv, p, hz⟩ := I.tuple hq
    obtain ⟨u, hu, ru⟩ := rv.get hx
    have elt : e < s.heap.objs.size := Heap.lt_size he
    have ilt : it < s.heap.objs.size := let ⟨_, q, _⟩ := hit; Heap.lt_size q
    have hlt : i < its.toArray.size := by simpa using (List.getElem?_eq_some_iff.mp hu).1
    refine wpAny_pyNext_enum_itemD (Draws.tuple (by simp [I.ok.hd hc]) it a hai its.toArray) he ⟨hit, p⟩ hlt hne (by simp [hne, hea]) fun y h' tk hy ho st' hT hsz hk => ?_
    obtain rfl : y = u := by
      have : its[i]? = some y := by simpa using hy
      rw [hu] at this; exact (Option.some.inj this).symm
    refine ⟨_, rfl, wpAny_letOwnedTupleGo_enum (s := { s with heap := h', toks := tk + 1 }) ho fun h'' he' sb => ?_⟩
    have hT2 : h''.get? s.heap.objs.size = some { cls := .type "tuple", data := .seq #[.int i tk, y] } := (sb.2 _ (Nat.ne_of_gt elt)).trans hT
    have new : ObjOk X.prog X.w (upd H s.heap.objs.size (.tup [.int (i : Nat), x])) h'' s.heap.objs.size (.tup [.int (i : Nat), x]) :=
      ⟨by show 2 ≤ sizeLine; decide, [.int i tk, y], .cons ⟨_, rfl⟩ (.cons ru .nil), ⟨_, hT2, rfl, _, rfl⟩⟩
    have J : Inv X pins σ (upd H s.heap.objs.size (.tup [.int (i : Nat), x])) { s with heap := h'', toks := tk + 1 } :=
      I.turnedNew (ch := [e, it]) (fun b ob hb q => (sb.2 b (fun z => hb (by simp [z]))).trans (hk b ob (fun z => hb (by simp [z])) (fun z => hb (by simp [z])) q)) hf (Nat.le_refl _) new
    refine ⟨.ref s.heap.objs.size, _, J, rfl, ⟨_, x, rfl, I.hok.fresh (Nat.le_refl _), rfl, fun ys hy => by rw [I.tuple_inj hy hq]; exact hx⟩, ⟨⟨y, ?_⟩, st'.1.at fun o q => (sb.2 it (Ne.symm hne)).trans q, hne⟩, fun b hb => ?_⟩
    · rw [show ((i + 1 : Nat) : Int) = (i : Int) + 1 by omega]; exact he'
    · have blt : b < s.heap.objs.size := by
        have hb : b = e ∨ b = it := by simpa using hb
        rcases hb with z | z
        · rw [z]; exact elt
        · rw [z]; exact ilt
      rw [upd_ne (Nat.ne_of_lt blt)]
      exact (hf b hb).1
  done := by
    intro X hP hw hK hc i pins s σ H E I hf st hg
    subst hP hw hK
    obtain ⟨⟨old, he⟩, hit, hne⟩ := st
    obtain ⟨xs, hq, hx⟩ := hg
    obtain ⟨its, rv, p, hz⟩ := I.tuple hq
    obtain ⟨f0, f1, f2, f3, f4, f5⟩ := hf it (by simp)
    have len := rv.length
    have gone : its.toArray[i]? = none := by simp; omega
    have hh : X.A.in1.handled = none := by simp [I.ok.hd hc]
    have D : Draws X.prog X.w X.A.in1 it [it, a] 0 (fun _ _ => True) (fun _ h => h.IsTupleIter it a i ∧ h.IsTuple a its.toArray) := {
      live := fun _ _ st => let ⟨o, ho, _⟩ := st.1; ⟨o, ho⟩
      frame := fun _ _ _ st k => ⟨st.1.at fun o q => k it (by simp) o q, st.2.at fun o q => k a (by simp) o q⟩
      item := fun j s Q E hj => absurd hj (Nat.not_lt_zero j)
      done := fun s Q E st q => wpAny_nextOf_tuple_end hh st.1 st.2 gone q }
    exact wpAny_pyNext_enum_endD D he ⟨hit, p⟩ fun h' eb => ⟨rfl, I.turned (t' := s.toks) (fun b o hb q => eb b o hb q) f0 f1 f3 f4 f5⟩
  self := fun A i s Q E st h => let ⟨⟨_, he⟩, _⟩ := st; wpAny_pyIter_enum he h
def iEnumT (K : PySem.W.Frag) (ta : TA) : TI := fun σ H R => ta σ H fun vs H1 => ∃ a xs, vs = [.ref a] ∧ SqT K H1 a xs ∧ R (ItE K a) H1
theorem pi_enumT {X : Cx} {e : Expr} {ta : TA} {p pos tpos : Pos} {elts : List Expr} {kk : Nat} (hg : Gl X "enumerate") (hm : X.mg "enumerate" = none) (ha : PA X [e] ta) (hs : starEach [e] X.env = [(false, eval e X.env)] := by rfl) :
    PI X (.Tuple elts kk tpos) (.Call (.Name "enumerate" p) [e] [] pos) (iEnumT X.K ta) := by
  refine ⟨fun pins s σ H R I h => Call_ (ld_blt I hg hm boot_enumerate (PyProof.Rows.callWith_type1 (thn (ha.run pos pins s σ H _ I h) fun us s1 ⟨vs, H1, I1, r1, q1⟩ => ?_) hs rfl))⟩
  obtain ⟨a, xs, rfl, hq, q⟩ := q1
  obtain ⟨u, rfl, r⟩ := vals1 r1
  cases r
  obtain ⟨its, rv, p', hz⟩ := I1.tuple hq
  have alt : a < s1.heap.objs.size := let ⟨_, q, _⟩ := p'; Heap.lt_size q
  refine call_enum (begins_tuple a its.toArray) p' fun h' he hit hk => wpAny_pyIter_enum he ?_
  have I2 : Inv X pins σ H1 { s1 with heap := h' } := I1.kept (t' := s1.toks) hk
  refine ⟨s1.heap.objs.size + 1, [s1.heap.objs.size + 1, s1.heap.objs.size], _, _, H1, rfl, I2, turnE a (s1.heap.objs.size + 1) s1.heap.objs.size (Nat.ne_of_lt alt) (Nat.ne_of_gt (Nat.lt_succ_of_lt alt)), ⟨⟨.none, he⟩, ⟨_, hit, rfl, rfl⟩, Nat.succ_ne_self _⟩, fun b hb => ?_, q⟩
  have hle : s1.heap.objs.size ≤ b := by
    have hb : b = s1.heap.objs.size + 1 ∨ b = s1.heap.objs.size := by simpa using hb
    rcases hb with z | z
    · rw [z]; exact Nat.le_succ _
    · rw [z]; exact Nat.le_refl _
  exact I1.fpOk hle (I1.hok.fresh hle)
end GE
namespace G
open PySem L2
section
variable {Z : Wd} {M H M' H' : Hp} {B : Bas} {W : List (Nat × Addr)} {σ σ' : St} {δ : List S} {te : TE} {Λ : List D → List S → Prop}
theorem xi_enumT (h : XE Z te δ fun d δ1 => ∃ xs, d = .tup xs ∧ Λ (enumD xs) δ1) : XI Z (GE.iEnumT Z.K (tCons te tNil)) δ Λ := fun B W M H σ R I q =>
  h.run I fun M1 H1 δ1 x a h1 e1 I1 at1 => by
    obtain ⟨xs, rfl, f⟩ := h1
    cases at1 with
    | tup k l c =>
      rename_i p us
      refine ⟨p, us, rfl, sqT_mono I1.ex k, q M1 H1 δ1 _ _ f e1 I1 ⟨fun i H hi e => ?_, fun H e => ?_, fun i H x H' M2 hi ea eb y => ?_⟩⟩
      · rw [enumD_len] at hi
        exact ⟨us, us[i]'(by rw [l]; exact hi), sqT_mono e k, by simp [l, hi]⟩
      · exact ⟨us, sqT_mono e k, by rw [enumD_len, l]; exact Nat.le_refl _⟩
      · obtain ⟨T, z, h1, h2, h3, h4⟩ := y
        have hz := h4 us (sqT_mono (ea.tr eb) k)
        obtain ⟨d, hd, ad⟩ := AtL.getV (Z := Z) (M := M1) ⟨l, c⟩ hz
        refine ⟨_, ?_, .inr ⟨T, _, [.int (i : Nat), d], h2, h3, h1, .cons .int (.one (ad.mono ea)), rfl⟩⟩
        simp only [enumD, List.getElem?_map, List.getElem?_zipIdx, hd]; simp
/-- a walk in one of two ways -/
theorem pi_or {X : Cx} {tg e : Expr} {w1 w2 : TI} (a : PI X tg e w1) (b : PI X tg e w2) : PI X tg e (fun σ H R => w1 σ H R ∨ w2 σ H R) :=
  ⟨fun pins s σ H R I h => h.elim (a.run pins s σ H R I) (b.run pins s σ H R I)⟩
theorem xi_l {w1 w2 : TI} (h : XI Z w1 δ Λ) : XI Z (fun σ H R => w1 σ H R ∨ w2 σ H R) δ Λ := fun B W M H σ R I q => .inl (h B W M H σ R I q)
theorem xi_r {w1 w2 : TI} (h : XI Z w2 δ Λ) : XI Z (fun σ H R => w1 σ H R ∨ w2 σ H R) δ Λ := fun B W M H σ R I q => .inr (h B W M H σ R I q)
end
end G
set_option Elab.async false
set_option linter.all false
set_option maxRecDepth 100000
set_option maxHeartbeats 4000000
namespace G
open PySem L2
section
variable {Z : Wd} {M H M' H' : Hp} {B : Bas} {W : List (Nat × Addr)} {σ σ' : St} {δ : List S}
variable {te ta tb tc tv : TE} {tt t u : TT} {Φ : D → List S → Prop} {Ψ : S → List S → Prop} {Ω : OD → List S → Prop} {Λ : List D → List S → Prop} {ts : TA}
variable {bs vs : List Nat} {P : Po}
/-! ### isinstance -/
def tyD : D → Option String
  | .non => some "NoneType" | .bl _ => some "bool" | .int _ => some "int" | .str _ => some "str" | .lst _ => some "list" | .tup _ => some "tuple"
  | _ => none
theorem At.tyx {v : V} {d : D} {n : String} (a : At Z M v d) (e : Ex M H) (h : tyD d = some n) : TyX Z.K H v (.type n) := by
  cases a with
  | non => cases h; exact .base .non
  | bl => cases h; exact .base (.bl _)
  | int => cases h; exact .base (.int _)
  | str => cases h; exact .base (.str _)
  | lst k l c => cases h; exact .base (.lst (e _ _ k))
  | tup k l c =>
    cases h
    rcases sqT_mono e k with k | ⟨o, its, n, k1, k2, _⟩
    · rcases k with k | ⟨o, k⟩
      · exact .base (.tup k)
      · exact .fTuple k
    · exact .kTuple k1 k2
  | _ => cases h
theorem xe_isi {m : String} (h : XE Z te δ fun d δ1 => ∃ n b, tyD d = some n ∧ kitB n m = some b ∧ Φ (.bl b) δ1) : XE Z (tCB (rIsi Z.K) (tCons te (tCons (tC (.ty m)) tNil))) δ Φ := XE.mk fun B W M H σ Q I q =>
  h.run I fun M1 H1 δ1 x a h1 e1 I1 at1 => by
    obtain ⟨n, b, e, k, f⟩ := h1
    exact ⟨x, .ty m, .type n, .type m, b, rfl, .ty m, at1.tyx I1.ex e, kit_ty k, q M1 H1 δ1 _ _ f e1 I1 .bl⟩
theorem kit_seq {K : PySem.W.Frag} {n : String} (h : n ∈ ["NoneType", "bool", "int", "str", "list", "tuple"]) : PySem.W.kitAny K (.type n) [.type "list", .type "tuple"] = some (n == "list" || n == "tuple") := by
  have two : ∀ {x y : Bool}, kitB n "list" = some x → kitB n "tuple" = some y → PySem.W.kitAny K (.type n) [.type "list", .type "tuple"] = some (x || y) := fun {x y} h1 h2 => by
    have h1 : PySem.W.kitOne K (.type n) (.type "list") = some x := kit_ty h1
    have h2 : PySem.W.kitOne K (.type n) (.type "tuple") = some y := kit_ty h2
    unfold PySem.W.kitAny
    rw [h1]
    cases x with
    | true => rfl
    | false =>
      show PySem.W.kitAny K (.type n) [.type "tuple"] = _
      unfold PySem.W.kitAny
      rw [h2]
      cases y <;> rfl
  simp only [List.mem_cons, List.not_mem_nil, or_false] at h
  rcases h with rfl | rfl | rfl | rfl | rfl | rfl
  · exact two (x := false) (y := false) (by decide +kernel) (by decide +kernel)
  · exact two (x := false) (y := false) (by decide +kernel) (by decide +kernel)
  · exact two (x := false) (y := false) (by decide +kernel) (by decide +kernel)
  · exact two (x := false) (y := false) (by decide +kernel) (by decide +kernel)
  · exact two (x := true) (y := false) (by decide +kernel) (by decide +kernel)
  · exact two (x := false) (y := true) (by decide +kernel) (by decide +kernel)
theorem xe_isiSeq (h : XE Z te δ fun d δ1 => ∃ n, tyD d = some n ∧ Φ (.bl (n == "list" || n == "tuple")) δ1) : XE Z (tCB (rIsiT Z.K) (tCons te (tCons (tTup (tCons (tC (.ty "list")) (tCons (tC (.ty "tuple")) tNil))) tNil))) δ Φ := XE.mk fun B W M H σ Q I q =>
  h.run I fun M1 H1 δ1 x a h1 e1 I1 at1 => by
    obtain ⟨n, e, f⟩ := h1
    have hn : n ∈ ["NoneType", "bool", "int", "str", "list", "tuple"] := by
      cases a <;> first | cases e | skip
      all_goals decide
    refine ⟨by show 2 ≤ sizeLine; decide, fun p hp => ?_⟩
    refine ⟨x, p, [.ty "list", .ty "tuple"], .type n, [.type "list", .type "tuple"], _, rfl, upd_same, .cons (.ty _) (.cons (.ty _) .nil), at1.tyx (I1.ex.tr (Ex.new hp)) e, kit_seq hn, ?_⟩
    exact q M1 _ δ1 _ _ f e1 (I1.other (I1.fresh hp) (I1.ex.free hp) (I1.newOwn hp)) .bl
theorem xe_isiC {C : Addr} (h : XE Z te δ fun d δ1 => ∃ c ds, d = .obj c ds ∧ (Z.cl c).C = C ∧ Φ (.bl true) δ1) : XE Z (tCB (fun xs H Q => ∃ a dx fs, xs = [.ref a, .ref C] ∧ H a = some (.ins C dx fs) ∧ Q (.bl true) H) (tCons te (tCons (tC (.ref C)) tNil))) δ Φ := XE.mk fun B W M H σ Q I q =>
  h.run I fun M1 H1 δ1 x a h1 e1 I1 at1 => by
    obtain ⟨c, ds, rfl, hC, f⟩ := h1
    subst hC
    cases at1 with
    | obj k l l2 c => exact ⟨_, _, _, rfl, I1.ex _ _ k, q M1 H1 δ1 _ _ f e1 I1 .bl⟩
/-! ### a < b < c -/
theorem xe_chain {g g' : Int → Int → Bool} (h : XE Z ta δ fun a δ1 => XE Z tb δ1 fun b δ2 => ∃ i j, a = .int i ∧ b = .int j ∧ if g i j = true then XE Z tc δ2 (fun c δ3 => ∃ k, c = .int k ∧ Φ (.bl (g' j k)) δ3) else Φ (.bl false) δ2) :
    XE Z (tChain (rI0 fun i j => .bl (g i j)) (rI0 fun i j => .bl (g' i j)) ta tb tc) δ Φ := XE.mk fun B W M H σ Q I q =>
  h.run I fun M1 H1 δ1 x a h1 e1 I1 at1 => XE.run h1 I1 fun M2 H2 δ2 y b h2 e2 I2 at2 => by
    obtain ⟨i, j, rfl, rfl, f⟩ := h2
    cases at1; cases at2
    refine ⟨i, j, rfl, rfl, g i j, rfl, ?_⟩
    cases e : g i j with
    | true =>
      rw [e, if_pos rfl] at f
      rw [if_pos rfl]
      exact XE.run f I2 fun M3 H3 δ3 z c h3 e3 I3' at3 => by
        obtain ⟨k, rfl, f⟩ := h3
        cases at3
        exact ⟨j, k, rfl, rfl, q M3 H3 δ3 _ _ f (e1.tr (e2.tr e3)) I3' .bl⟩
    | false =>
      rw [e, if_neg Bool.false_ne_true] at f
      rw [if_neg Bool.false_ne_true]
      exact q M2 H2 δ2 _ _ f (e1.tr e2) I2 .bl
/-! ### an own list compared -/
theorem xe_eqO {i : Nat} {xs : List D} (hv : δ[i]? = some (.own (.lst xs))) (h : XE Z tb δ fun b δ2 => δ2[i]? = some (.own (.lst xs)) ∧ plaL xs = true ∧ pla b = true ∧ SeqAt.shaped (py (.lst xs)) = true ∧ SeqAt.shaped (py b) = true ∧ Φ (.bl (PyData.eqv (py (.lst xs)) (py b))) δ2) : XE Z (tOp (rEqD Z.K) (tVar i) tb) δ Φ := XE.mk fun B W M H σ Q I q => by
  obtain ⟨o, e, p, ho, rfl, _⟩ := I.sl i _ hv
  refine ⟨_, e, h.run I fun M2 H2 δ2 y b h2 e2 I2 at2 => ?_⟩
  obtain ⟨hx, pa, pb, sa, sb, f⟩ := h2
  obtain ⟨o', e', p', ho', rfl, hp', hy', _⟩ := I2.sl i _ hx
  rw [e] at e'; cases e'
  obtain ⟨us, rfl, al⟩ := hy'.lstI
  exact ⟨_, _, .lst (SqL.of hp') (AtL.dp _ _ al I2.ex pa), At.dp b y at2 I2.ex pb, sa, sb, q M2 H2 δ2 _ _ f e2 I2 .bl⟩
/-- equal texts in a row -/
theorem eqv_strs : ∀ (xs ys : List Str), PyData.eqvAll (pyL (xs.map .str)) (pyL (ys.map .str)) = decide (xs = ys)
  | [], [] => rfl
  | [], y :: ys => by simp [pyL, PyData.eqvAll]
  | x :: xs, [] => by simp [pyL, PyData.eqvAll]
  | x :: xs, y :: ys => by
    show (PyData.eqv (.str x) (.str y) && PyData.eqvAll (pyL (xs.map .str)) (pyL (ys.map .str))) = _
    rw [eqv_strs xs ys, show PyData.eqv (.str x) (.str y) = (x == y) from by simp [PyData.eqv]]
    rw [Bool.eq_iff_iff]
    simp
theorem pla_strs : ∀ (xs : List Str), plaL (xs.map .str) = true
  | [] => rfl
  | x :: xs => by show (true && plaL (xs.map .str)) = true; rw [pla_strs xs]; rfl
end
end G
set_option Elab.async false
set_option linter.all false
set_option maxRecDepth 100000
set_option maxHeartbeats 4000000
namespace G
open PySem L2
section
variable {Z : Wd} {M H M' H' : Hp} {B : Bas} {W : List (Nat × Addr)} {σ σ' : St} {δ : List S}
variable {te ta tb tc tv : TE} {tt tt1 t u : TT} {Φ : D → List S → Prop} {Ψ : S → List S → Prop} {Ω : OD → List S → Prop} {Λ : List D → List S → Prop} {ts : TA}
variable {bs vs vs1 : List Nat} {P : Po}
/-- a turn of a comprehension: from where it starts, and back -/
theorem I3.turn {A : Addr} {av : List V} (I : I3 Z B W M H σ δ) (hA : H A = some (.lst av)) (hAm : M A = none) (hAo : ∀ j, ¬ Own σ δ j A) (hno : ∀ v ∈ vs, δ[v]? = some .no) :
    ∃ W2 : List (Nat × Addr), (∀ v ∈ vs, v ∉ W2.map (·.1)) ∧ I3 Z ⟨H, M⟩ W2 M H (wipe σ vs) δ ∧ ∀ M4 H4 σ4 δ4, Ex M M4 → (∀ j, j ∉ vs → σ4[j]? = (wipe σ vs)[j]?) → σ4.length = (wipe σ vs).length → I3 Z ⟨H, M⟩ W2 M4 H4 σ4 δ4 →
      (I3 Z B W M4 H4 σ (wipeS δ4 vs) ∧ H4 A = some (.lst av) ∧ M4 A = none ∧ (∀ j, ¬ Own σ (wipeS δ4 vs) j A) ∧ ∀ v ∈ vs, (wipeS δ4 vs)[v]? = some .no) ∧ I3 Z B W M4 H4 σ4 δ4 ∧ (∀ j, ¬ Own σ4 δ4 j A) ∧ ∀ v p, v ∈ vs → (v, p) ∉ W := by
  have hvlen : ∀ v ∈ vs, v < δ.length := fun v hv => (List.getElem?_eq_some_iff.mp (hno v hv)).1
  have hWv : ∀ i p, i ∈ vs → (i, p) ∉ W := fun i p hv hw => by
    exact Own.not (hno i hv) hol_no (I.bor i p hw)
  have Iw : I3 Z B W M H (wipe σ vs) δ := I.swap (fun j hj => wipe_out hj) (wipe_length _ _) (fun _ _ => rfl) (fun j hj _ => hno j hj) rfl hWv
  have hbs : ∀ v ∈ vs, v ∉ (owns 0 (wipe σ vs) δ).map (·.1) := fun v hv hm => by
    obtain ⟨⟨i, p⟩, hmem, rfl⟩ := List.mem_map.mp hm
    exact Own.not (hno _ hv) hol_no (mem_owns.mp hmem)
  have ownEq : ∀ i p, (i, p) ∈ owns 0 (wipe σ vs) δ ↔ Own σ δ i p := fun i p => by
    rw [mem_owns]
    constructor
    · intro o
      have hi' : i ∉ vs := fun hv => Own.not (hno i hv) hol_no o
      exact o.same (wipe_out hi').symm rfl
    · intro o
      have hi' : i ∉ vs := fun hv => Own.not (hno i hv) hol_no o
      exact o.same (wipe_out hi') rfl
  refine ⟨_, hbs, Iw.rebase, fun M4 H4 σ4 δ4 e4 k4 l4 J4 => ?_⟩
  have hl4 : δ4.length = δ.length := by rw [← J4.len, l4, wipe_length, I.len]
  have J5 : I3 Z ⟨H, M⟩ (owns 0 (wipe σ vs) δ) M4 H4 σ (wipeS δ4 vs) := J4.swap (vs := vs) (fun j hj => by rw [k4 j hj, wipe_out hj]) (by rw [l4, wipe_length]) (fun j hj => wipeS_out hj) (fun j hj hlt => wipeS_in (by rw [wipeS_len] at hlt; exact hlt) hj) (wipeS_len _) fun i p hv hw => hbs i hv (List.mem_map_of_mem (f := (·.1)) hw)
  obtain ⟨z1, z2, z3⟩ := J5.stays (a := A) hA hAm (fun i hi => hAo i ((ownEq i A).mp hi)) (fun _ e => nomatch e)
  obtain ⟨_, y2, _⟩ := J4.stays (a := A) hA hAm (fun i hi => hAo i ((ownEq i A).mp hi)) (fun _ e => nomatch e)
  exact ⟨⟨I.back ownEq J5, z1, z3, z2, fun v hv => wipeS_in (by rw [hl4]; exact hvlen v hv) hv⟩, I.back ownEq J4, y2, hWv⟩
/-- a comprehension of two clauses -/
theorem xo_lc2 {g g1 : TG} {wi wi1 : TI} (h : XI Z wi δ fun xs δ0 => (∀ v ∈ vs, δ0[v]? = some .no) ∧ (∀ v ∈ vs1, v ∈ vs) ∧ xs.length ≤ 1000 ∧ ∃ J : Nat → List D → List S → Prop, J 0 [] δ0 ∧
      (∀ i d acc δ1 bs, (∀ v ∈ vs, v ∉ bs) → xs[i]? = some d → J i acc δ1 → XG Z vs bs g d δ1 fun δ2 => XT Z tt δ2 fun b δ3 => if b = true then XI Z wi1 δ3 fun zs δ4 => zs.length ≤ 1000 ∧ (∀ v ∈ vs1, δ4[v]? = some .no) ∧ ∃ Jn : Nat → List D → List S → Prop, Jn 0 acc δ4 ∧
        (∀ j e acc δ5 bs, (∀ v ∈ vs1, v ∉ bs) → zs[j]? = some e → Jn j acc δ5 → XG Z vs1 bs g1 e δ5 fun δ6 => XT Z tt1 δ6 fun b δ7 => if b = true then XE Z te δ7 fun y δ8 => Jn (j + 1) (acc ++ [y]) (wipeS δ8 vs1) else Jn (j + 1) acc (wipeS δ7 vs1)) ∧
        ∀ acc δ5, Jn zs.length acc δ5 → J (i + 1) acc (wipeS δ5 vs)
        else J (i + 1) acc (wipeS δ3 vs)) ∧
      ∀ acc δ1, J xs.length acc δ1 → Ω (.lst acc) δ1) : XO Z (tLc2 wi g tt wi1 g1 tt1 te vs vs1) δ Ω := XO.mk fun B W M H σ Q I q =>
  h B W M H σ _ I fun M' H1 δ' J xs f e1 I1 wd A hA => by
    obtain ⟨hno, hsub, hxs, Jv, j0, js, jn⟩ := f
    have hAB := I1.fresh hA
    have hAm := I1.ex.free hA
    refine ⟨fun i m H => m = xs.length - i ∧ i ≤ xs.length ∧ ∃ M'' δ'' acc av, Ex M' M'' ∧ I3 Z B W M'' H σ δ'' ∧ Jv i acc δ'' ∧ H A = some (.lst av) ∧ AtL Z M'' av acc ∧ M'' A = none ∧ (∀ j, ¬ Own σ δ'' j A) ∧ (∀ v ∈ vs, δ''[v]? = some .no) ∧ acc.length ≤ 1000 * i,
      ⟨_, rfl, Nat.zero_le _, M', δ', [], [], Ex.rfl', I1.other hAB hAm (I1.newOwn hA), j0, upd_same, .nil, hAm, I1.newOwn hA, hno, Nat.le_refl _⟩, ?_⟩
    rintro i m Ha ⟨rfl, hi, M'', δ'', acc, av, a, Ia, ja, hA1, al, hAm1, hAo, hno1, hacc⟩
    by_cases lt : i < xs.length
    · refine .inr ⟨wd.go i Ha lt (a.tr Ia.ex), fun Hn => i + 1 ≤ xs.length ∧ ∃ M'' δ'' acc av, Ex M' M'' ∧ I3 Z B W M'' Hn σ δ'' ∧ Jv (i + 1) acc δ'' ∧ Hn A = some (.lst av) ∧ AtL Z M'' av acc ∧ M'' A = none ∧ (∀ j, ¬ Own σ δ'' j A) ∧ (∀ v ∈ vs, δ''[v]? = some .no) ∧ acc.length ≤ 1000 * (i + 1),
        fun H' z => ⟨xs.length - (i + 1), by omega, rfl, z⟩, fun x Hb yl => ?_⟩
      obtain ⟨d, M2, hd, e2, I2, at2, k2, m2⟩ := YD.use (wd.walk.yields i Ha x Hb lt (a.tr Ia.ex) yl) a Ia
      obtain ⟨W2, hbs, Iw, fin⟩ := I2.turn (vs := vs) (k2 _ _ hA1) (m2 _ _ hA1 hAm1) hAo hno1
      refine js i d acc δ'' _ hbs hd ja _ _ M2 Hb (wipe σ vs) x _ rfl Iw at2 fun M3 H3 σ3 δ3 h3 e3 J3 k3 l3 => ⟨(wipe_eq k3 l3).trans (wipe_eq (fun j hj => wipe_out hj) (wipe_length _ _)), ?_⟩
      refine h3 _ _ M3 H3 σ3 _ J3 fun M4 H4 δ4 b h4 e4 J4 => ?_
      cases b with
      | false =>
        rw [if_neg Bool.false_ne_true] at h4 ⊢
        obtain ⟨⟨z1, z2, z3, z4, z5⟩, _⟩ := fin M4 H4 σ3 δ4 (e3.tr e4) k3 l3 J4
        exact ⟨lt, M4, _, _, _, a.tr (e2.tr (e3.tr e4)), z1, h4, z2, al.mono (e2.tr (e3.tr e4)), z3, z4, z5, by omega⟩
      | true =>
        rw [if_pos rfl] at h4 ⊢
        refine h4 _ _ M4 H4 σ3 _ J4 fun M5 H5 δ5 J1 zs h5 e5 J5 wd1 => ?_
        obtain ⟨hzs, hno5, Jn, n0, ns, nn⟩ := h5
        have ex5 : Ex M2 M5 := e3.tr (e4.tr e5)
        obtain ⟨⟨_, y2, y3, _, _⟩, yI, yO, hWv⟩ := fin M5 H5 σ3 δ5 ex5 k3 l3 J5
        refine ⟨fun j m H => m = zs.length - j ∧ j ≤ zs.length ∧ ∃ M6 δ6 acc6 av6, Ex M5 M6 ∧ I3 Z B W M6 H σ3 δ6 ∧ Jn j acc6 δ6 ∧ H A = some (.lst av6) ∧ AtL Z M6 av6 acc6 ∧ M6 A = none ∧ (∀ j, ¬ Own σ3 δ6 j A) ∧ (∀ v ∈ vs1, δ6[v]? = some .no) ∧ acc6.length ≤ 1000 * i + j ∧ δ6.length = δ''.length,
          ⟨_, rfl, Nat.zero_le _, M5, δ5, acc, av, Ex.rfl', yI, n0, y2, al.mono (e2.tr ex5), y3, yO, hno5, by omega, by rw [← yI.len, l3, wipe_length, I2.len]⟩, ?_⟩
        rintro j m Hc ⟨rfl, hj, M6, δ6, acc6, av6, a6, I6, j6, hA6, al6, hAm6, hAo6, hno6, hacc6, hlen6⟩
        by_cases ltj : j < zs.length
        · refine .inr ⟨wd1.go j Hc ltj (a6.tr I6.ex), fun Hn => j + 1 ≤ zs.length ∧ ∃ M6 δ6 acc6 av6, Ex M5 M6 ∧ I3 Z B W M6 Hn σ3 δ6 ∧ Jn (j + 1) acc6 δ6 ∧ Hn A = some (.lst av6) ∧ AtL Z M6 av6 acc6 ∧ M6 A = none ∧ (∀ j, ¬ Own σ3 δ6 j A) ∧ (∀ v ∈ vs1, δ6[v]? = some .no) ∧ acc6.length ≤ 1000 * i + (j + 1) ∧ δ6.length = δ''.length,
            fun H' z => ⟨zs.length - (j + 1), by omega, rfl, z⟩, fun x1 Hd yl1 => ?_⟩
          obtain ⟨d7, M7, hd7, e7, I7, at7, k7, m7⟩ := YD.use (wd1.walk.yields j Hc x1 Hd ltj (a6.tr I6.ex) yl1) a6 I6
          obtain ⟨W7, hbs7, Iw7, fin7⟩ := I7.turn (vs := vs1) (k7 _ _ hA6) (m7 _ _ hA6 hAm6) hAo6 hno6
          refine ns j d7 acc6 δ6 _ hbs7 hd7 j6 _ _ M7 Hd (wipe σ3 vs1) x1 _ rfl Iw7 at7 fun M8 H8 σ8 δ8 h8 e8 J8 k8 l8 => ⟨(wipe_eq k8 l8).trans (wipe_eq (fun j hj => wipe_out hj) (wipe_length _ _)), ?_⟩
          refine h8 _ _ M8 H8 σ8 _ J8 fun M9 H9 δ9 b h9 e9 J9 => ?_
          cases b with
          | false =>
            rw [if_neg Bool.false_ne_true] at h9 ⊢
            obtain ⟨⟨z1, z2, z3, z4, z5⟩, _⟩ := fin7 M9 H9 σ8 δ9 (e8.tr e9) k8 l8 J9
            exact ⟨ltj, M9, _, _, _, a6.tr (e7.tr (e8.tr e9)), z1, h9, z2, al6.mono (e7.tr (e8.tr e9)), z3, z4, z5, by omega, by rw [← z1.len, I7.len, hlen6]⟩
          | true =>
            rw [if_pos rfl] at h9 ⊢
            refine XE.run h9 J9 fun M0 H0 δ0 y' d' h0 e0 J0 at0 => ?_
            have ex0 : Ex M7 M0 := e8.tr (e9.tr e0)
            obtain ⟨⟨z1, z2, z3, z4, z5⟩, _⟩ := fin7 M0 H0 σ8 δ0 ex0 k8 l8 J0
            have hlen : av6.length < sizeLine := by
              have h1 := al6.len
              have h2 : av6.length < 1001001 := by
                have : 1000 * i ≤ 1000 * 1000 := Nat.mul_le_mul_left _ (by omega)
                omega
              exact Nat.lt_of_lt_of_le h2 (by decide)
            exact ⟨av6, z2, hlen, ltj, M0, _, _, _, a6.tr (e7.tr ex0), z1.other hAB z3 z4, h0, upd_same, AtL.app (al6.mono (e7.tr ex0)) (.one at0), z3, z4, z5, by rw [List.length_append, List.length_singleton]; omega, by rw [← z1.len, I7.len, hlen6]⟩
        · obtain rfl : j = zs.length := by omega
          have hvlen : ∀ v ∈ vs, v < δ6.length := fun v hv => by rw [hlen6]; exact (List.getElem?_eq_some_iff.mp (hno1 v hv)).1
          have Jb : I3 Z B W M6 Hc σ (wipeS δ6 vs) := I6.swap (vs := vs) (fun j hj => by rw [k3 j hj, wipe_out hj]) (by rw [l3, wipe_length]) (fun j hj => wipeS_out hj) (fun j hj hlt => wipeS_in (by rw [wipeS_len] at hlt; exact hlt) hj) (wipeS_len _) fun i p hv => hWv i p hv
          refine .inl ⟨wd1.stop Hc (a6.tr I6.ex), lt, M6, wipeS δ6 vs, acc6, av6, a.tr (e2.tr (ex5.tr a6)), Jb, nn _ _ j6, hA6, al6, hAm6, fun j o => ?_, fun v hv => wipeS_in (hvlen v hv) hv, by omega⟩
          have hj' : j ∉ vs := fun hv => Own.not (wipeS_in (hvlen j hv) hv) hol_no o
          exact hAo6 j (o.same (by rw [k3 j hj', wipe_out hj']) (wipeS_out hj').symm)
    · obtain rfl : i = xs.length := by omega
      exact .inl ⟨wd.stop Ha (a.tr Ia.ex), q M'' Ha δ'' A _ _ (jn _ _ ja) (e1.tr a) Ia hA1 al hAm1 hAB hAo⟩
/-! ### int, abs, min, max, str, a power -/
theorem xe_callInt (h : XE Z te δ fun d δ1 => ∃ i, d = .int i ∧ Φ (.int i) δ1) : XE Z (tCB (fun xs H Q => (∃ i, xs = [.int i] ∧ Q (.int i) H) ∨ ∃ k, xs = [.bl k] ∧ Q (.int (if k then 1 else 0)) H) (tCons te tNil)) δ Φ := XE.mk fun B W M H σ Q I q =>
  h.run I fun M1 H1 δ1 x a h1 e1 I1 at1 => by
    obtain ⟨i, rfl, f⟩ := h1
    cases at1
    exact .inl ⟨i, rfl, q M1 H1 δ1 _ _ f e1 I1 .int⟩
theorem xe_callIntB (h : XE Z te δ fun d δ1 => ∃ b, d = .bl b ∧ Φ (.int (if b then 1 else 0)) δ1) : XE Z (tCB (fun xs H Q => (∃ i, xs = [.int i] ∧ Q (.int i) H) ∨ ∃ k, xs = [.bl k] ∧ Q (.int (if k then 1 else 0)) H) (tCons te tNil)) δ Φ := XE.mk fun B W M H σ Q I q =>
  h.run I fun M1 H1 δ1 x a h1 e1 I1 at1 => by
    obtain ⟨i, rfl, f⟩ := h1
    cases at1
    exact .inr ⟨i, rfl, q M1 H1 δ1 _ _ f e1 I1 .int⟩
theorem xe_abs (h : XE Z te δ fun d δ1 => ∃ i : Int, d = .int i ∧ Φ (.int (if i < 0 then -i else i)) δ1) : XE Z (tCB (fun xs H Q => ∃ i : Int, xs = [.int i] ∧ Q (.int (if i < 0 then -i else i)) H) (tCons te tNil)) δ Φ := XE.mk fun B W M H σ Q I q =>
  h.run I fun M1 H1 δ1 x a h1 e1 I1 at1 => by
    obtain ⟨i, rfl, f⟩ := h1
    cases at1
    exact ⟨i, rfl, q M1 H1 δ1 _ _ f e1 I1 .int⟩
theorem xe_max2 (h : XE Z ta δ fun d δ1 => XE Z tb δ1 fun b δ2 => ∃ i j : Int, d = .int i ∧ b = .int j ∧ Φ (.int (if j > i then j else i)) δ2) : XE Z (tCB (fun xs H Q => ∃ i j : Int, xs = [.int i, .int j] ∧ Q (.int (if j > i then j else i)) H) (tCons ta (tCons tb tNil))) δ Φ := XE.mk fun B W M H σ Q I q =>
  h.run I fun M1 H1 δ1 x a h1 e1 I1 at1 => XE.run h1 I1 fun M2 H2 δ2 y b h2 e2 I2 at2 => by
    obtain ⟨i, j, rfl, rfl, f⟩ := h2
    cases at1; cases at2
    exact ⟨i, j, rfl, q M2 H2 δ2 _ _ f (e1.tr e2) I2 .int⟩
theorem xe_min2 (h : XE Z ta δ fun d δ1 => XE Z tb δ1 fun b δ2 => ∃ i j : Int, d = .int i ∧ b = .int j ∧ Φ (.int (if j < i then j else i)) δ2) : XE Z (tCB (fun xs H Q => ∃ i j : Int, xs = [.int i, .int j] ∧ Q (.int (if j < i then j else i)) H) (tCons ta (tCons tb tNil))) δ Φ := XE.mk fun B W M H σ Q I q =>
  h.run I fun M1 H1 δ1 x a h1 e1 I1 at1 => XE.run h1 I1 fun M2 H2 δ2 y b h2 e2 I2 at2 => by
    obtain ⟨i, j, rfl, rfl, f⟩ := h2
    cases at1; cases at2
    exact ⟨i, j, rfl, q M2 H2 δ2 _ _ f (e1.tr e2) I2 .int⟩
theorem xe_strS (h : XE Z te δ fun d δ1 => ∃ s, d = .str s ∧ Φ (.str s) δ1) : XE Z (tCB (fun xs H Q => ∃ a, xs = [.str a] ∧ Q (.str a) H) (tCons te tNil)) δ Φ := XE.mk fun B W M H σ Q I q =>
  h.run I fun M1 H1 δ1 x a h1 e1 I1 at1 => by
    obtain ⟨i, rfl, f⟩ := h1
    cases at1
    exact ⟨i, rfl, q M1 H1 δ1 _ _ f e1 I1 .str⟩
theorem ite_b {b : Bool} {A C : Prop} (h1 : b = true → A) (h2 : b = false → C) : if b = true then A else C := by
  cases b with
  | true => rw [if_pos rfl]; exact h1 rfl
  | false => rw [if_neg Bool.false_ne_true]; exact h2 rfl
theorem xs_item0 {i : Nat} {bs : List Nat} {P : Po} (h : XE Z te δ fun d δ1 => ∃ y, δ1[i]? = some (.own y) ∧ XE Z ta δ1 fun b δ2 => ∃ xs k, δ2[i]? = some (.own (.lst xs)) ∧ b = .int (k : Nat) ∧ k < xs.length ∧ P.N (δ2.set i (.own (.lst (xs.set k d))))) : XS Z bs (tAsg te (gSub (tVar i) ta rSetL)) δ P := fun B W M H σ E hb I e =>
  h.run I fun M1 H1 δ1 x d h1 e1 I1 at1 => by
    obtain ⟨y, hy, h1⟩ := h1
    obtain ⟨o, e0, p, ho, rfl, _⟩ := I1.sl i _ hy
    refine ⟨_, e0, XE.run h1 I1 fun M2 H2 δ2 y b h2 e2 I2 at2 => ?_⟩
    obtain ⟨xs, k, hx, rfl, hk, f⟩ := h2
    cases at2
    obtain ⟨o', e', p', ho', rfl, hp', hy', _⟩ := I2.sl i _ hx
    rw [e0] at e'; cases e'
    obtain ⟨us, rfl, a⟩ := hy'.lstI
    refine ⟨_, us, (k : Int), k, rfl, rfl, hp', ?_, e.nx _ _ _ _ f (e1.tr e2) (I2.write e0 hx (ho := .lst _) (y' := .lst _) (a.set k (at1.mono e2)))⟩
    unfold ixN
    rw [if_pos (by omega), if_pos (by rw [a.len]; omega)]; simp
end
end G
set_option Elab.async false
set_option maxRecDepth 100000
set_option maxHeartbeats 4000000
namespace G
open PySem L2
variable {Z : Wd} {B : Bas} {W : List (Nat × Addr)} {M M' H H' : Hp} {σ σ' : St} {δ δ' : List S} {te ta tb : TE} {Φ : D → List S → Prop} {bs : List Nat} {P : Po}
theorem xe_callIntC {g : Int → Int → Bool} (h : XE Z (tOp (rI0 fun i j => .bl (g i j)) ta tb) δ fun d δ1 => ∃ b, d = .bl b ∧ Φ (.int (if b then 1 else 0)) δ1) : XE Z (tCB (fun xs H Q => (∃ i, xs = [.int i] ∧ Q (.int i) H) ∨ ∃ k, xs = [.bl k] ∧ Q (.int (if k then 1 else 0)) H) (tCons (tOp (rI0 fun i j => .bl (g i j)) ta tb) tNil)) δ Φ := xe_callIntB h
theorem abs_nn (v : Int) : 0 ≤ (if v < 0 then -v else v) := by split <;> omega
theorem joinX {ts : TS} {G : Prop} {α : Type} (ok : α → Prop) (st : α → List S) (f : (∀ c, ok c → XS Z bs ts (st c) P) → G) (h : ∀ c, ok c → XS Z bs ts (st c) P) : G := f h
theorem atI_some {α : Type} {xs : List α} {k : Int} (h0 : 0 ≤ k) (h1 : k < xs.length) : ∃ v, atI xs k = some v := by
  refine ⟨xs[k.toNat]'(by omega), ?_⟩
  have := atI_nat (xs := xs) (j := k.toNat) (v := xs[k.toNat]'(by omega)) (by simp)
  rwa [show ((k.toNat : Nat) : Int) = k by omega] at this
theorem perm_erase {α : Type} : ∀ {l : List α} {k : Nat} (h : k < l.length), ([l[k]] ++ l.eraseIdx k).Perm l
  | x :: l, 0, _ => by simp
  | x :: l, k + 1, h => by
    have := perm_erase (l := l) (k := k) (by simpa using h)
    simp only [List.getElem_cons_succ, List.eraseIdx_cons_succ, List.cons_append, List.nil_append] at this ⊢
    exact (List.Perm.swap _ _ _).trans (this.cons x)
theorem XT.imp {tt : TT} {Θ Θ' : Bool → List S → Prop} (h : XT Z tt δ Θ) (k : ∀ b δ', Θ b δ' → Θ' b δ') : XT Z tt δ Θ' := fun B W M H σ Q I q => h B W M H σ Q I fun M' H' δ' b a => q M' H' δ' b (k _ _ a)
theorem wipe_set {v : Nat} {d : D} (h : δ[v]? = some .no) : wipeS (δ.set v (.d d)) [v] = δ := by
  unfold wipeS wipeS
  rw [List.set_set]
  exact List.ext_getElem? fun j => by
    rw [List.getElem?_set]
    split
    · rename_i e
      subst e
      rw [h]
      have : v < δ.length := by
        rcases Nat.lt_or_ge v δ.length with q | q
        · exact q
        · rw [List.getElem?_eq_none q] at h; cases h
      simp [this]
    · rfl
theorem xo_fm {v : Nat} {wi : TI} {tt : TT} {Ω : OD → List S → Prop} {f : D → D} {p : D → Bool} (h : XI Z wi δ fun xs δ0 => δ0[v]? = some .no ∧ xs.length ≤ 1000000 ∧ (∀ d ∈ xs, XT Z tt (δ0.set v (.d d)) fun b δ3 => b = p d ∧ δ3 = δ0.set v (.d d) ∧ (b = true → XE Z te δ3 fun y δ4 => y = f d ∧ δ4 = δ3)) ∧ Ω (.lst ((xs.filter p).map f)) δ0) :
    XO Z (tLc wi (gName v) tt te [v]) δ Ω := xo_lc fun B W M H σ Q I q => h B W M H σ Q I fun M' H' δ' J xs a => q M' H' δ' J xs (by
  obtain ⟨h1, h2, h3, h4⟩ := a
  refine ⟨fun w hw => by simp at hw; exact hw ▸ h1, h2, fun i acc δ1 => acc = ((xs.take i).filter p).map f ∧ δ1 = δ', ⟨rfl, rfl⟩, ?_, ?_⟩
  · rintro i d acc δ1 bs hb hi ⟨rfl, rfl⟩
    refine xg_name (List.mem_singleton.mpr rfl) (hb v (List.mem_singleton.mpr rfl)) ?_
    have t : xs.take (i + 1) = xs.take i ++ [d] := by rw [List.take_add_one, hi]; rfl
    have hm : d ∈ xs := List.mem_of_getElem? hi
    refine XT.imp (h3 d hm) fun b δ3 ⟨e1, e2, e3⟩ => ?_
    subst e1; subst e2
    split
    · rename_i hp
      refine XR.imp (e3 hp) fun s δ4 k => ?_
      cases s with
      | d y => exact ⟨by rw [t, k.1]; simp [hp], by rw [k.2]; exact wipe_set h1⟩
      | _ => exact k.elim
    · rename_i hp
      exact ⟨by rw [t]; simp [hp], wipe_set h1⟩
  · rintro acc δ1 ⟨rfl, rfl⟩
    rw [List.take_length]
    exact h4)
theorem xe_neg (h : XE Z te δ fun d δ1 => ∃ i, d = .int i ∧ Φ (.int (-i)) δ1) : XE Z (tUn (rU fun i => .int (-i)) te) δ Φ := XE.mk fun B W M H σ Q I q =>
  h.run I fun M1 H1 δ1 x a h1 e1 I1 at1 => by
    obtain ⟨i, rfl, f⟩ := h1
    cases at1
    exact ⟨i, rfl, q M1 H1 δ1 _ _ f e1 I1 .int⟩
theorem lay_strs : ∀ {ns : List Str}, (∀ n ∈ ns, PyData.strOk n = true) → PyData.canLayAll0 (pyL (ns.map .str)) = true ∧ PyData.depthAll (pyL (ns.map .str)) = 0
  | [], _ => ⟨rfl, rfl⟩
  | n :: ns, h => by
    have := lay_strs (ns := ns) fun m hm => h m (List.mem_cons_of_mem _ hm)
    refine ⟨?_, ?_⟩
    · show PyData.canLayAll0 (PyData.str n :: pyL (ns.map .str)) = true
      rw [PyData.canLayAll0.eq_2, PyData.canLay0.eq_4, h n (by simp), this.1]; rfl
    · show PyData.depthAll (PyData.str n :: pyL (ns.map .str)) = 0
      rw [PyData.depthAll.eq_2, this.2]; rfl
theorem shp_lst {ns : List Str} (h : ∀ n ∈ ns, PyData.strOk n = true) : SeqAt.shaped (py (.lst (ns.map .str))) = true := by
  have := lay_strs h
  show (PyData.canLay0 (PyData.list (pyL (ns.map .str))) && decide ((PyData.list (pyL (ns.map .str))).depth ≤ 64)) = true
  rw [PyData.canLay0.eq_5, this.1]
  unfold PyData.depth
  rw [this.2]; decide
theorem shp_tup {ns : List Str} (h : ∀ n ∈ ns, PyData.strOk n = true) : SeqAt.shaped (py (.tup (ns.map .str))) = true := by
  have := lay_strs h
  show (PyData.canLay0 (PyData.tuple (pyL (ns.map .str))) && decide ((PyData.tuple (pyL (ns.map .str))).depth ≤ 64)) = true
  rw [PyData.canLay0.eq_6, this.1]
  unfold PyData.depth
  rw [this.2]; decide
theorem eqv_lst (xs ys : List Str) : PyData.eqv (py (.lst (xs.map .str))) (py (.lst (ys.map .str))) = decide (xs = ys) := by
  rw [← eqv_strs xs ys]; rfl
theorem eqv_tup (xs ys : List Str) : PyData.eqv (py (.tup (xs.map .str))) (py (.tup (ys.map .str))) = decide (xs = ys) := by
  rw [← eqv_strs xs ys]; rfl
theorem atI_last {α : Type} (xs : List α) (x : α) : atI (xs ++ [x]) (-1) = some x := by
  unfold atI ixN
  rw [if_neg (by omega)]
  rw [if_pos (by simp; omega)]
  simp
  rw [show (-1 + ((xs.length : Int) + 1)).toNat = xs.length by omega]
  simp
/-- a list that grows by what is new: a lot -/
theorem lot_step {found done : List Str} {n : Str} (hf : found.Pairwise GS.Lt) (hm : ∀ z, z ∈ found ↔ z ∈ done) (hs : ∀ z ∈ done, ¬ GS.Lt n z) (hn : ∀ l, found.getLast? = some l → l ≠ n) :
    (found ++ [n]).Pairwise GS.Lt ∧ ∀ z, z ∈ found ++ [n] ↔ z ∈ done ++ [n] := by
  refine ⟨List.pairwise_append.mpr ⟨hf, by simp, fun z hz w hw => ?_⟩, fun z => by simp [hm z]⟩
  simp at hw; subst hw
  have hg : ¬ GS.Lt w z := hs z ((hm z).mp hz)
  rcases Classical.em (GS.Lt z w) with q | q
  · exact q
  · have e := GS.Lt.tri q hg
    subst e
    exfalso
    have hne : found ≠ [] := fun e => by subst e; simp at hz
    have hl := List.getLast?_eq_some_getLast hne
    have hl1 := hn _ hl
    have hg2 : ¬ GS.Lt z (found.getLast hne) := hs _ ((hm _).mp (List.getLast_mem hne))
    rw [← List.dropLast_concat_getLast hne, List.mem_append] at hz
    rcases hz with hz | hz
    · rw [← List.dropLast_concat_getLast hne] at hf
      exact hg2 ((List.pairwise_append.mp hf).2.2 z hz _ (by simp))
    · simp at hz; exact hl1 hz.symm
theorem blk_lst {ts : TA} {i : Nat} (h : XS Z bs (tAsg (tLst ts) (gName i)) δ P) : XS Z bs (tAsg (tLst ts) (gName i)) δ P := h
theorem blk_lc {wi : TI} {g : TG} {tt : TT} {vs : List Nat} {i : Nat} (h : XS Z bs (tAsg (tLc wi g tt te vs) (gName i)) δ P) : XS Z bs (tAsg (tLc wi g tt te vs) (gName i)) δ P := h
end G
namespace G
open PySem L2
theorem perm_map {α β : Type} {f : α → β} {ys : List β} {xs : List α} (h : ys.Perm (xs.map f)) : ∃ ns : List α, ys = ns.map f ∧ ns.Perm xs := by
  generalize e : xs.map f = zs at h
  induction h generalizing xs with
  | nil => cases xs with
    | nil => exact ⟨[], rfl, .refl _⟩
    | cons x xs => cases e
  | cons x h ih => 
    cases xs with
    | nil => cases e
    | cons z xs =>
      simp only [List.map_cons, List.cons.injEq] at e
      obtain ⟨ns, h1, h2⟩ := ih e.2
      exact ⟨z :: ns, by rw [h1, ← e.1]; rfl, h2.cons z⟩
  | swap x y l =>
    rcases xs with _ | ⟨u, _ | ⟨v, xs⟩⟩
    · cases e
    · simp at e
    · simp only [List.map_cons, List.cons.injEq] at e
      obtain ⟨h1, h2, h3⟩ := e
      exact ⟨v :: u :: xs, by rw [← h1, ← h2, ← h3]; rfl, List.Perm.swap _ _ _⟩
  | trans h1 h2 ih1 ih2 =>
    obtain ⟨ms, rfl, hm⟩ := ih2 e
    obtain ⟨ns, rfl, hn⟩ := ih1 rfl
    exact ⟨ns, rfl, hn.trans hm⟩
theorem cut_to {α : Type} {xs : List α} {b : Int} (h : 0 ≤ b) : cut xs none (some b) = xs.take b.toNat := by
  unfold cut HT.sIx
  simp
  rw [if_neg (by omega)]
  omega
end G
theorem G.on_d {Φ : G.D → List G.S → Prop} {x : G.D} {δ : List G.S} (h : Φ x δ) : G.onD Φ (.d x) δ := h
theorem G.on_o {Φ : G.OD → List G.S → Prop} {x : G.OD} {δ : List G.S} (h : Φ x δ) : G.onO Φ (.own x) δ := h
theorem G.joinE {Z : G.Wd} {te : L2.TE} {δ : List G.S} {Φ : G.D → List G.S → Prop} {α : Type} (ok : α → Prop) (dd : α → G.D) (st : α → List G.S) (f : (∀ c, ok c → Φ (dd c) (st c)) → G.XE Z te δ Φ) (h : ∀ c, ok c → Φ (dd c) (st c)) : G.XE Z te δ Φ := f h
namespace G
open PySem L2
theorem xo_fg {Z : Wd} {δ : List S} {te : TE} {α : Type} {v : Nat} {wi : TI} {tt : TT} {Ω : OD → List S → Prop} {g f : α → D} {p : α → Bool} (h : XI Z wi δ fun xs δ0 => ∃ as : List α, xs = as.map g ∧ δ0[v]? = some .no ∧ as.length ≤ 1000000 ∧ (∀ d ∈ as, XT Z tt (δ0.set v (.d (g d))) fun b δ3 => b = p d ∧ δ3 = δ0.set v (.d (g d)) ∧ (b = true → XE Z te δ3 fun y δ4 => y = f d ∧ δ4 = δ3)) ∧ Ω (.lst ((as.filter p).map f)) δ0) :
    XO Z (tLc wi (gName v) tt te [v]) δ Ω := xo_lc fun B W M H σ Q I q => h B W M H σ Q I fun M' H' δ' J xs a => q M' H' δ' J xs (by
  obtain ⟨as, rfl, h1, h2, h3, h4⟩ := a
  refine ⟨fun w hw => by simp at hw; exact hw ▸ h1, by simpa using h2, fun i acc δ1 => acc = ((as.take i).filter p).map f ∧ δ1 = δ', ⟨rfl, rfl⟩, ?_, ?_⟩
  · rintro i d acc δ1 bs hb hi ⟨rfl, rfl⟩
    obtain ⟨u, hu, rfl⟩ : ∃ u, as[i]? = some u ∧ g u = d := by simpa using hi
    refine xg_name (List.mem_singleton.mpr rfl) (hb v (List.mem_singleton.mpr rfl)) ?_
    have t : as.take (i + 1) = as.take i ++ [u] := by rw [List.take_add_one, hu]; rfl
    refine XT.imp (h3 u (List.mem_of_getElem? hu)) fun b δ3 ⟨e1, e2, e3⟩ => ?_
    subst e1; subst e2
    split
    · rename_i hp
      refine XR.imp (e3 hp) fun s δ4 k => ?_
      cases s with
      | d y => exact ⟨by rw [t, k.1]; simp [hp], by rw [k.2]; exact wipe_set h1⟩
      | _ => exact k.elim
    · rename_i hp
      exact ⟨by rw [t]; simp [hp], wipe_set h1⟩
  · rintro acc δ1 ⟨rfl, rfl⟩
    rw [List.length_map, List.take_length]
    exact h4)
end G
theorem G.pe_gc {X : L2.Cx} {x : PySem.Str} {v : L2.V} {pos : PySem.Pos} (hg : L2.Gl X x) (h : ∃ u, X.mg x = some u ∧ L2.RelV v u) (hd : (x == PySem.Str.ofString "__debug__") = false := by decide) : L2.PE X (.Name x pos) (L2.tC v) := by
  obtain ⟨u, hm, r⟩ := h
  exact L2.pe_glob hg hm r hd
namespace G
open PySem L2
theorem if_tt {A C : Prop} (h : A) : if true = true then A else C := h
theorem if_ff {A C : Prop} (h : C) : if false = true then A else C := h
theorem if_nt {A C : Prop} (h : C) : if (!true) = true then A else C := h
theorem if_nf {A C : Prop} (h : A) : if (!false) = true then A else C := h
theorem scs_strs' : ∀ (ws : List Str), scs (ws.map .str) = some (ws.map V.str)
  | [] => rfl
  | w :: ws => by
    have := scs_strs' ws
    simp only [List.map_cons]
    unfold scs
    rw [this]; rfl
section
variable {Z : Wd} {ta tb : TE} {δ : List S} {Φ : D → List S → Prop}
theorem xe_inT (h : XE Z ta δ fun a δ1 => XE Z tb δ1 fun b δ2 => ∃ (n : Str) (ws : List Str), a = .str n ∧ (b = .lst (ws.map .str) ∨ b = .tup (ws.map .str)) ∧ Φ (.bl (decide (n ∈ ws))) δ2) : XE Z (tOp (rIn Z.K false) ta tb) δ Φ :=
  xe_in fun B W M H σ Q I q => h B W M H σ Q I fun M1 H1 δ1 v s a => q M1 H1 δ1 v s (by
    cases s with
    | d x => 
      intro B2 W2 M2 H2 σ2 Q2 I2 q2
      refine a B2 W2 M2 H2 σ2 Q2 I2 fun M3 H3 δ3 v3 s3 a3 => q2 M3 H3 δ3 v3 s3 ?_
      cases s3 with
      | d y =>
        obtain ⟨n, ws, rfl, hb, f⟩ := a3
        refine ⟨.str n, ws.map .str, ws.map V.str, rfl, hb, scs_strs' ws, ?_⟩
        simp only [Bool.false_eq_true, if_false, inV_strs]
        exact f
      | no => exact a3
      | own y => exact a3
      | deal _ _ _ => exact a3
    | no => exact a
    | own y => exact a
    | deal _ _ _ => exact a)
theorem xe_ninT (h : XE Z ta δ fun a δ1 => XE Z tb δ1 fun b δ2 => ∃ (n : Str) (ws : List Str), a = .str n ∧ (b = .lst (ws.map .str) ∨ b = .tup (ws.map .str)) ∧ Φ (.bl (!decide (n ∈ ws))) δ2) : XE Z (tOp (rIn Z.K true) ta tb) δ Φ :=
  xe_in fun B W M H σ Q I q => h B W M H σ Q I fun M1 H1 δ1 v s a => q M1 H1 δ1 v s (by
    cases s with
    | d x => 
      intro B2 W2 M2 H2 σ2 Q2 I2 q2
      refine a B2 W2 M2 H2 σ2 Q2 I2 fun M3 H3 δ3 v3 s3 a3 => q2 M3 H3 δ3 v3 s3 ?_
      cases s3 with
      | d y =>
        obtain ⟨n, ws, rfl, hb, f⟩ := a3
        refine ⟨.str n, ws.map .str, ws.map V.str, rfl, hb, scs_strs' ws, ?_⟩
        simp only [if_true, inV_strs]
        exact f
      | no => exact a3
      | own y => exact a3
      | deal _ _ _ => exact a3
    | no => exact a
    | own y => exact a
    | deal _ _ _ => exact a)
end
end G
theorem G.pe_fldK {X : L2.Cx} {K : PySem.W.Frag} {e : PySem.Expr} {f : PySem.Str} {pos : PySem.Pos} {ta : L2.TE} (hK : X.K = K) (h : L2.PE X e ta) (hb : PySem.attributeBase e f X.env (PySem.eval e X.env) = PySem.eval e X.env) : L2.PE X (e.Attribute f pos) (L2.tFld K ta f) := hK ▸ L2.pe_fld h hb
theorem G.pi_tupK {X : L2.Cx} {K : PySem.W.Frag} {tg l : PySem.Expr} {tl : L2.TE} (hK : X.K = K) (h : L2.PE X l tl) : L2.PI X tg l (L2.iTup K tl) := hK ▸ L2.pi_tup h
theorem G.pa_starK {X : L2.Cx} {K : PySem.W.Frag} {e : PySem.Expr} {es : List PySem.Expr} {te : L2.TE} {t : L2.TA} {p : PySem.Pos} (hK : X.K = K) (h : L2.PE X e te) (h2 : L2.PA X es t) (h3 : PySem.starEach (e.Starred p :: es) X.env = (true, PySem.eval e X.env) :: PySem.starEach es X.env := by rfl) : L2.PA X (e.Starred p :: es) (StX.tStar K te t) := hK ▸ StX.pa_star h h2 h3
namespace G
open PySem L2
section
variable {Z : Wd} {δ : List S} {Λ : List D → List S → Prop}
theorem xi_enumV {i : Nat} {d : D} {xs : List D} (h : δ[i]? = some (.d d)) (hd : d = .lst xs ∨ d = .tup xs) (k : Λ (enumD xs) δ) : XI Z (fun σ H R => iEnum Z.K (tCons (tVar i) tNil) σ H R ∨ GE.iEnumT Z.K (tCons (tVar i) tNil) σ H R) δ Λ := by
  rcases hd with rfl | rfl
  · exact xi_l (xi_enum (xe_var h ⟨_, rfl, k⟩))
  · exact xi_r (xi_enumT (xe_var h ⟨_, rfl, k⟩))
theorem xi_seqV {i : Nat} {d : D} {xs : List D} (h : δ[i]? = some (.d d)) (hd : d = .lst xs ∨ d = .tup xs) (k : Λ xs δ) : XI Z (fun σ H R => iList Z.K (tVar i) σ H R ∨ iTup Z.K (tVar i) σ H R) δ Λ := by
  rcases hd with rfl | rfl
  · exact xi_l (xi_list (xe_var h ⟨_, .inl rfl, k⟩))
  · exact xi_r (xi_tup (xe_var h ⟨_, rfl, k⟩))
end
end G
theorem G.filter_tt {α : Type} (xs : List α) : xs.filter (fun _ => true) = xs := List.filter_eq_self.mpr fun _ _ => rfl
set_option Elab.async false
set_option linter.all false
set_option maxRecDepth 100000
set_option maxHeartbeats 4000000
namespace GS
open PySem PySem.Spec PyProof.Rows L2
open PySem.Froz (SD sObj tailTx addTx TxOk)
section
variable {X : Cx}
def rIsX : R2 := fun x y H Q => y = .non ∧ Q (.bl (decide (x = .non))) H
def rNotX : R2 := fun x y H Q => y = .non ∧ Q (.bl (!decide (x = .non))) H
theorem op_isX : OpR X (compareOp .Is) rIsX := op_isN
def rIsB : R2 := fun x y H Q => ∃ a b, x = .bl a ∧ y = .bl b ∧ Q (.bl (decide (a = b))) H
def rNotB : R2 := fun x y H Q => ∃ a b, x = .bl a ∧ y = .bl b ∧ Q (.bl (!decide (a = b))) H
end
end GS
namespace G
open PySem L2
section
variable {Z : Wd} {δ : List S} {te ta tb : TE} {Φ : D → List S → Prop} {Ψ : S → List S → Prop} {X : Cx}
/-! ### is -/
def isNon : D → Bool | .non => true | _ => false
theorem xe_isN (h : XE Z ta δ fun a δ1 => Φ (.bl (isNon a)) δ1) : XE Z (tOp GS.rIsX ta (tC .non)) δ Φ := XE.mk fun B W M H σ Q I q =>
  h.run I fun M1 H1 δ1 x a h1 e1 I1 at1 => And.intro rfl (by
    have : decide (x = V.non) = isNon a := by cases at1 <;> simp [isNon]
    rw [this]
    exact q M1 H1 δ1 _ _ h1 e1 I1 .bl)
theorem xe_notN (h : XE Z ta δ fun a δ1 => Φ (.bl (!isNon a)) δ1) : XE Z (tOp GS.rNotX ta (tC .non)) δ Φ := XE.mk fun B W M H σ Q I q =>
  h.run I fun M1 H1 δ1 x a h1 e1 I1 at1 => And.intro rfl (by
    have : decide (x = V.non) = isNon a := by cases at1 <;> simp [isNon]
    rw [this]
    exact q M1 H1 δ1 _ _ h1 e1 I1 .bl)
theorem xe_isB (h : XE Z ta δ fun a δ1 => XE Z tb δ1 fun b δ2 => ∃ i j, a = .bl i ∧ b = .bl j ∧ Φ (.bl (decide (i = j))) δ2) : XE Z (tOp GS.rIsB ta tb) δ Φ := XE.mk fun B W M H σ Q I q =>
  h.run I fun M1 H1 δ1 x a h1 e1 I1 at1 => XE.run h1 I1 fun M2 H2 δ2 y b h2 e2 I2 at2 => by
    obtain ⟨i, j, rfl, rfl, f⟩ := h2
    cases at1; cases at2
    exact ⟨i, j, rfl, rfl, q M2 H2 δ2 _ _ f (e1.tr e2) I2 .bl⟩
theorem xe_notB (h : XE Z ta δ fun a δ1 => XE Z tb δ1 fun b δ2 => ∃ i j, a = .bl i ∧ b = .bl j ∧ Φ (.bl (!decide (i = j))) δ2) : XE Z (tOp GS.rNotB ta tb) δ Φ := XE.mk fun B W M H σ Q I q =>
  h.run I fun M1 H1 δ1 x a h1 e1 I1 at1 => XE.run h1 I1 fun M2 H2 δ2 y b h2 e2 I2 at2 => by
    obtain ⟨i, j, rfl, rfl, f⟩ := h2
    cases at1; cases at2
    exact ⟨i, j, rfl, rfl, q M2 H2 δ2 _ _ f (e1.tr e2) I2 .bl⟩
/-! ### an own list that is lent -/
end
end G
set_option Elab.async false
set_option linter.all false
set_option maxRecDepth 100000
set_option maxHeartbeats 4000000
namespace GS
open PySem PySem.Spec PyProof.Rows L2
section
variable {X : Cx}
def trueS (b : Bool) : Str := if b then "True" else "False"
def rRepB : List V → Hp → VK → Prop := fun vs H Q => ∃ b, vs = [V.bl b] ∧ Q (.str (trueS b)) H
end
end GS
namespace G
open PySem L2
section
variable {Z : Wd} {δ : List S} {te ta tb : TE} {Φ : D → List S → Prop} {X : Cx}
theorem xe_repB (h : XE Z te δ fun a δ1 => ∃ b, a = .bl b ∧ Φ (.str (GS.trueS b)) δ1) : XE Z (tCB GS.rRepB (tCons te tNil)) δ Φ := XE.mk fun B W M H σ Q I q =>
  h.run I fun M1 H1 δ1 x a h1 e1 I1 at1 => by
    obtain ⟨b, rfl, f⟩ := h1
    cases at1
    exact ⟨b, rfl, q M1 H1 δ1 _ _ f e1 I1 .str⟩
/-! ### in, of data -/
/-! ### data that can be laid -/
def Lay (n : Nat) (d : D) : Prop := PyData.canLay0 (py d) = true ∧ (py d).depth ≤ n
theorem lay_all {n : Nat} : ∀ {xs : List D}, (∀ x ∈ xs, Lay n x) → PyData.canLayAll0 (pyL xs) = true ∧ PyData.depthAll (pyL xs) ≤ n
  | [], _ => ⟨rfl, Nat.zero_le _⟩
  | x :: xs, h => by
    have h1 := h x (by simp)
    have h2 := lay_all (xs := xs) fun y hy => h y (List.mem_cons_of_mem _ hy)
    refine ⟨?_, ?_⟩
    · show PyData.canLayAll0 (py x :: pyL xs) = true
      rw [PyData.canLayAll0.eq_2, h1.1, h2.1]; rfl
    · show PyData.depthAll (py x :: pyL xs) ≤ n
      rw [PyData.depthAll.eq_2]
      exact Nat.max_le.mpr ⟨h1.2, h2.2⟩
theorem lay_lst {n : Nat} {xs : List D} (h : ∀ x ∈ xs, Lay n x) : Lay (n + 1) (.lst xs) := by
  obtain ⟨a, b⟩ := lay_all h
  refine ⟨?_, ?_⟩
  · show PyData.canLay0 (PyData.list (pyL xs)) = true
    rw [PyData.canLay0.eq_5, a]
  · show (PyData.list (pyL xs)).depth ≤ n + 1
    unfold PyData.depth
    omega
theorem lay_str {n : Nat} {s : Str} (h : PyData.strOk s = true) : Lay n (.str s) := ⟨(PyData.canLay0.eq_4 s).trans h, by show (PyData.str s).depth ≤ n; unfold PyData.depth; omega⟩
theorem Lay.shaped {n : Nat} {d : D} (h : Lay n d) (k : n ≤ 64) : SeqAt.shaped (py d) = true := by
  show (PyData.canLay0 (py d) && decide ((py d).depth ≤ 64)) = true
  rw [h.1, decide_eq_true (Nat.le_trans h.2 k)]; rfl
end
end G
set_option Elab.async false
set_option linter.all false
set_option maxRecDepth 100000
set_option maxHeartbeats 4000000
/-! tuple[::-1], tuple + tuple -/
namespace G
open PySem L2
end G
set_option Elab.async false
set_option linter.all false
set_option maxRecDepth 100000
set_option maxHeartbeats 4000000
/-! slices of a list or a tuple; data of ints compared -/
namespace G
open PySem L2
/-! ints compared -/
end G
set_option Elab.async false
set_option linter.all false
set_option maxRecDepth 100000
set_option maxHeartbeats 4000000
/-! errors: raised, let through, caught -/
namespace GX
open PySem PySem.Spec PyProof.Rows L2
/-- an error's __init__ with one field -/
def spErr (K : PySem.W.Frag) (f : Str) : Sp := fun vs H Q _ => ∃ (a C : Addr) (v : V), vs = [.ref a, v] ∧ OexC K C ∧ PySem.W.findIn K (.ref C) f = some none ∧ H a = some (exo a C none) ∧
  ∀ d, H d = none → d ≠ a → Q .non (upd (upd H d (exd d [(f, v)])) a (exo a C (some d)))
def tRaiseO (C : Addr) (sp : Sp) (W : WX) (ta : TA) : TS := fun _ σ H => tMkO C sp [] ta σ H fun cls d H' => W cls d σ H'
section
variable {X : Cx} {CX : CXT} {k : Nat} {C fI : Addr} {fd : FuncData} {ps : List Str} {sp : Sp} {x : Str} {p pos pos2 : Pos} {e : Expr} {es : List Expr} {t : TA} {W : WX}
theorem ps_raiseO (hc : X.calm = true) (tk : Takes X W) (o : OexC X.K C) (i1 : PySem.W.findIn X.K (.ref C) "__init__" = some (some (.ref fI))) (i2 : PySem.W.typeIn X.K (.ref fI) = some (.type "function")) (F : FnOk X.prog X.w X.K X.mg X.base CX0 k fI fd ps sp) (hr : Room (k + 1) X.A)
    (b : Binds X.K fd ps []) (hg : Gl X x) (hm : X.mg x = some (.ref C)) (ha : PA X (e :: es) t) (hdb : (x == ("__debug__" : Str)) = false := by decide)
    (he : starEach (e :: es) X.env = (false, eval e X.env) :: starEach es X.env := by rfl) (hpl : (backTo pos (starEach es X.env)).any (·.1) = false := by rfl) :
    PS X (.Raise (some (.Call (.Name x p) (e :: es) [] pos)) none pos2) (tRaiseO C sp W t) :=
  ps_raise hc tk (pmk_oex o i1 i2 F hr b .nil pass0 hg hm ha hdb he hpl)
/-! a new instance whose __init__ may raise, wished for at the slots -/
def tMakeSD (C : Addr) (sp : Sp) (dvs : List V) (E : L2.St → XK) (t : TA) : TE := fun σ H Q => t σ H fun vs H1 => ∀ x dx, H1 x = none → H1 dx = none → dx ≠ x →
  sp (.ref x :: (vs ++ dvs)) (upd (upd H1 dx (.own x)) x (.ins C dx [])) (fun v H2 => v = .non ∧ Q (.ref x) H2) (E σ)
variable {dvs : List V} {ds : List Value} {E : L2.St → XK} {f : Addr}
theorem made_at {pins : List (Addr × Obj)} {σ : L2.St} {H : Hp} {s : Shared} {Q : VK} {us : List Value} {vs : List V} (MK : Mk X.K C f) (F : FnOk X.prog X.w X.K X.mg X.base CX k f fd ps sp) (room : Room (k + 1) X.A) (bi : Binds X.K fd ps ds) (dv : Vals dvs ds)
    (let_out : PassesAt CX X σ (E σ)) (J : Inv X pins σ H s) (rel : Vals vs us)
    (go : ∀ x dx, H x = none → H dx = none → dx ≠ x → sp (.ref x :: (vs ++ dvs)) (upd (upd H dx (.own x)) x (.ins C dx [])) (fun v H2 => v = .non ∧ Q (.ref x) H2) (E σ)) :
    wpAny (model X.prog X.w) X.A (call (.ref C) us) (EP X pins σ Q) X.xe s := by
  let n := s.heap.objs.size
  have promise := go (n + 1) n (J.hok.fresh (Nat.le_succ _)) (J.hok.fresh (Nat.le_refl _)) (Nat.ne_of_lt (Nat.lt_succ_self _))
  have J2 := Inv.made (C := C) J
  have rel2 : Vals (V.ref (n + 1) :: (vs ++ dvs)) (Value.ref (n + 1) :: (us ++ ds)) := .cons rfl (rel.append dv)
  have len2 : (Value.ref (n + 1) :: us ++ ds).length = ps.length := ((rel2.length).symm.trans (F.len _ _ _ _ promise))
  have body := F.run _ X.stack _ _ ⟨Value.ref (n + 1) :: us, []⟩ (Value.ref (n + 1) :: (us ++ ds)) _ _ (E σ) (room.make C us []) (J2.env0.make C us []) (bi _ (Value.ref (n + 1) :: us) J2.kIn len2) rel2 promise
  refine wpAny_call (make_map (f := f) J.kIn MK.makes MK.init (beq_iff_eq.mp MK.fn) (codeAny_mono body fun res s2 out => ?_))
  match res, out with
  | .error er, out => exact let_out pins _ _ er s2 J2 out
  | .ok (.ret u), out =>
    obtain ⟨v, H3, J3, rv, ev, fin⟩ := J2.after out
    cases ev
    exact ⟨rv, ⟨V.ref (n + 1), H3, J3, rfl, fin⟩⟩
  | .ok .next, out => exact out.elim
  | .ok .brk, out => exact out.elim
  | .ok .cont, out => exact out.elim
theorem pe_makeSD (MK : Mk X.K C f) (F : FnOk X.prog X.w X.K X.mg X.base CX k f fd ps sp) (room : Room (k + 1) X.A) (hg : Gl X x) (hm : X.mg x = some (.ref C)) (bi : Binds X.K fd ps ds) (dv : Vals dvs ds) (let_out : ∀ σ, PassesAt CX X σ (E σ)) (ha : PA X (e :: es) t)
    (hdb : (x == ("__debug__" : Str)) = false := by decide) (he : starEach (e :: es) X.env = (false, eval e X.env) :: starEach es X.env := by rfl) (hpl : (backTo pos (starEach es X.env)).any (·.1) = false := by rfl) :
    PE X (.Call (.Name x p) (e :: es) [] pos) (tMakeSD C sp dvs E t) :=
  ⟨fun pins s σ H Q J h => wpAny_Call_Name_kw (ld_glob J hg hm (PySem.W.callWith_K (h₀ := X.base) J.ok.mod.kin MK.kp (thn (ha.run pos pins s σ H _ J h) fun _ _ ⟨_, _, J1, rel, q⟩ => ⟨J1.kIn, made_at MK F room bi dv (let_out σ) J1 rel q⟩) he hpl) hdb)⟩
/-! isinstance(e, c), e the error that the suite holds, with its own dict -/
end
end GX
namespace G
open PySem L2
section
variable {Z : Wd} {M H M' H' : Hp} {B : Bas} {W : List (Nat × Addr)} {σ : St} {δ : List S}
variable {te ta tb : TE} {Φ : D → List S → Prop} {Ψ : S → List S → Prop} {Ω : OD → List S → Prop} {Λ : List D → List S → Prop} {ts : TA} {bs : List Nat} {P : Po}
abbrev XX := Bas → List (Nat × Addr) → Hp → Prop
/-- the wish of an error of the class number c with the datum x is granted -/
def XW (Z : Wd) (Wx : WX) (X : XX) (c : Nat) (x : D) (δ : List S) : Prop :=
  ∀ B W M H σ d v, X B W M → I3 Z B W M H σ δ → M d = some (.xd [((Z.er c).2, v)]) → At Z M v x → Wx (.ref (Z.er c).1) (some d) σ H
theorem xs_raise {c : Nat} {Wx : WX} (o : OexC Z.K (Z.er c).1) (n : PySem.W.findIn Z.K (.ref (Z.er c).1) (Z.er c).2 = some none) (h : XE Z te δ fun x δ' => XW Z Wx P.X c x δ') :
    XS Z bs (GX.tRaiseO (Z.er c).1 (GX.spErr Z.K (Z.er c).2) Wx (tCons te tNil)) δ P := fun B W M H σ E hb I e => by
  refine h.run I fun M1 H1 δ1 v x h1 e1 I1 at1 => ?_
  refine ⟨by simp, fun a ha => ⟨a, (Z.er c).1, v, rfl, o, n, upd_same, fun d hd hda => ⟨rfl, d, _, upd_same, by rw [upd_ne hda, upd_same], by rwa [upd_ne hda] at hd, ?_⟩⟩⟩
  have hd1 : H1 d = none := by rwa [upd_ne hda] at hd
  have eq : upd (L2.del (upd (upd (upd H1 a (exo a (Z.er c).1 none)) d (exd d [((Z.er c).2, v)])) a (exo a (Z.er c).1 (some d))) a) d (.xd [((Z.er c).2, v)]) = upd H1 d (.xd [((Z.er c).2, v)]) := by
    funext b
    by_cases z : b = d
    · subst z; rw [upd_same, upd_same]
    · rw [upd_ne z, upd_ne z]
      by_cases y : b = a
      · subst y; rw [del_same, ha]
      · rw [del_ne y, upd_ne y, upd_ne z, upd_ne y]
  show Wx (.ref (Z.er c).1) (some d) σ (upd (L2.del _ a) d (.xd _))
  rw [eq]
  have hm : M1 d = none := I1.ex.free hd1
  exact h1 B W _ _ σ d v (e.xc _ (e1.tr (Ex.new hm))) (I1.grow hd1) upd_same (at1.mono (Ex.new hm))
/-! ### contracts of defs that may raise -/
abbrev FRX := List D → (S → Prop) → (Nat → D → Prop) → Prop
abbrev FBX := OD → List D → (S → OD → Prop) → (Nat → D → OD → Prop) → Prop
def spRX (Z : Wd) (F : FRX) : Sp := fun vs H Q E => ∃ M ds Φ Ξ, Ex M H ∧ AtL Z M vs ds ∧ F ds Φ Ξ ∧
  (∀ M' H' v s, Φ s → Ex M M' → Ex M' H' → Ex H H' → (∀ p o, H p = some o → M p = none → NT o → M' p = none) → RetOk Z ⟨H, M⟩ M' H' v s → Q v H') ∧
  ∀ M' H' c d v x, Ξ c x → Ex M M' → Ex M' H' → Ex H H' → (∀ p o, H p = some o → M p = none → NT o → M' p = none) → M' d = some (.xd [((Z.er c).2, v)]) → At Z M' v x → E (.ref (Z.er c).1) (some d) H'
def spBX (Z : Wd) (F : FBX) : Sp := fun vs H Q E => ∃ M p ws ho y ds Φ Ξ, vs = .ref p :: ws ∧ H p = some ho ∧ M p = none ∧ ODAt Z M ho y ∧ Ex M H ∧ AtL Z M ws ds ∧ F y ds Φ Ξ ∧
  (∀ M' H' v s ho' y', Φ s y' → Ex M M' → Ex M' H' → (∀ a o, a ≠ p → H a = some o → H' a = some o) → (∀ p o, H p = some o → M p = none → NT o → M' p = none) → H' p = some ho' → ODAt Z M' ho' y' → RetOk Z ⟨H, M⟩ M' H' v s → Q v H') ∧
  ∀ M' H' c d v x ho' y', Ξ c x y' → Ex M M' → Ex M' H' → (∀ a o, a ≠ p → H a = some o → H' a = some o) → (∀ p o, H p = some o → M p = none → NT o → M' p = none) → H' p = some ho' → ODAt Z M' ho' y' → M' d = some (.xd [((Z.er c).2, v)]) → At Z M' v x → E (.ref (Z.er c).1) (some d) H'
/-- an expression that may raise -/
def XRX (Z : Wd) (X : XX) (te : TE) (δ : List S) (Ψ : S → List S → Prop) : Prop :=
  ∀ B W M H σ (Q : VK), I3 Z B W M H σ δ → (∀ M', Ex M M' → X B W M') → (∀ M' H' δ' v s, Ψ s δ' → Ex M M' → I3 Z B W M' H' σ δ' → ResOk Z B M' H' σ δ' v s → Q v H') → te σ H Q
theorem xrx_call {F : FRX} {dvs : List V} {dds : List D} {Wx : WX} {X : XX} (hd : ∀ M : Hp, AtL Z M dvs dds) (h : XA Z ts δ fun ds δ1 => F (ds ++ dds) (fun s => Ψ s δ1) fun c x => XW Z Wx X c x δ1) : XRX Z X (tCallSD (spRX Z F) dvs (WE Wx) ts) δ Ψ := fun B W M H σ Q I hX q =>
  h B W M H σ _ I fun M1 H1 δ1 vs ds h1 e1 I1 al =>
    ⟨M1, ds ++ dds, _, _, I1.ex, al.app (hd M1), h1, fun M' H' v s f a1 a2 a3 a4 r => q M' H' δ1 v s f (e1.tr a1) (I1.after a1 a2 a3 a4) (ret_res I1 (fun _ _ o => o) r),
      fun M' H' c d v x f a1 a2 a3 a4 hd av => f B W M' H' σ d v (hX _ (e1.tr a1)) (I1.after a1 a2 a3 a4) hd av⟩
theorem xrx_make {F : FBX} {dvs : List V} {dds : List D} {Wx : WX} {X : XX} {C : Addr} {c : Nat} (hC : (Z.cl c).C = C) (hd : ∀ M : Hp, AtL Z M dvs dds)
    (h : XA Z ts δ fun ds δ1 => F (.ins c []) (ds ++ dds) (fun s y => s = .d .non ∧ ∃ gs, y = .ins c gs ∧ gs.map (·.1) = (Z.cl c).fs ∧ Φ (.obj c (gs.map (·.2))) δ1) fun n x _ => XW Z Wx X n x δ1) : XRX Z X (GX.tMakeSD C (spBX Z F) dvs (WE Wx) ts) δ (onD Φ) := fun B W M H σ Q I hX q =>
  h B W M H σ _ I fun M1 H1 δ1 vs ds h1 e1 I1 al x dx hx hdx hne => by
    subst hC
    have hm := I1.ex.free hx
    have hmd := I1.ex.free hdx
    have ex2 : Ex H1 (upd (upd H1 dx (.own x)) x (.ins (Z.cl c).C dx [])) := fun b o e => by
      rw [upd_ne (ne_of_none e hx), upd_ne (ne_of_none e hdx)]; exact e
    refine ⟨M1, x, vs ++ dvs, _, .ins c [], ds ++ dds, _, _, rfl, upd_same, hm, ⟨rfl, rfl, .nil⟩, I1.ex.tr ex2, al.app (hd M1), h1, fun M' H' v s ho2 y2 g a1 a2 a3 a4 a5 a6 r => ?_, fun M' H' n d v z ho2 y2 g a1 a2 a3 a4 a5 a6 hd av => ?_⟩
    · obtain ⟨rfl, gs, rfl, hf, f⟩ := g
      have rv : At Z M' v .non := r
      cases rv
      refine ⟨rfl, ?_⟩
      obtain ⟨dx2, fs2, rfl, k1, k2⟩ := a6.insI
      have hm2 : M' x = none := a4 x _ upd_same hm (fun _ e => nomatch e)
      have keep : Ex H1 H' := fun b o e => a3 b o (ne_of_none e hx) (ex2 b o e)
      have I2 : I3 Z B W M' H' σ δ1 := I1.after a1 a2 keep fun p o e n => a4 p o (ex2 p o e) n
      have I3' := I2.hold a5 hm2 (I1.fresh hx) (I1.newOwn hx)
      refine q _ H' δ1 _ (.d _) f (e1.tr (a1.tr (Ex.new hm2))) I3' ?_
      have hz : fs2 = (Z.cl c).fs.zip (fs2.map (·.2)) := by
        rw [← hf, ← k1]
        clear a5 a6 k1 k2 I3' f
        induction fs2 with
        | nil => rfl
        | cons a l ih => simp only [List.map_cons, List.zip_cons_cons]; rw [← ih]
      have hlen : (fs2.map (·.2)).length = (Z.cl c).fs.length := by rw [← hf, ← k1]; simp
      refine At.obj (dx := dx2) (vs := fs2.map (·.2)) (by rw [upd_same, ← hz]) hlen k2.len (k2.mono (Ex.new hm2)).at'
    · have keep : Ex H1 H' := fun b o e => a3 b o (ne_of_none e hx) (ex2 b o e)
      have I2 : I3 Z B W M' H' σ δ1 := I1.after a1 a2 keep fun p o e n => a4 p o (ex2 p o e) n
      exact g B W M' H' σ d v (hX _ (e1.tr a1)) I2 hd av
theorem xs_setX {i : Nat} (hi : i ∉ bs) (h : XRX Z P.X te δ (onD fun d δ' => P.N (δ'.set i (.d d)))) : XS Z bs (tAsg te (gName i)) δ P := fun B W M H σ E hb I e =>
  h B W M H σ _ I e.xc fun M' H' δ' v s h1 e1 I1 r => by
    cases s with
    | d x => exact e.nx _ _ _ _ h1 e1 (I1.put (not_bor hb hi) (hol_d _) (slotD r))
    | _ => exact h1.elim
theorem xs_dropX (h : XRX Z P.X te δ (onD fun _ δ' => P.N δ')) : XS Z bs (tDrop te) δ P := fun B W M H σ E hb I e =>
  h B W M H σ _ I e.xc fun M' H' δ' v s h1 e1 I1 r => by
    cases s with
    | d x => exact e.nx _ _ _ _ h1 e1 I1
    | _ => exact h1.elim
theorem xs_retX (h : XRX Z P.X te δ (onD fun d δ' => P.R (.d d) δ')) : XS Z bs (tRet te) δ P := fun B W M H σ E hb I e =>
  h B W M H σ _ I e.xc fun M' H' δ' v s h1 e1 I1 r => by
    cases s with
    | d x => exact e.rt M' H' σ δ' v (.d x) h1 e1 I1 r
    | _ => exact h1.elim
/-! ### a def's body that may raise -/
def XR0 (H M : Hp) : XX := fun B W M' => B = ⟨H, M⟩ ∧ W = [] ∧ Ex M M'
def XB0 (H M : Hp) (p : Addr) : XX := fun B W M' => B = ⟨H, M⟩ ∧ W = [(0, p)] ∧ Ex M M'
theorem xw_R {E : XK} {Ξ : Nat → D → Prop} (qx : ∀ M' H' c d v x, Ξ c x → Ex M M' → Ex M' H' → Ex H H' → (∀ p o, H p = some o → M p = none → NT o → M' p = none) → M' d = some (.xd [((Z.er c).2, v)]) → At Z M' v x → E (.ref (Z.er c).1) (some d) H') {c : Nat} {x : D} (h : Ξ c x) :
    XW Z (fun cls d _ H' => E cls d H') (XR0 H M) c x δ := fun B W M' H' σ d v ⟨b, w, ex⟩ I hd a => by
  subst b; subst w
  exact qx M' H' c d v x h ex I.ex (fun a o e => I.keep a o e (by simp)) I.mg hd a
theorem xw_B {E : XK} {p : Addr} {y' : OD} {Ξ : Nat → D → OD → Prop} (qx : ∀ M' H' c d v x ho' y', Ξ c x y' → Ex M M' → Ex M' H' → (∀ a o, a ≠ p → H a = some o → H' a = some o) → (∀ p o, H p = some o → M p = none → NT o → M' p = none) → H' p = some ho' → ODAt Z M' ho' y' → M' d = some (.xd [((Z.er c).2, v)]) → At Z M' v x → E (.ref (Z.er c).1) (some d) H') {c : Nat} {x : D} (hy : δ[0]? = some (.own y')) (h : Ξ c x y') :
    XW Z (fun cls d _ H' => E cls d H') (XB0 H M p) c x δ := fun B W M' H' σ d v ⟨b, w, ex⟩ I hd a => by
  subst b; subst w
  have hO := I.bor 0 p List.mem_cons_self
  obtain ⟨ho', h2, h3, _⟩ := I.ownO hO hy
  exact qx M' H' c d v x ho' y' h ex I.ex (fun a o hne e => I.keep a o e fun i hi => by
    have := List.mem_singleton.mp hi
    cases this; exact hne rfl) I.mg h2 h3 hd a
theorem entRX {ts : TS} {N : List Str} {vs : List V} {Q : VK} {n : Nat} {ds : List D} {Φ : S → Prop} (ex : Ex M H) (al : AtL Z M vs ds) (hn : N.length = ds.length + n)
    (q : ∀ M' H' v s, Φ s → Ex M M' → Ex M' H' → Ex H H' → (∀ p o, H p = some o → M p = none → NT o → M' p = none) → RetOk Z ⟨H, M⟩ M' H' v s → Q v H')
    (hx : XS Z [] ts (ds.map .d ++ List.replicate n .no) { N := fun _ => Φ (.d .non), R := fun s _ => Φ s, X := XR0 H M }) : ts { nx := fun _ H' => Q .non H', rt := Q } (L2.start N vs) H := by
  have hlen := al.len
  have noOwn : ∀ i p, ¬ Own (L2.start N vs) (ds.map S.d ++ List.replicate n S.no) i p := fun i p => Own.plain
  have I : I3 Z ⟨H, M⟩ [] M H (L2.start N vs) (ds.map S.d ++ List.replicate n S.no) := by
    refine ⟨ex, fun _ _ _ e _ => e, fun _ _ e _ => e, ?_, fun i s e => ?_, fun i p w => by simp at w, fun i p o => absurd o (noOwn i p), fun i j p o => absurd o (noOwn i p)⟩
    · unfold L2.start; simp; omega
    · by_cases hi : i < ds.length
      · rw [List.getElem?_append_left (by simp [hi]), List.getElem?_map] at e
        cases e1 : ds[i]? with
        | none => rw [e1] at e; cases e
        | some d =>
          rw [e1] at e; cases e
          obtain ⟨v, e2, a⟩ := al.get e1
          refine ⟨some v, ?_, v, rfl, a⟩
          unfold L2.start
          rw [List.getElem?_append_left (by simp; omega), List.getElem?_map, e2]; rfl
      · rw [List.getElem?_append_right (by simp; omega), List.getElem?_replicate] at e
        split at e
        · rename_i h1
          cases e
          refine ⟨none, ?_, trivial⟩
          unfold L2.start
          rw [List.getElem?_append_right (by simp; omega), List.getElem?_replicate, if_pos (by simp at h1 ⊢; omega)]
        · cases e
  have fin : ∀ M' H' σ' δ', I3 Z ⟨H, M⟩ [] M' H' σ' δ' → Ex H H' := fun M' H' σ' δ' J a o e => J.keep a o e fun i hi => by simp at hi
  refine hx ⟨H, M⟩ [] M H _ _ rfl I ⟨fun M' H' σ' δ' p e J => q M' H' .non (.d .non) p e J.ex (fin _ _ _ _ J) J.mg .non, fun M' H' σ' δ' v s p e J r => q M' H' v s p e J.ex (fin _ _ _ _ J) J.mg r, fun _ _ _ _ f => f.elim, fun _ _ _ _ f => f.elim, fun M2 x => ⟨rfl, rfl, x⟩⟩
theorem entBX {ts : TS} {N : List Str} {ws : List V} {p : Addr} {ho : HO} {y : OD} {Q : VK} {n : Nat} {ds : List D} {Φ : S → OD → Prop} (hp : H p = some ho) (hm : M p = none) (hy : ODAt Z M ho y) (ex : Ex M H) (al : AtL Z M ws ds) (hn : N.length = ds.length + 1 + n)
    (q : ∀ M' H' v s ho' y', Φ s y' → Ex M M' → Ex M' H' → (∀ a o, a ≠ p → H a = some o → H' a = some o) → (∀ p o, H p = some o → M p = none → NT o → M' p = none) → H' p = some ho' → ODAt Z M' ho' y' → RetOk Z ⟨H, M⟩ M' H' v s → Q v H')
    (hx : XS Z [0] ts (.own y :: (ds.map .d ++ List.replicate n .no)) { N := fun δ' => ∃ y', δ'[0]? = some (.own y') ∧ Φ (.d .non) y', R := fun s δ' => ∃ y', δ'[0]? = some (.own y') ∧ Φ s y', X := XB0 H M p }) : ts { nx := fun _ H' => Q .non H', rt := Q } (L2.start N (.ref p :: ws)) H := by
  have hlen := al.len
  have only : ∀ i q, Own (L2.start N (V.ref p :: ws)) (S.own y :: (ds.map S.d ++ List.replicate n S.no)) i q → i = 0 ∧ q = p := fun i q o => by
    obtain ⟨r, y', e0, e, c⟩ := o
    cases i with
    | zero =>
      have : some (some (V.ref p)) = some (some (V.ref r)) := e0
      cases this
      cases e; exact ⟨rfl, c⟩
    | succ i =>
      rw [List.getElem?_cons_succ] at e
      exact (plain_no e _ _ c).elim
  have I : I3 Z ⟨H, M⟩ [(0, p)] M H (L2.start N (V.ref p :: ws)) (S.own y :: (ds.map S.d ++ List.replicate n S.no)) := by
    refine ⟨ex, fun _ _ _ e _ => e, fun _ _ e _ => e, ?_, fun i s e => ?_, fun i q w => ?_, fun i q o => ?_, fun i j q o o' => ?_⟩
    · unfold L2.start; simp; omega
    · cases i with
      | zero => cases e; exact ⟨some (.ref p), rfl, p, ho, rfl, hp, hy, hm⟩
      | succ i =>
        rw [List.getElem?_cons_succ] at e
        have es : (L2.start N (V.ref p :: ws))[i + 1]? = (ws.map some ++ List.replicate n (none : Option V))[i]? := by
          unfold L2.start
          have : N.length - (V.ref p :: ws).length = n := by simp; omega
          rw [this]; rfl
        rw [es]
        by_cases hi : i < ds.length
        · rw [List.getElem?_append_left (by simp [hi]), List.getElem?_map] at e
          cases e1 : ds[i]? with
          | none => rw [e1] at e; cases e
          | some d =>
            rw [e1] at e; cases e
            obtain ⟨v, e2, a⟩ := al.get e1
            refine ⟨some v, ?_, v, rfl, a⟩
            rw [List.getElem?_append_left (by simp; omega), List.getElem?_map, e2]; rfl
        · rw [List.getElem?_append_right (by simp; omega), List.getElem?_replicate] at e
          split at e
          · rename_i h1
            cases e
            refine ⟨none, ?_, trivial⟩
            rw [List.getElem?_append_right (by simp; omega), List.getElem?_replicate, if_pos (by simp at h1 ⊢; omega)]
          · cases e
    · have := List.mem_singleton.mp w
      cases this
      exact Own.mk rfl rfl
    · obtain ⟨rfl, rfl⟩ := only i q o
      exact .inl List.mem_cons_self
    · rw [(only i q o).1, (only j q o').1]
  have fin : ∀ M' H' σ' δ' y', I3 Z ⟨H, M⟩ [(0, p)] M' H' σ' δ' → δ'[0]? = some (.own y') → (∀ a o, a ≠ p → H a = some o → H' a = some o) ∧ ∃ ho', H' p = some ho' ∧ ODAt Z M' ho' y' := fun M' H' σ' δ' y' J e => by
    refine ⟨fun a o hne e => J.keep a o e fun i hi => ?_, ?_⟩
    · have := List.mem_singleton.mp hi
      cases this; exact hne rfl
    · have hO := J.bor 0 p List.mem_cons_self
      obtain ⟨ho', h2, h3, _⟩ := J.ownO hO e
      exact ⟨ho', h2, h3⟩
  refine hx ⟨H, M⟩ [(0, p)] M H _ _ rfl I ⟨fun M' H' σ' δ' f e J => ?_, fun M' H' σ' δ' v s f e J r => ?_, fun _ _ _ _ f => f.elim, fun _ _ _ _ f => f.elim, fun M2 x => ⟨rfl, rfl, x⟩⟩
  · obtain ⟨y', hy', f⟩ := f
    obtain ⟨k1, ho', k2, k3⟩ := fin _ _ _ _ _ J hy'
    exact q M' H' .non (.d .non) ho' y' f e J.ex k1 J.mg k2 k3 .non
  · obtain ⟨y', hy', f⟩ := f
    obtain ⟨k1, ho', k2, k3⟩ := fin _ _ _ _ _ J hy'
    exact q M' H' v s ho' y' f e J.ex k1 J.mg k2 k3 r
/-! ### try: .. except C as n: .. -/
/-- what the suite is in, behind a caught error -/
def caught (P : Po) (i : Nat) : Po := { N := fun δ => P.N (δ.set i .no), R := P.R, B := fun δ => P.B (δ.set i .no), C := fun δ => P.C (δ.set i .no) }
theorem xw_as {c : Nat} {i : Nat} {cc : Value} {tu : Addr → Value → Option Addr → TS} {Wout : WX} {D : Ends} {x : G.D} (em : PySem.W.exmOne Z.K (.ref (Z.er c).1) cc = some true) (hi : i ∉ bs)
    (h : ∀ a dd, XS Z bs (tu a (.ref (Z.er c).1) (some dd)) (δ.set i (.d (.exc a dd (Z.er c).2 x))) (caught P i)) : XW Z (wAs Z.K cc i tu Wout D) (fun B W M => W.map (·.1) = bs ∧ EndsOk Z B W M P D) c x δ := fun B W M H σ d v ⟨hb, e⟩ I hd a => by
  refine ⟨true, em, fun _ p hp => ?_, nofun⟩
  have nb := not_bor hb hi
  have put : ∀ {M' H' σ' δ'}, I3 Z B W M' H' σ' δ' → I3 Z B W M' H' (σ'.set i none) (δ'.set i .no) := fun I' => I'.put nb hol_no trivial
  exact h p d B W M H _ _ hb (I.put nb (hol_d _) (slotD (At.exc hd a))) ⟨fun _ _ _ _ q x I' => e.nx _ _ _ _ q x (put I'), fun _ _ _ _ _ _ q x I' r => e.rt _ _ _ _ _ _ q x I' r, fun _ _ _ _ q x I' => e.bk _ _ _ _ q x (put I'), fun _ _ _ _ q x I' => e.ct _ _ _ _ q x (put I'), fun _ _ => trivial⟩
/-- e.f in the suite -/
theorem xe_xf {a : Addr} {C : Addr} {dd : Addr} {f : Str} (h : XE Z te δ fun y δ1 => ∃ x, y = .exc a dd f x ∧ Φ x δ1) : XE Z (tXf a (.ref C) (some dd) C f te) δ Φ := XE.mk fun B W M H σ Q I q =>
  h.run I fun M1 H1 δ1 v y h1 e1 I1 at1 => by
    obtain ⟨x, rfl, g⟩ := h1
    cases at1 with
    | exc hd a => exact ⟨rfl, rfl, dd, _, _, rfl, I1.ex _ _ hd, by simp [List.lookup], q M1 H1 δ1 _ _ g e1 I1 a⟩
end
end G
set_option Elab.async false
set_option linter.all false
set_option maxRecDepth 100000
set_option maxHeartbeats 4000000
/-! in, not in: signs, data in tuples; lists of data compared with none -/
namespace GX
open PySem PySem.Spec PyProof.Rows L2
theorem kit_ref {K : PySem.W.Frag} {C L : Addr} {b : Bool} (h1 : PySem.W.isClsIn K L = true) (h2 : PySem.W.typeIn K (.ref L) = some (.type "type")) (h3 : PySem.W.subIn K (.ref C) (.ref L) = some b) (h4 : PySem.W.subIn K (.ref C) (.ref C) = some true) : PySem.W.kitOne K (.ref C) (.ref L) = some b := by
  have h1' : (PySem.W.clsIn K L).isSome = true := h1
  unfold PySem.W.kitOne
  by_cases e : C = L
  · subst e
    rw [h3] at h4
    cases h4
    simp
  · rw [if_neg (by simpa using e)]
    unfold PySem.W.kitCls
    simp [h1', h2, h3]
/-- try: .. except c as n: .. -/
def tTry (K : PySem.W.Frag) (c : Value) (i : Nat) (tb : WX → TS) (tu : Addr → Value → Option Addr → TS) (Wout : WX) : TS := fun D σ H => tb (wAs K c i tu Wout D) D σ H
theorem ps_tryT {X : Cx} {x n : Str} {c : Value} {i : Nat} {body suite : List Stmt} {b₀ : Stmt} {np pos pos' : Pos} {tb : WX → TS} {tu : Addr → Value → Option Addr → TS} {Wout : WX} (hs : X.stack = X.env :: X.outer) (hf : X.env.frame = some X.env.locals) (hN : X.N.Nodup) (hi : X.N[i]? = some n) (hl : X.env.kindOf n = some .local) (hc : Names X x c) (tk : Takes X Wout)
    (b : ∀ (W : WX) (pn : List (Addr × Obj)) (xe : Value → Shared → Prop), Takes (X.tr pn xe) W → PassesOwn (model X.prog X.w) X.A X.env xe → PSs (X.tr pn xe) body (tb W))
    (u : ∀ (a : Addr) (oe : Obj) (cls : Value) (d : Option Addr) (pn : List (Addr × Obj)), Zc cls d oe → (∃ vs, oe.data = .fields vs) → PSs (X.suite a ((a, oe) :: pn)) (b₀ :: suite) (tu a cls d)) :
    PS X (.Try body [.ExceptHandler (some (.Name x np)) (some n) (b₀ :: suite) pos'] [] [] pos) (tTry X.K c i tb tu Wout) := ps_try_as hs hf hN hi hl hc tk b u
end GX
namespace G
open PySem L2
section
variable {Z : Wd} {δ : List S} {ta tb te : TE} {Φ : D → List S → Prop}
theorem xe_ninS (h : XE Z ta δ fun a δ1 => XE Z tb δ1 fun b δ2 => ∃ c z, a = .str ⟨#[c]⟩ ∧ b = .str z ∧ Φ (.bl (!decide (c ∈ z.cps.toList))) δ2) : XE Z (tOp (fun x y H Q => ∃ (c : Nat) (z : Str), x = .str ⟨#[c]⟩ ∧ y = .str z ∧ Q (.bl (!decide (c ∈ z.cps.toList))) H) ta tb) δ Φ := XE.mk fun B W M H σ Q I q =>
  h.run I fun M1 H1 δ1 x a h1 e1 I1 at1 => XE.run h1 I1 fun M2 H2 δ2 y b h2 e2 I2 at2 => by
    obtain ⟨c, z, rfl, rfl, f⟩ := h2
    cases at1; cases at2
    exact ⟨c, z, rfl, rfl, q M2 H2 δ2 _ _ f (e1.tr e2) I2 .bl⟩
end
theorem xs_tryT {bs : List Nat} {P : Po} {i : Nat} {cc : Value} {tb : WX → TS} {tu : Addr → Value → Option Addr → TS} {Wout : WX} {Z : Wd} {δ : List S} (h : ∀ D : Ends, XS Z bs (tb (wAs Z.K cc i tu Wout D)) δ { P with X := fun B W M => W.map (·.1) = bs ∧ EndsOk Z B W M P D }) :
    XS Z bs (GX.tTry Z.K cc i tb tu Wout) δ P := fun B W M H σ E hb I e => h E B W M H σ E hb I ⟨e.nx, e.rt, e.bk, e.ct, fun M' x => ⟨hb, e.mono x⟩⟩
theorem eqv_nil (xs : List D) : PyData.eqv (py (.lst xs)) (py (.lst [])) = xs.isEmpty := by
  cases xs with
  | nil => exact (eqv_lst [] []).trans (decide_eq_true rfl)
  | cons x xs => rfl
end G
set_option Elab.async false
set_option linter.all false
set_option maxRecDepth 100000
set_option maxHeartbeats 4000000
/-! isinstance of anything; repr of ints, of None -/
namespace GX
open PySem PySem.Spec PyProof.Rows L2
theorem kit_tyref {K : PySem.W.Frag} {L : Addr} {n : String} {b : Bool} (h1 : PySem.W.isClsIn K L = true) (h2 : PySem.W.typeIn K (.ref L) = some (.type "type")) (h3 : PySem.W.subIn K (.type n) (.ref L) = some b) : PySem.W.kitOne K (.type n) (.ref L) = some b := by
  have h1' : (PySem.W.clsIn K L).isSome = true := h1
  unfold PySem.W.kitOne
  rw [if_neg (by simp)]
  unfold PySem.W.kitCls
  simp [h1', h2, h3]
theorem kit_refty {K : PySem.W.Frag} {C : Addr} {n : String} {b : Bool} (hm : PySem.W.kitMeta n = true) (h3 : PySem.W.subIn K (.ref C) (.type n) = some b) : PySem.W.kitOne K (.ref C) (.type n) = some b := by
  unfold PySem.W.kitOne
  rw [if_neg (by simp)]
  unfold PySem.W.kitCls
  simp [hm, h3]
section
variable {X : Cx}
/-- repr of an int, of None -/
def rRepI : List V → Hp → VK → Prop := fun vs H Q => (∃ i : Int, vs = [.int i] ∧ i.natAbs.log2 < 1920 ∧ Q (.str (toString i)) H) ∨ (vs = [.non] ∧ Q (.str "None") H)
theorem cr_repI : CallR X (.builtin "repr") rRepI := fun pins s σ H vs us Q I r h => by
  rcases h with ⟨i, e, hz, q⟩ | ⟨e, q⟩
  · exact SkE.call_repr_int pins s σ H vs us Q I r ⟨i, e, hz, q⟩
  · subst e
    match us, r with
    | [_], .cons ra .nil =>
      cases ra
      exact PySem.P.repr_of_none ⟨.str _, H, I.tok _, ⟨_, rfl⟩, q⟩
/-- a def that may raise, called where it does not -/
theorem calm {P : Program} {w : World} {K : PySem.W.Frag} {mg : Str → Option Value} {base : Heap} {k : Nat} {f : Addr} {fd : FuncData} {ps : List Str} {sp sp0 : Sp} (F : FnOk P w K mg base (L2.CX P w) k f fd ps sp) (h : ∀ vs H Q E, sp0 vs H Q E → sp vs H Q fun _ _ _ => False) : FnOk P w K mg base CX0 k f fd ps sp0 :=
  ⟨fun vs H Q E x => F.len _ _ _ _ (h vs H Q E x), fun A outer s H args us vs Q E hr e0 hb r hsp => codeAny_mono (F.run A outer s H args us vs Q _ hr e0 hb r (h _ _ _ _ hsp)) fun res s' c => by
    match res, c with
    | .ok (.ret u), c => exact c
    | .ok .next, c => exact c
    | .ok .brk, c => exact c
    | .ok .cont, c => exact c
    | .error e, c =>
      obtain ⟨_, _, _, _, _, _, _, _, _, _, _, _, z⟩ := c
      exact z.elim⟩
end
end GX
namespace G
open PySem L2
section
variable {P : Program} {w : World} {K : PySem.W.Frag} {mg : Str → Option Value} {base : Heap} {k : Nat} {f : Addr} {fd : FuncData} {ps : List Str} {Z : Wd}
theorem calmR {F : FRX} {F0 : FR} (h : FnOk P w K mg base (L2.CX P w) k f fd ps (spRX Z F)) (g : ∀ ds Φ, F0 ds Φ → F ds Φ fun _ _ => False) : FnOk P w K mg base CX0 k f fd ps (spR Z F0) :=
  GX.calm h fun vs H Q E ⟨M, ds, Φ, ex, al, f0, q⟩ => ⟨M, ds, Φ, _, ex, al, g ds Φ f0, q, fun _ _ _ _ _ _ z => z.elim⟩
theorem calmB {F : FBX} {F0 : FB} (h : FnOk P w K mg base (L2.CX P w) k f fd ps (spBX Z F)) (g : ∀ y ds Φ, F0 y ds Φ → F y ds Φ fun _ _ _ => False) : FnOk P w K mg base CX0 k f fd ps (spB Z F0) :=
  GX.calm h fun vs H Q E ⟨M, p, ws, ho, y, ds, Φ, e, hp, hm, hy, ex, al, f0, q⟩ => ⟨M, p, ws, ho, y, ds, Φ, _, e, hp, hm, hy, ex, al, g y ds Φ f0, q, fun _ _ _ _ _ _ _ _ z => z.elim⟩
end
inductive TyD (Z : Wd) : D → Value → Prop
  | ty {d : D} {n : String} : tyD d = some n → TyD Z d (.type n)
  | obj {c : Nat} {ds : List D} : C8.InsC Z.K (Z.cl c).C → TyD Z (.obj c ds) (.ref (Z.cl c).C)
section
variable {Z : Wd} {M H : Hp} {δ : List S} {ta tb te : TE} {Φ : D → List S → Prop}
theorem At.tyR {v : V} {d : D} {t : Value} (a : At Z M v d) (e : Ex M H) (h : TyD Z d t) : TyX Z.K H v t := by
  cases h with
  | ty h => exact a.tyx e h
  | obj h => cases a with
    | obj k _ _ _ => exact .base (.ins (e _ _ k) h.cl h.ha h.hn h.htk h.hm)
theorem xe_isiR {C : Addr} (h : XE Z te δ fun d δ1 => ∃ t b, TyD Z d t ∧ PySem.W.kitOne Z.K t (.ref C) = some b ∧ Φ (.bl b) δ1) : XE Z (tCB (rIsi Z.K) (tCons te (tCons (tC (.ref C)) tNil))) δ Φ := XE.mk fun B W M H σ Q I q =>
  h.run I fun M1 H1 δ1 x a h1 e1 I1 at1 => by
    obtain ⟨t, b, e, k, f⟩ := h1
    exact ⟨x, .ref C, t, .ref C, b, rfl, .own C, at1.tyR I1.ex e, k, q M1 H1 δ1 _ _ f e1 I1 .bl⟩
/-- repr of an int, of None -/
def repD : D → Str | .int i => toString i | _ => "None"
theorem xe_repI (h : XE Z te δ fun a δ1 => ((∃ i : Int, a = .int i ∧ i.natAbs.log2 < 1920) ∨ a = .non) ∧ Φ (.str (repD a)) δ1) : XE Z (tCB GX.rRepI (tCons te tNil)) δ Φ := XE.mk fun B W M H σ Q I q =>
  h.run I fun M1 H1 δ1 x a h1 e1 I1 at1 => by
    obtain ⟨⟨i, rfl, hi⟩ | rfl, f⟩ := h1
    · cases at1; exact .inl ⟨i, rfl, hi, q M1 H1 δ1 _ _ f e1 I1 .str⟩
    · cases at1; exact .inr ⟨rfl, q M1 H1 δ1 _ _ f e1 I1 .str⟩
end
end G
set_option Elab.async false
set_option linter.all false
set_option maxRecDepth 100000
set_option maxHeartbeats 4000000
/-! tuples whose objects are known to have no dict: made, joined, asked for a place -/
namespace GX
open PySem PySem.Spec PyProof.Rows L2
end GX
namespace G
open PySem L2
end G
set_option Elab.async false
set_option linter.all false
set_option maxRecDepth 100000
/-! comparing by an own __eq__, `!=` by the default __ne__, str by an own __str__ -/
namespace GX
open PySem PySem.Spec L2
section
variable {X : Cx} {CX : CXT} {k : Nat} {C f : Addr} {fd : FuncData} {ps : List Str} {sp : Sp} {E : XK} {pins : List (Addr × Obj)} {σ : St} {H : Hp} {s : Shared}
/-- a special method of the class at C is the def at f -/
structure OwnM (K : PySem.W.Frag) (C f : Addr) (name : Str) : Prop where
  find : PySem.W.findIn K (.ref C) name = some (some (.ref f))
  fn : PySem.W.isFn K (.ref f) = true
/-- no __ne__ but the one of all objects -/
structure NoNe (K : PySem.W.Frag) (C : Addr) : Prop where
  find : PySem.W.findIn K (.ref C) "__ne__" = some (some (.builtin "object.__ne__"))
  sub : PySem.W.subIn K (.ref C) (.type "object") = some true
theorem run_at {A : Around} {Q : VK} {us : List Value} {vs : List V} (F : FnOk X.prog X.w X.K X.mg X.base CX k f fd ps sp) (hA : A.frames = X.A.frames) (room : Room k A) (bi : Binds X.K fd ps []) (pass : Passes CX X E)
    (I : Inv X pins σ H s) (rel : Vals vs us) (want : sp vs H Q E) : wpAny (model X.prog X.w) A (call (.ref f) us) (EP X pins σ Q) X.xe s := by
  have old := I.env0
  have here : Env0 X.prog X.w X.K X.mg X.base A X.stack s H := { frames := by rw [hA]; exact old.frames, mod := old.mod, bs := old.bs, bsz := old.bsz, funs := old.funs, frf := old.frf, hok := old.hok, bare := old.bare }
  have len : us.length = ps.length := by rw [← rel.length]; exact F.len _ _ _ _ want
  have bound := bi s us I.kIn (by simpa using len)
  rw [List.append_nil] at bound
  refine wpAny_call (codeAny_mono (F.run A X.stack s H ⟨us, []⟩ us vs Q E room here bound rel want) fun res s' out => ?_)
  match res, out with
  | .error e, out => exact pass pins σ H s e s' I out
  | .ok (.ret u), out => exact I.after out
/-- == by the own __eq__ of the class at C -/
def rOwnEq (K : PySem.W.Frag) (C : Addr) (sp : Sp) (E : XK) : R2 := fun x y H Q => (∃ a dx fs, x = .ref a ∧ H a = some (.ins C dx fs)) ∧ (∃ t, TyX K H y t ∧ PySem.W.notFirst K C t = true) ∧ sp [x, y] H (fun v H' => ∃ b, v = .bl b ∧ Q v H') E
def rOwnNe (K : PySem.W.Frag) (C : Addr) (sp : Sp) (E : XK) : R2 := fun x y H Q => (∃ a dx fs, x = .ref a ∧ H a = some (.ins C dx fs)) ∧ (∃ t, TyX K H y t ∧ PySem.W.notFirst K C t = true) ∧ sp [x, y] H (fun v H' => ∃ b, v = .bl b ∧ Q (.bl (!b)) H') E
theorem op_ownEq (F : FnOk X.prog X.w X.K X.mg X.base CX k f fd ps sp) (hr : Room k X.A) (o : OwnM X.K C f "__eq__") (bi : Binds X.K fd ps []) (pass : Passes CX X E) : OpR X (compareOp .Eq) (rOwnEq X.K C sp E) := by
  intro pins s σ H x y v u Q I rx ry ⟨⟨a, dx, fs, e, ha⟩, ⟨t, ty, nf⟩, q⟩
  subst e
  cases rx
  obtain ⟨mA, J, _⟩ := ins_get I.hok ha
  obtain ⟨od, J, _⟩ := J.look
  obtain ⟨m, hF⟩ := I.fr
  obtain ⟨P, kx, hp, _⟩ := kit_of I ry ty
  show wpAny (model X.prog X.w) X.A (richCompare .Eq (.ref a) u) (EP X pins σ Q) X.xe s
  refine PySem.W.cmp_K (op := .Eq) hr.units0 hF I.ok.mod.kin J (kx.ty _ _ I.kIn hp) nf o.find o.fn ?_
  refine wpAny_mono (run_at F rfl hr bi pass I (vs := [.ref a, y]) (.cons rfl (.cons ry .nil)) q) (fun r s' z => ?_) fun _ _ z => z
  obtain ⟨v', H', I', r', b, e, q'⟩ := z
  subst e
  cases r'
  exact ⟨.bl b, H', I', rfl, q'⟩
section
variable {prog : Program} {w : World} {A : Around} {Er : Value → Shared → Prop} {K : PySem.W.Frag} {x : Addr} {ox : Obj} {od : Option Obj} {b tb : Value}
open PySem.W
/-- a comparison that the left side answers -/
theorem rich_left {op : CmpOp} {Q : Value → Shared → Prop} (small : A.units < cLine) (kin : K.In s.heap) (at' : InstAt s.heap x ox C od) (typ : Looks (model prog w) s.heap (typeOf b) tb) (nf : notFirst K C tb = true)
    (ans : wpAny (model prog w) A (tryCompare (.ref x) (cmpInfo op).2.1 b) (fun r s' => ∃ v, r = some v ∧ Q v s') Er s) : wpAny (model prog w) A (richCompare op (.ref x) b) Q Er s := by
  have step : ∀ {m : Option Value → Sem Value}, (∀ v, m (some v) = pure v) → wpAny (model prog w) A (tryCompare (.ref x) (cmpInfo op).2.1 b >>= m) Q Er s := fun hm =>
    wpAny_bind (wpAny_mono ans (fun r s' z => by obtain ⟨v, e, q⟩ := z; subst e; rw [hm]; exact wpAny_pure q) fun _ _ z => z)
  unfold richCompare
  simp only [oneThing_ref]
  refine wpAny_holding (wpAny_bind (wpAny_cRoomFor small (wpAny_bind (at'.type.here (wpAny_bind (typ.here ?_))))))
  by_cases same : tb = .ref C
  · subst same
    simp only [bne_self_eq_false, Bool.false_eq_true, if_false]
    refine wpAny_bind (wpAny_pure ?_)
    simp only [Bool.false_eq_true, if_false]
    exact step fun v => rfl
  · have ne : (Value.ref C != tb) = true := by simpa using fun e => same e.symm
    have sub : subIn K tb (.ref C) = some false := by
      unfold notFirst at nf
      rcases Bool.or_eq_true_iff.mp nf with q | q
      · exact absurd (beq_iff_eq.mp q) same
      · exact beq_iff_eq.mp q
    simp only [ne, if_true]
    refine wpAny_bind ((looks_subIn kin sub).here ?_)
    simp only [Bool.false_eq_true, if_false]
    exact step fun v => rfl
/-- x.__ne__(b), where x has an own __eq__ and no own __ne__ -/
theorem try_ne {Q : Option Value → Shared → Prop} (small : A.units + 1 < cLine) (kin : K.In s.heap) (at' : InstAt s.heap x ox C od) (o : OwnM K C f "__eq__") (nn : NoNe K C)
    (ans : wpAny (model prog w) A.in1 (call (.ref f) [.ref x, b]) (fun r s' => ∃ v, r = .bool v ∧ Q (some (.bool (!v))) s') Er s) : wpAny (model prog w) A (tryCompare (.ref x) "__ne__" b) Q Er s := by
  have slot := PySem.F.cmp_object.ne
  have body : wpAny (model prog w) A.in1 (Builtin.«object.__ne__» ⟨[.ref x, b], []⟩) (GQ.FinOf prog w A (wants (fun r s' => ∃ v, r = .bool v ∧ Q (some (.bool v)) s') Er)) (fun e s' => wants (fun r s' => ∃ v, r = .bool v ∧ Q (some (.bool v)) s') Er (.error e) s') s := by
    unfold Builtin.«object.__ne__»
    refine wpAny_bind (wpAny_pure ?_)
    refine wpAny_bind (wpAny_cRoomFor (by show A.units + 1 < cLine; exact small) ?_)
    refine wpAny_bind (ifBound_K kin at' o.find o.fn (wpAny_mono ans (fun r s' z => ?_) fun _ _ z => z))
    obtain ⟨v, e, q⟩ := z
    subst e
    refine wpAny_bind (wpAny_truthy_bool ?_)
    refine wpAny_pure ?_
    exact ⟨!v, rfl, q⟩
  have obj : Looks (model prog w) s.heap (isInstance (.ref x) (.type "object")) true := at'.type.andThen (looks_subIn kin nn.sub)
  have inner : wpAny (model prog w) A (call (.builtin "object.__ne__") [.ref x, b]) (fun r s' => ∃ v, r = .bool v ∧ Q (some (.bool v)) s') Er s :=
    wpAny_call (codeAny_call_builtin slot.plain PySem.F.cmpEntry_ne (check_slot PySem.F.cmpKind_ne PySem.F.cmpSplit_ne obj (PySem.F.cmpArgs_ne _ _) body))
  have tail : wpAny (model prog w) A (call (.builtin "object.__ne__") ([.ref x] ++ [b]) >>= fun v => pure (some v)) (fun r s' => ∃ v, r = some (.bool v) ∧ Q (some (.bool v)) s') Er s :=
    wpAny_bind (wpAny_mono inner (fun r s' z => by obtain ⟨v, e, q⟩ := z; subst e; exact wpAny_pure ⟨v, rfl, q⟩) fun _ _ z => z)
  simp only [tryCompare, callSpecialIfBound?, bindSpecialIfBound?]
  refine wpAny_bind (wpAny_mono (Q := fun r s' => ∃ v, r = some (.bool v) ∧ Q (some (.bool v)) s') ?_ (fun r s' z => by obtain ⟨v, e, q⟩ := z; subst e; exact wpAny_pure q) fun _ _ z => z)
  refine wpAny_holding (wpAny_bind (wpAny_bind (wpAny_bind (at'.type.here ((looks_findIn kin nn.find).here ?_)))))
  refine wpAny_bind (wpAny_askSetting (wpAny_ite ?_))
  split
  · rw [slot.bind]
    exact wpAny_bind (wpAny_pure (wpAny_pure tail))
  · rw [slot.bind]
    exact wpAny_tryCatch (wpAny_bind (wpAny_pure (wpAny_pure tail)))
end
/-- != by the own __eq__ of the class at C -/
theorem op_ownNe (F : FnOk X.prog X.w X.K X.mg X.base CX k f fd ps sp) (hr : Room (k + 1) X.A) (o : OwnM X.K C f "__eq__") (nn : NoNe X.K C) (bi : Binds X.K fd ps []) (pass : Passes CX X E) : OpR X (compareOp .NotEq) (rOwnNe X.K C sp E) := by
  intro pins s σ H x y v u Q I rx ry ⟨⟨a, dx, fs, e, ha⟩, ⟨t, ty, nf⟩, q⟩
  subst e
  cases rx
  obtain ⟨mA, J, _⟩ := ins_get I.hok ha
  obtain ⟨od, J, _⟩ := J.look
  obtain ⟨P, kx, hp, _⟩ := kit_of I ry ty
  show wpAny (model X.prog X.w) X.A (richCompare .NotEq (.ref a) u) (EP X pins σ Q) X.xe s
  refine rich_left (op := .NotEq) hr.units0 I.kIn J (kx.ty _ _ I.kIn hp) nf (try_ne hr.in1.units0 I.kIn J o nn ?_)
  refine wpAny_mono (run_at F rfl hr.in1 bi pass I (vs := [.ref a, y]) (.cons rfl (.cons ry .nil)) q) (fun r s' z => ?_) fun _ _ z => z
  obtain ⟨v', H', I', r', b, e, q'⟩ := z
  subst e
  cases r'
  exact ⟨b, rfl, .bool (!b), rfl, .bl (!b), H', I', rfl, q'⟩
end
end GX
namespace G
open PySem L2
def er (M : Hp) (p : Addr) : Hp := fun a => if a = p then none else M a
end G
namespace GX
open PySem L2
section
variable {X : Cx} {K : PySem.W.Frag} {o e : Expr} {to te : TE} {apos pos : Pos}
def rJoin (K : PySem.W.Frag) : V → List V → Hp → VK → Prop := fun x xs H Q => ∃ a p, ∃ ys : List Str, x = .str a ∧ xs = [.ref p] ∧ (SqL K H p (ys.map V.str) ∨ SqT K H p (ys.map V.str)) ∧ (ys.map (·.length)).sum + ys.length * a.length ≤ 16777216 ∧ Q (.str (Txt.join a ys)) H
theorem pe_joinK (hK : X.K = K) (ho : PE X o to) (he : PE X e te) (hs : starEach [e] X.env = [(false, eval e X.env)] := by rfl) (hbase : attributeBase o "join" X.env (eval o X.env) = eval o X.env := by rfl) (hline : (apos.endLine == pos.line) = true := by rfl) :
    PE X (.Call (.Attribute o "join" apos) [e] [] pos) (tM1 (rJoin K) to te) := by
  subst hK
  exact pe_join ho he hs hbase hline
end
end GX
namespace G
open PySem L2
section
variable {Z : Wd} {δ : List S} {ta tb te : TE} {Φ : D → List S → Prop} {E : XK} {F : FR}
theorem xe_join (h : XE Z ta δ fun a δ1 => ∃ s : Str, a = .str s ∧ XE Z tb δ1 fun b δ2 => ∃ ws : List Str, (b = .lst (ws.map .str) ∨ b = .tup (ws.map .str)) ∧ (ws.map (·.length)).sum + ws.length * s.length ≤ 16777216 ∧ Φ (.str (Txt.join s ws)) δ2) : XE Z (tM1 (GX.rJoin Z.K) ta tb) δ Φ := XE.mk fun B W M H σ Q I q =>
  h.run I fun M1 H1 δ1 x a h1 e1 I1 at1 => by
    obtain ⟨s, rfl, h2⟩ := h1
    cases at1
    refine ⟨⟨s, rfl⟩, h2.run I1 fun M2 H2 δ2 y b h3 e2 I2 at2 => ?_⟩
    obtain ⟨ws, hb, small, f⟩ := h3
    rcases hb with rfl | rfl
    · cases at2 with
      | @lst p vs _ k l al =>
        have hv : vs = ws.map V.str := AtL.strs (Z := Z) (M := M2) ⟨l, al⟩
        subst hv
        exact ⟨s, p, ws, rfl, rfl, .inl (SqL.of (I2.ex _ _ k)), small, q M2 H2 δ2 _ _ f (e1.tr e2) I2 .str⟩
    · cases at2 with
      | @tup p vs _ k l al =>
        have hv : vs = ws.map V.str := AtL.strs (Z := Z) (M := M2) ⟨l, al⟩
        subst hv
        exact ⟨s, p, ws, rfl, rfl, .inr (sqT_mono I2.ex k), small, q M2 H2 δ2 _ _ f (e1.tr e2) I2 .str⟩
theorem xe_ownEq {C : Addr} {c : Nat} (hC : (Z.cl c).C = C) (h : XE Z ta δ fun a δ1 => XE Z tb δ1 fun b δ2 => ∃ ds, a = .obj c ds ∧ (∃ t, TyD Z b t ∧ PySem.W.notFirst Z.K C t = true) ∧ F [a, b] fun s => ∃ v, s = .d (.bl v) ∧ Φ (.bl v) δ2) :
    XE Z (tOp (GX.rOwnEq Z.K C (spR Z F) E) ta tb) δ Φ := XE.mk fun B W M H σ Q I q =>
  h.run I fun M1 H1 δ1 x a h1 e1 I1 at1 => XE.run h1 I1 fun M2 H2 δ2 y b h2 e2 I2 at2 => by
    obtain ⟨ds, rfl, ⟨t, ty, nf⟩, f⟩ := h2
    subst hC
    have at1 := at1.mono e2
    refine ⟨?_, ⟨t, at2.tyR I2.ex ty, nf⟩, M2, _, _, I2.ex, AtL.cons at1 (AtL.one at2), f, fun M' H' v s g a1 a2 a3 a4 r => ?_⟩
    · cases at1 with
      | obj k _ _ _ => exact ⟨_, _, _, rfl, I2.ex _ _ k⟩
    · obtain ⟨w, rfl, g⟩ := g
      cases (r : At Z M' v (.bl w))
      exact ⟨w, rfl, q M' H' δ2 _ _ g ((e1.tr e2).tr a1) (I2.after a1 a2 a3 a4) .bl⟩
theorem xe_ownNe {C : Addr} {c : Nat} (hC : (Z.cl c).C = C) (h : XE Z ta δ fun a δ1 => XE Z tb δ1 fun b δ2 => ∃ ds, a = .obj c ds ∧ (∃ t, TyD Z b t ∧ PySem.W.notFirst Z.K C t = true) ∧ F [a, b] fun s => ∃ v, s = .d (.bl v) ∧ Φ (.bl (!v)) δ2) :
    XE Z (tOp (GX.rOwnNe Z.K C (spR Z F) E) ta tb) δ Φ := XE.mk fun B W M H σ Q I q =>
  h.run I fun M1 H1 δ1 x a h1 e1 I1 at1 => XE.run h1 I1 fun M2 H2 δ2 y b h2 e2 I2 at2 => by
    obtain ⟨ds, rfl, ⟨t, ty, nf⟩, f⟩ := h2
    subst hC
    have at1 := at1.mono e2
    refine ⟨?_, ⟨t, at2.tyR I2.ex ty, nf⟩, M2, _, _, I2.ex, AtL.cons at1 (AtL.one at2), f, fun M' H' v s g a1 a2 a3 a4 r => ?_⟩
    · cases at1 with
      | obj k _ _ _ => exact ⟨_, _, _, rfl, I2.ex _ _ k⟩
    · obtain ⟨w, rfl, g⟩ := g
      cases (r : At Z M' v (.bl w))
      exact ⟨w, rfl, q M' H' δ2 _ _ g ((e1.tr e2).tr a1) (I2.after a1 a2 a3 a4) .bl⟩
end
end G
namespace G
open PySem L2
end G
set_option Elab.async false
set_option linter.all false
set_option maxRecDepth 100000
/-! == of tuples whose items are compared by an own __eq__ -/
namespace GX
open PySem PySem.Spec PySem.SeqAt L2
open AutoSeq1 (wpAny_loadPart')
open MeetsSeq MeetsSeq2 MeetsSeq3 SeqRoads2
section
variable {prog : Program} {w : World} {A : Around} {R : Result → Shared → Prop}
theorem tuple_eqB (l b : Addr) (items items2 : Array Value) (n n2 : Nat) (dd dd2 : Option Addr) (sl sl2 : Array (Option Value)) (I : Nat → Shared → Prop) (f : Nat → Bool)
    (turn : ∀ i (h1 : i < items.size) (h2 : i < items2.size) s, I i s → wpAny (model prog w) A.in1 (eqBool items[i] items2[i]) (fun r s' => r = f i ∧ I (i + 1) s') (fun e s' => R (.error e) s') s)
    (bad : ∀ i s, i < items.size → i < items2.size → f i = false → I (i + 1) s → R (.ok (.ret (.bool false))) s)
    (fin : ∀ s, I (min items.size items2.size) s → (∀ i, i < items.size → i < items2.size → f i = true) → R (.ok (.ret (.bool (items.size == items2.size)))) s) {s : Shared}
    (hl1 : s.heap.get? l = some { cls := .type "tuple", dict := dd, data := .seq items n, slots := sl }) (hb1 : s.heap.get? b = some { cls := .type "tuple", dict := dd2, data := .seq items2 n2, slots := sl2 }) (h : I 0 s) :
    wpAny (model prog w) A.in1 (Builtin.«tuple.__eq__» ⟨[.ref l, .ref b], []⟩) (GQ.FinOf prog w A R) (fun e s' => R (.error e) s') s := by
  have f2 := AutoSeq1.sub_tuple_tuple
  have hZ : (items.toList.zip items2.toList).length = min items.size items2.size := by simp
  have h0 := h
  obtain ⟨hp, g, d, tk, os⟩ := s
  wp_walk using wpAny_loadPart' hl1, wpAny_loadPart' hb1, wpAny_forIn_list _ (fun rest b s' => b.1 = none ∧ ∃ i, rest = (items.toList.zip items2.toList).drop i ∧ i ≤ min items.size items2.size ∧ I i s' ∧ ∀ j, j < i → f j = true) _
  case turn =>
    rintro ⟨y, x⟩ rest b s' ⟨hn, i, hz, hi, hI, hf⟩
    have hlt : i < (items.toList.zip items2.toList).length := Nat.lt_of_not_le fun c => by
      rw [List.drop_of_length_le c] at hz; cases hz
    have h1 : i < items.size := by omega
    have h2 : i < items2.size := by omega
    rw [List.drop_eq_getElem_cons hlt] at hz
    obtain ⟨e1, e2⟩ := List.cons.inj hz
    have ey : y = items[i] := by have := congrArg Prod.fst e1; simpa using this
    have ex : x = items2[i] := by have := congrArg Prod.snd e1; simpa using this
    subst ey ex
    refine wpAny_bind (wpAny_mono (turn i h1 h2 s' hI) (fun r s2 q => ?_) fun _ _ z => z)
    obtain ⟨q1, q2⟩ := q
    cases hr : f i with
    | true =>
      rw [hr] at q1
      subst q1
      wp_walk
      exact ⟨rfl, i + 1, e2, by omega, q2, fun j hj => by
        rcases Nat.lt_succ_iff_lt_or_eq.mp hj with z | z
        · exact hf j z
        · rw [z]; exact hr⟩
    | false =>
      rw [hr] at q1
      subst q1
      have bd := bad i s2 h1 h2 hr q2
      wp_walk
      exact bd
  case fin =>
    rintro ⟨b1, b2⟩ s' ⟨hn, i, hz, hi, hI, hf⟩
    simp only at hn
    subst hn
    have hge : (items.toList.zip items2.toList).length ≤ i := Nat.le_of_not_lt fun c => by
      rw [List.drop_eq_getElem_cons c] at hz; cases hz
    have ei : i = min items.size items2.size := by omega
    have fn := fin s' (ei ▸ hI) fun j h1 h2 => hf j (by omega)
    wp_walk
    simpa [Builtin.Tuple.tupleCompareSizes] using fn
  case h =>
    exact ⟨rfl, 0, rfl, Nat.zero_le _, h0, fun j hj => absurd hj (Nat.not_lt_zero j)⟩
end
end GX
namespace GX
open PySem PySem.Spec L2
section
variable {X : Cx} {CX : CXT} {k : Nat} {C f : Addr} {fd : FuncData} {ps : List Str} {sp : Sp} {E : XK} {pins : List (Addr × Obj)} {σ : St} {H : Hp} {s : Shared}
theorem relV_inj {v w : V} {u : Value} (a : RelV v u) (b : RelV w u) : v = w := by
  cases v <;> cases w <;> simp only [RelV] at a b <;> first
    | rfl
    | (subst a; cases b; done)
    | (subst a; cases b; rfl)
    | (obtain ⟨t, a⟩ := a; subst a; cases b; done)
    | (obtain ⟨t, a⟩ := a; obtain ⟨t2, b⟩ := b; subst a; cases b; done)
    | (obtain ⟨t, a⟩ := a; obtain ⟨t2, b⟩ := b; subst a; cases b; rfl)
    | (obtain ⟨t2, b⟩ := b; subst a; cases b; done)
theorem vals_inj : ∀ {xs ys : List V} {us : List Value}, Vals xs us → Vals ys us → xs = ys
  | [], [], _, _, _ => rfl
  | [], _ :: _, [], _, b => nomatch b
  | _ :: _, _, [], a, _ => nomatch a
  | [], _ :: _, _ :: _, a, _ => nomatch a
  | _ :: _, [], _ :: _, _, b => nomatch b
  | x :: xs, y :: ys, u :: us, .cons a as, .cons b bs => by rw [relV_inj a b, vals_inj as bs]
/-- a tuple tells its items -/
def Det (K : PySem.W.Frag) (H : Hp) : Prop := ∀ (a : Addr) (vs us : List V), SqT K H a vs → SqT K H a us → vs = us
theorem det_of (I : Inv X pins σ H s) : Det X.K H := fun a vs us h1 h2 => by
  obtain ⟨its, r, ⟨o, ho, hc, n, hd⟩, _⟩ := I.tuple h1
  obtain ⟨its2, r2, ⟨o2, ho2, hc2, n2, hd2⟩, _⟩ := I.tuple h2
  rw [ho] at ho2
  cases ho2
  rw [hd] at hd2
  have e : its = its2 := by
    have := Data.seq.inj hd2
    simpa using this.1
  subst e
  exact vals_inj r r2
/-- what an own == of the class at C says of two of its instances -/
def InsB (C : Addr) (sp : Sp) (E : XK) (x y : V) (b : Bool) (H : Hp) : Prop := (∃ a dx fs, x = .ref a ∧ H a = some (.ins C dx fs)) ∧ (∃ a dx fs, y = .ref a ∧ H a = some (.ins C dx fs)) ∧ (x = y → b = true) ∧ sp [x, y] H (fun v H' => v = .bl b ∧ Ext H H') E
theorem eq_ins {A : Around} {x y : V} {u v : Value} {b : Bool} (F : FnOk X.prog X.w X.K X.mg X.base CX k f fd ps sp) (hA : A.frames = X.A.frames) (room : Room k A) (o : OwnM X.K C f "__eq__") (bi : Binds X.K fd ps []) (pass : Passes CX X E)
    (I : Inv X pins σ H s) (rx : RelV x u) (ry : RelV y v) (d : InsB C sp E x y b H) : wpAny (model X.prog X.w) A (eqBool u v) (fun r s' => r = b ∧ ∃ H', Inv X pins σ H' s' ∧ Ext H H') X.xe s := by
  obtain ⟨⟨a, dx, fs, e1, ha⟩, ⟨a2, dy, gs, e2, hb⟩, same, q⟩ := d
  subst e1; subst e2
  cases rx
  cases ry
  by_cases hab : a = a2
  · subst hab
    rw [same rfl]
    exact SeqAt.EqAt.same (A := A) (s := s) (.ref a) X.prog X.w X.xe _ ⟨rfl, H, I, Ext.rfl'⟩
  · obtain ⟨mA, J, _⟩ := ins_get I.hok ha
    obtain ⟨mB, J', _⟩ := ins_get I.hok hb
    obtain ⟨od, J, _⟩ := J.look
    obtain ⟨od', J', _⟩ := J'.look
    obtain ⟨m, hF⟩ := I.fr
    refine GQ.eqBool_refG hab (PySem.W.cmp_K (op := .Eq) (tb := .ref C) room.units0 hF I.ok.mod.kin J J'.type (by simp [PySem.W.notFirst]) o.find o.fn ?_)
    refine wpAny_mono (run_at F hA room bi pass I (vs := [.ref a, .ref a2]) (.cons rfl (.cons rfl .nil)) q) (fun r s' z => ?_) fun _ _ z => z
    obtain ⟨v', H', I', r', e, x⟩ := z
    subst e
    cases r'
    exact ⟨b, rfl, rfl, H', I', x⟩
/-- == of two tuples of instances of the class at C -/
def rTupOwn (K : PySem.W.Frag) (C : Addr) (sp : Sp) (E : XK) : R2 := fun x y H Q => ∃ (a b : Addr) (xs ys : List V) (g : Nat → Bool), x = .ref a ∧ y = .ref b ∧ SqT K H a xs ∧ SqT K H b ys ∧
  (∀ (i : Nat) x y, xs[i]? = some x → ys[i]? = some y → ∀ H', Ext H H' → Det K H' → InsB C sp E x y (g i) H') ∧ ∀ H' r, Ext H H' → (r = true ↔ xs.length = ys.length ∧ ∀ i, i < xs.length → i < ys.length → g i = true) → Q (.bl r) H'
theorem op_tupOwn (F : FnOk X.prog X.w X.K X.mg X.base CX k f fd ps sp) (hr : Room (k + 1) X.A) (o : OwnM X.K C f "__eq__") (bi : Binds X.K fd ps []) (pass : Passes CX X E) : OpR X (compareOp .Eq) (rTupOwn X.K C sp E) := by
  intro pins s σ H x y v u Q I rx ry ⟨a, b, xs, ys, g, e1, e2, ha, hb, el, q⟩
  subst e1; subst e2
  cases rx
  cases ry
  obtain ⟨its, r, ⟨⟨cls, dd, data, sl⟩, ho, hc, n, hd⟩, z⟩ := I.tuple ha
  obtain ⟨its2, r2, ⟨⟨cls2, dd2, data2, sl2⟩, ho2, hc2, n2, hd2⟩, z2⟩ := I.tuple hb
  simp only at hc hd hc2 hd2
  subst hc hd hc2 hd2
  have l1 : its.toArray.size = xs.length := by rw [List.size_toArray, ← r.length]
  have l2 : its2.toArray.size = ys.length := by rw [List.size_toArray, ← r2.length]
  show wpAny (model X.prog X.w) X.A (richCompare .Eq (.ref a) (.ref b)) (EP X pins σ Q) X.xe s
  refine wpAny_richCompare_same_room (op := .Eq) ⟨_, ho, rfl⟩ ⟨_, ho2, rfl⟩ PySem.F.slot_tuple_eq (GQ.call_here PySem.F.slot_tuple_eq ⟨_, ho, rfl⟩ PySem.F.entry_tuple_eq (PySem.F.args_tuple_eq_2 _ _) ?_) hr.units0
  refine tuple_eqB (R := wants (fun v s' => v ≠ .notImplemented ∧ EP X pins σ Q v s') X.xe) a b its.toArray its2.toArray n n2 dd dd2 sl sl2 (fun _ s' => ∃ H', Inv X pins σ H' s' ∧ Ext H H') g (fun i h1 h2 s' l => ?_) (fun i s' h1 h2 hf l => ?_) (fun s' l hf => ?_) ho ho2 ⟨H, I, Ext.rfl'⟩
  · obtain ⟨H1, I1, x1⟩ := l
    have k1 : i < xs.length := by omega
    have k2 : i < ys.length := by omega
    obtain ⟨u, hu, ru⟩ := r.get (List.getElem?_eq_getElem k1)
    obtain ⟨w, hw, rw'⟩ := r2.get (List.getElem?_eq_getElem k2)
    have g1 : its.toArray[i] = u := by
      have : its[i]? = some its.toArray[i] := by simp; 
      exact Option.some.inj (this.symm.trans hu)
    have g2 : its2.toArray[i] = w := by
      have : its2[i]? = some its2.toArray[i] := by simp
      exact Option.some.inj (this.symm.trans hw)
    rw [g1, g2]
    refine wpAny_mono (eq_ins F rfl hr.in1 o bi pass I1 ru rw' (el i _ _ (List.getElem?_eq_getElem k1) (List.getElem?_eq_getElem k2) H1 x1 (det_of I1))) (fun r s2 t => ?_) fun _ _ z => z
    obtain ⟨e, H2, I2, x2⟩ := t
    exact ⟨e, H2, I2, x1.trans x2⟩
  · obtain ⟨H1, I1, x1⟩ := l
    exact ⟨(fun z => nomatch z), .bl false, H1, I1, rfl, q H1 false x1 ⟨(fun z => nomatch z), fun z => by
      have := z.2 i (by omega) (by omega)
      rw [hf] at this; cases this⟩⟩
  · obtain ⟨H1, I1, x1⟩ := l
    refine ⟨(fun z => nomatch z), .bl _, H1, I1, rfl, q H1 _ x1 ⟨fun z => ?_, fun z => ?_⟩⟩
    · have e : its.toArray.size = its2.toArray.size := by simpa using z
      exact ⟨by omega, fun i h1 h2 => hf i (by omega) (by omega)⟩
    · simpa using (show its.toArray.size = its2.toArray.size by omega)
end
end GX
namespace G
open PySem L2
section
variable {Z : Wd} {M H H' : Hp} {δ : List S} {ta tb : TE} {Φ : D → List S → Prop} {E : XK} {F : FR} {σ : St} {B : Bas} {W : List (Nat × Addr)}
theorem I3.ext (I : I3 Z B W M H σ δ) (x : Ex H H') : I3 Z B W M H' σ δ := I.after Ex.rfl' (I.ex.tr x) x fun _ _ _ h _ => h
theorem xe_tupOwn {C : Addr} {c : Nat} (hC : (Z.cl c).C = C) (h : XE Z ta δ fun a δ1 => XE Z tb δ1 fun b δ2 => ∃ (ds es : List D) (g : D → D → Bool), a = .tup ds ∧ b = .tup es ∧ (∀ d ∈ ds, ∃ fs, d = .obj c fs) ∧ (∀ d ∈ es, ∃ fs, d = .obj c fs) ∧
      (∀ (M H : Hp) v d e, d ∈ ds → e ∈ es → Ex M H → GX.Det Z.K H → At Z M v d → At Z M v e → g d e = true) ∧ (∀ d ∈ ds, ∀ e ∈ es, F [d, e] fun s => s = .d (.bl (g d e))) ∧
      ∀ r, (r = true ↔ ds.length = es.length ∧ ∀ (i : Nat) d e, ds[i]? = some d → es[i]? = some e → g d e = true) → Φ (.bl r) δ2) :
    XE Z (tOp (GX.rTupOwn Z.K C (spR Z F) E) ta tb) δ Φ := XE.mk fun B W M H σ Q I q =>
  h.run I fun M1 H1 δ1 x a h1 e1 I1 at1 => XE.run h1 I1 fun M2 H2 δ2 y b h2 e2 I2 at2 => by
    obtain ⟨ds, es, g, rfl, rfl, hd, he, det, f, fin⟩ := h2
    subst hC
    have at1 := at1.mono e2
    cases at1 with
    | @tup a vs _ k1 l1 al1 =>
      cases at2 with
      | @tup b us _ k2 l2 al2 =>
        refine ⟨a, b, vs, us, fun i => match ds[i]?, es[i]? with | some d, some e => g d e | _, _ => true, rfl, rfl, sqT_mono I2.ex k1, sqT_mono I2.ex k2, fun i x y hx hy H3 x3 dt => ?_, fun H3 r x3 hr => ?_⟩
        · have i1 : i < ds.length := by rw [← l1]; exact (List.getElem?_eq_some_iff.mp hx).1
          have i2 : i < es.length := by rw [← l2]; exact (List.getElem?_eq_some_iff.mp hy).1
          have d1 : ds[i]? = some ds[i] := by simp
          have d2 : es[i]? = some es[i] := by simp
          have m1 : ds[i] ∈ ds := List.mem_of_getElem? d1
          have m2 : es[i] ∈ es := List.mem_of_getElem? d2
          have a1 := al1 i x _ hx d1
          have a2 := al2 i y _ hy d2
          have ex3 : Ex M2 H3 := I2.ex.tr x3
          simp only [d1, d2]
          refine ⟨?_, ?_, fun e => ?_, M2, _, _, ex3, AtL.cons a1 (AtL.one a2), f _ m1 _ m2, fun M' H' v s fs b1 b2 b3 b4 r => ?_⟩
          · obtain ⟨fs, e⟩ := hd _ m1
            rw [e] at a1
            cases a1 with
            | obj k _ _ _ => exact ⟨_, _, _, rfl, ex3 _ _ k⟩
          · obtain ⟨fs, e⟩ := he _ m2
            rw [e] at a2
            cases a2 with
            | obj k _ _ _ => exact ⟨_, _, _, rfl, ex3 _ _ k⟩
          · subst e
            exact det M2 H3 x _ _ m1 m2 ex3 dt a1 a2
          · subst fs
            cases (r : At Z M' v (.bl _))
            exact ⟨rfl, b3⟩
        · refine q M2 H3 δ2 _ _ (fin r (hr.trans ?_)) (e1.tr e2) (I2.ext x3) .bl
          rw [l1, l2]
          refine and_congr_right fun _ => ⟨fun h i d e h1 h2 => ?_, fun h i h1 h2 => ?_⟩
          · have := h i (List.getElem?_eq_some_iff.mp h1).1 (List.getElem?_eq_some_iff.mp h2).1
            simpa [h1, h2] using this
          · have := h i _ _ (List.getElem?_eq_getElem h1) (List.getElem?_eq_getElem h2)
            simpa [h1, h2] using this
end
end G
set_option Elab.async false
set_option linter.all false
set_option maxRecDepth 100000
/-! != of tuples whose items are compared by an own __eq__; len of an instance by an own __len__ -/
namespace GX
open PySem PySem.Spec PySem.SeqAt L2
open AutoSeq1 (wpAny_loadPart')
open MeetsSeq MeetsSeq2 MeetsSeq3 SeqRoads2
end GX
namespace GX
open PySem PySem.Spec L2
end GX
namespace G
open PySem L2
end G
set_option Elab.async false
set_option linter.all false
set_option maxRecDepth 100000
/-! x[i], x + y by the own methods of a class -/
namespace GX
open PySem PySem.Spec L2
open PyProof.Rows (Subscript_)
end GX
namespace G
open PySem L2
end G
set_option Elab.async false
set_option linter.all false
set_option maxRecDepth 100000
/-! x[i] and o.m(..) by own methods that may raise -/
namespace GX
open PySem PySem.Spec L2
open PyProof.Rows (Subscript_)
end GX
namespace G
open PySem L2
end G
set_option Elab.async false
set_option linter.all false
set_option maxRecDepth 100000
/-! x += y by an own __add__ of a class without an own __iadd__ -/
namespace GX
open PySem PySem.Spec L2
end GX
namespace G
open PySem L2
end G
set_option Elab.async false
set_option linter.all false
set_option maxRecDepth 100000
set_option maxHeartbeats 4000000
/-! a, *b = a list; split; class methods; classes held in a variable -/
namespace GX
open PySem PySem.Spec PyProof.Rows L2
section
variable {X : Cx} {pos : Pos}
/-- a, *b = a list -/
def gStar (K : PySem.W.Frag) (t : TGs) : TG := fun v σ H Q => ∃ a x xs, v = .ref a ∧ SqL K H a (x :: xs) ∧ xs.length < 16384 ∧ ∀ p, H p = none → t [x, .ref p] σ (upd H p (.lst xs)) Q
theorem pg_star {es es' : List Expr} {k : Nat} {t : TGs} (hc : X.calm = true) (h : PGs X es' t) (same : (assignEach es X.env).map (·.2) = (assignEach es' X.env).map (·.2) := by rfl)
    (hn : (assignEach es X.env).length = 2 := by rfl) (hst : (assignEach es X.env).findIdx? (·.1) = some 1 := by rfl) : PG X (.Tuple es k pos) (gStar X.K t) := by
  refine ⟨fun pins s σ H v u Q I r hw => ?_⟩
  obtain ⟨a, x, xs, e1, hq, hl, hw⟩ := hw
  subst e1
  cases r
  obtain ⟨its, rv, pl, hz⟩ := I.list hq
  obtain ⟨y, ys, rfl⟩ : ∃ y ys, its = y :: ys := by
    cases its with
    | nil => exact nomatch rv.length
    | cons y ys => exact ⟨y, ys, rfl⟩
  have r1 : RelV x y := by cases rv with | cons r1 r2 => exact r1
  have r2 : Vals xs ys := by cases rv with | cons r1 r2 => exact r2
  have hl2 : ys.length < 16384 := by rw [← r2.length]; exact hl
  have hL := pl.isList
  have hlt : a ≠ s.heap.objs.size := by obtain ⟨o, ho, _⟩ := hL; exact Nat.ne_of_lt (Heap.lt_size ho)
  rw [PyProof.Rows.assign_Tuple]
  refine wpAny_bind (wpAny_standAt ?_)
  unfold unpack
  rw [hn, hst]
  refine wpAny_bind (wpAny_holding ?_)
  unfold unpackItems
  refine wpAny_bind ?_
  unfold notIterableAtAll
  refine wpAny_bind (wpAny_specialOf hL.typeIs PySem.slot_list_iter.lookup ?_)
  refine wpAny_pure ?_
  simp only [Bool.false_eq_true, if_false]
  refine wpAny_bind (wpAny_holding (wpAny_pyIter_list hL ?_))
  refine wpAny_bind (wpAny_holding (PySem.W.kun_draw hlt 1 0 _ _ ⟨_, Heap.get?_push_size _ rfl, rfl, rfl⟩ (hL.push _) (by simp) fun h₁ hit₁ hs₁ => ?_))
  have hl₁ : h₁.IsList a (y :: ys).toArray := (hL.push _).extBut hs₁.extBut hlt
  rw [Nat.zero_add] at hit₁
  have hit₁' := hit₁
  obtain ⟨oi, hoi, _⟩ := hit₁'
  have hl₁' := hl₁
  obtain ⟨ol, hol, _⟩ := hl₁'
  show wpAny _ _ (if ([y] : List Value).length < 1 then _ else _) _ _ _
  rw [if_neg (by simp)]
  refine wpAny_bind (wpAny_holding (PySem.W.kun_collect (s := { s with heap := h₁ }) (T := "list_iterator") (.inr (.inr (.inl rfl))) (Walks.list (A := X.A.in1) (I.ok.hd hc) s.heap.objs.size a hlt (y :: ys).toArray) (fun j u st => st.1.typeIs) (k := 1) (by simp) ⟨hit₁, hl₁⟩ (Heap.lt_size hoi) (Heap.lt_size hol) (fun h₂ tk hk => ?_) (by rw [sizeLine_eq]; simp; omega)))
  show wpAny _ _ (if ys.length < 2 - 1 - 1 then _ else _) _ _ _
  rw [if_neg (by omega)]
  show wpAny _ _ (newList (ys.take (ys.length - (2 - 1 - 1))) >>= fun d => pure ([y] ++ [d] ++ ys.drop (ys.length - (2 - 1 - 1)))) _ _ _
  rw [show ys.take (ys.length - (2 - 1 - 1)) = ys from by simp, show ys.drop (ys.length - (2 - 1 - 1)) = [] from by simp]
  refine wpAny_bind (wpAny_newList ?_ (by rw [sizeLine_eq]; omega))
  refine wpAny_pure ?_
  have he : Heap.ExtBut s.heap.objs.size s.heap h₂ := fun b o hb e => hk b o hb (hs₁.extBut b o hb (Heap.get?_push_of_some _ e))
  have I1 : Inv X pins σ H { s with heap := h₂, toks := tk } := I.kept fun b o e => he b o (Nat.ne_of_lt (Heap.lt_size e)) e
  have hoL : (h₂.push (seqObj "list" ys.toArray 0)).get? h₂.objs.size = some (seqObj "list" ys.toArray 0) := Heap.get?_push_size _ rfl
  have I2 := I1.laid (h' := h₂.push (seqObj "list" ys.toArray 0)) (t' := tk) (a := h₂.objs.size) (o := .lst xs) (fun b u e => Heap.get?_push_of_some _ e) (Nat.le_refl _)
    (show ObjOk X.prog X.w _ _ _ (.lst xs) from ⟨by rw [sizeLine_eq]; omega, ys, 0, r2, hoL⟩)
  rw [same]
  exact h.run pins _ σ _ [x, .ref h₂.objs.size] [y, .ref h₂.objs.size] Q I2 (.cons r1 (.cons rfl .nil)) (hw _ (I1.hok.fresh (Nat.le_refl _)))
end
section
variable {X : Cx} {CX : CXT} {k i : Nat} {C f : Addr} {fd : FuncData} {ps : List Str} {ds : List Value} {dvs : List V} {sp : Sp} {E : XK} {x : Str} {e : Expr} {es : List Expr} {t : TA} {p pos : Pos}
/-- c(..), where the variable c holds the class at C -/
def tMakeV (C : Addr) (i : Nat) (sp : Sp) (dvs : List V) (E : XK) (t : TA) : TE := fun σ H Q => σ[i]? = some (some (.ref C)) ∧ tMake C sp dvs E t σ H Q
theorem pe_makeV (hv : PE X (.Name x p) (tVar i)) (M : Mk X.K C f) (F : FnOk X.prog X.w X.K X.mg X.base CX k f fd ps sp) (hr : Room (k + 1) X.A) (hb : Binds X.K fd ps ds) (hd : Vals dvs ds) (hx : Passes CX X E)
    (ha : PA X (e :: es) t) (he : starEach (e :: es) X.env = (false, eval e X.env) :: starEach es X.env := by rfl) (hpl : (backTo pos (starEach es X.env)).any (·.1) = false := by rfl) :
    PE X (.Call (.Name x p) (e :: es) [] pos) (tMakeV C i sp dvs E t) := by
  refine ⟨fun pins s σ H Q I h => ?_⟩
  refine wpAny_Call_Name_kw (thn (hv.run pins s σ H (fun v H1 => v = .ref C ∧ tMake C sp dvs E t σ H1 Q) I ⟨_, h.1, rfl, h.2⟩) fun u s1 ⟨v, H1, I1, r1, ev, q⟩ => ?_)
  subst ev
  cases r1
  refine PySem.W.callWith_K (h₀ := X.base) I.ok.mod.kin M.kp (thn (ha.run pos pins s1 σ H1 _ I1 q) fun us s2 ⟨vs, H2, I2, r, q⟩ => ⟨I2.kIn, ?_⟩) he hpl
  exact run_make M F hr hb hd hx I2 r q
end
end GX
namespace G
open PySem L2
section
variable {Z : Wd} {bs : List Nat} {δ : List S} {ta tb te : TE} {ts : TA} {P : Po} {Φ : D → List S → Prop} {Ψ : S → List S → Prop} {Ω : OD → List S → Prop} {E : XK} {i j : Nat}
theorem xs_asgStar (hi : i ∉ bs) (hj : j ∉ bs) (h : XE Z te δ fun d δ1 => ∃ x xs, d = .lst (x :: xs) ∧ xs.length < 16384 ∧ j < δ1.length ∧ P.N ((δ1.set i (.d x)).set j (.own (.lst xs)))) :
    XS Z bs (tAsg te (GX.gStar Z.K (gCons (gName i) (gCons (gName j) gNil)))) δ P := fun B W M H σ Ed hb I e => h.run I fun M1 H1 δ1 v d h1 e1 I1 at1 => by
  obtain ⟨x, xs, rfl, small, hj', f⟩ := h1
  cases at1 with
  | @lst a vs _ k l c =>
    match vs, k, l, c with
    | v0 :: vs', k, l, c =>
      have l' : vs'.length = xs.length := by simpa using l
      refine ⟨a, v0, vs', rfl, SqL.of (I1.ex _ _ k), by omega, fun p hp => ⟨_, _, rfl, _, _, rfl, rfl, ?_⟩⟩
      have a0 : At Z M1 v0 x := c 0 v0 x rfl rfl
      have al : AtL Z M1 vs' xs := ⟨l', fun i v d h1 h2 => c (i + 1) v d (by simpa using h1) (by simpa using h2)⟩
      have I2 := I1.other (o := .lst vs') (I1.fresh hp) (I1.ex.free hp) (I1.newOwn hp)
      have I3 := (I2.put (i := i) (not_bor hb hi) (hol_d _) (slotD a0)).putO (i := j) (p := p) (ho := .lst vs') (y := .lst xs) (not_bor hb hj) (by rw [List.length_set]; exact hj') upd_same al (I1.ex.free hp) (I1.fresh hp) (fun k o => I1.newOwn hp k (Own.setN (hol_d _) o).2)
      exact e.nx _ _ _ _ f e1 I3
/-- s.split(t) -/
abbrev rSplit : V → List V → Hp → VK → Prop := fun x xs H Q => ∃ a b, x = .str a ∧ xs = [.str b] ∧ (b.length == 0) = false ∧ a.length + 2 ≤ sizeLine ∧ rNewStrs (Txt.split a b) H Q
theorem xo_split (h : XE Z ta δ fun a δ1 => ∃ s, a = .str s ∧ XE Z tb δ1 fun b δ2 => ∃ t, b = .str t ∧ (t.length == 0) = false ∧ s.length + 2 ≤ sizeLine ∧ Ω (.lst ((Txt.split s t).map .str)) δ2) : XO Z (tM1 rSplit ta tb) δ Ω := XO.mk fun B W M H σ Q I q =>
  h.run I fun M1 H1 δ1 x a h1 e1 I1 at1 => by
    obtain ⟨s, rfl, h1⟩ := h1
    cases at1
    exact ⟨⟨s, rfl⟩, XE.run h1 I1 fun M2 H2 δ2 y b h2 e2 I2 at2 => by
      obtain ⟨t, rfl, t0, sz, f⟩ := h2
      cases at2
      exact ⟨s, t, rfl, rfl, t0, sz, fun p hp => newO (o := .lst _) (y := .lst _) I2 hp (AtL.ofStrs _) f (e1.tr e2) q⟩⟩
/-- C.m(..), m a classmethod: the class is the first datum -/
theorem xr_cmeth {F : FR} {C : Addr} (h : XA Z ts δ fun es δ1 => F (.ref C :: es) fun s => Ψ s δ1) : XR Z (ClX.tCMeth C (fun vs H Q E => spR Z F (vs ++ []) H Q E) E (tC (.ref C)) ts) δ Ψ := fun B W M H σ Q I q => by
  refine ⟨rfl, h B W M H σ _ I fun M2 H2 δ2 ws es h3 e2 I2 al2 => ?_⟩
  show spR Z F ((.ref C :: ws) ++ []) H2 Q E
  rw [List.append_nil]
  exact ⟨M2, _, _, I2.ex, AtL.cons .ref al2, h3, fun M' H' v s g a1 a2 a3 a4 r => q M' H' δ2 v s g (e2.tr a1) (I2.after a1 a2 a3 a4) (ret_res I2 (fun _ _ o => o) r)⟩
theorem xe_makeV {sp : Sp} {dvs : List V} {C : Addr} (h0 : δ[i]? = some (.d (.ref C))) (h : XE Z (tMake C sp dvs E ts) δ Φ) : XE Z (GX.tMakeV C i sp dvs E ts) δ Φ := XE.mk fun B W M H σ Q I q => by
  obtain ⟨o, eo, v, rfl, at0⟩ := I.sl i _ h0
  cases at0
  exact ⟨eo, h.run I q⟩
end
end G
set_option Elab.async false
set_option linter.all false
set_option maxRecDepth 100000
set_option maxHeartbeats 4000000
/-! {e for x in xs if ..}, {e for x in xs for y in ys}: sets of ints, built while other sources are walked -/
namespace GX
open PySem PySem.Spec PyProof.Rows L2 PpSet
/-- y joins the set at D, then go on -/
def joins (w : World) (D : Addr) (y : V) (H : Hp) (on : Hp → Prop) : Prop := ∃ (k : Int) (S : Int → Bool) (c : Nat), y = .int k ∧ H D = some (SetO w D S c) ∧ c + 1 < scanBound ∧ on (upd H D (SetO w D (fun j => S j || decide (j = k)) (if S k = true then c else c + 1)))
end GX
set_option Elab.async false
set_option linter.all false
set_option maxRecDepth 100000
set_option maxHeartbeats 4000000
/-! {e for x in xs for y in ys} -/
namespace GX
open PySem PySem.Spec PyProof.Rows L2 PpSet
section
variable {prog : Program} {w : World} {A : Around} {R : Result → Shared → Prop} {s : Shared} {elt t0 i0 t1 i1 : Expr} {scope : Scope} {pos : Pos} {it acc : Value} {env : Env}
/-- an error of the loop, noted -/
abbrev bad (M : Model) (A : Around) (env : Env) (R : Result → Shared → Prop) : Value → Shared → Prop := notedBy M A env fun e s' => R (.error e) s'
end
end GX
set_option Elab.async false
set_option linter.all false
set_option maxRecDepth 100000
set_option maxHeartbeats 4000000
/-! sorted({..}) over data -/
namespace G
open PySem L2
section
variable {Z : Wd} {M H M' H' : Hp} {B : Bas} {W : List (Nat × Addr)} {σ σ' : St} {δ : List S}
variable {te : TE} {tt : TT} {Ω : OD → List S → Prop} {bs vs vs1 : List Nat} {w : World}
/-- the set at A has just these members -/
def SetHas (w : World) (H : Hp) (A : Addr) (acc : List Int) : Prop := ∃ us : List Int, H A = some (SetO w A (fun k => decide (k ∈ acc)) us.length) ∧ us.Nodup ∧ ∀ k, k ∈ us ↔ k ∈ acc
theorem nodup_le : ∀ {us l : List Int}, us.Nodup → (∀ k ∈ us, k ∈ l) → us.length ≤ l.length
  | [], _, _, _ => Nat.zero_le _
  | u :: us, l, n, h => by
    obtain ⟨n1, n2⟩ := List.nodup_cons.mp n
    have hu := h u List.mem_cons_self
    have := nodup_le (us := us) (l := l.erase u) n2 fun k hk => (List.mem_erase_of_ne (fun (e : k = u) => n1 (by rw [← e]; exact hk))).mpr (h k (List.mem_cons_of_mem _ hk))
    rw [List.length_erase_of_mem hu] at this
    have := List.length_pos_of_mem hu
    rw [List.length_cons]; omega
theorem SetHas.join {A : Addr} {acc : List Int} {k : Int} {on : Hp → Prop} (h : SetHas w H A acc) (room : acc.length < 4000) (go : ∀ o, SetHas w (upd H A o) A (acc ++ [k]) → on (upd H A o)) : GX.joins w A (.int k) H on := by
  obtain ⟨us, h1, h2, h3⟩ := h
  have l := nodup_le h2 fun k hk => (h3 k).mp hk
  have s4 : PySem.scanBound = 4096 := rfl
  refine ⟨k, _, _, rfl, h1, by rw [s4]; omega, go _ ?_⟩
  have e : (fun j => decide (j ∈ acc) || decide (j = k)) = fun j => decide (j ∈ acc ++ [k]) := by funext j; simp
  by_cases c : k ∈ acc
  · refine ⟨us, ?_, h2, fun j => ?_⟩
    · rw [upd_same, e, if_pos (by simpa using c)]
    · rw [h3, List.mem_append, List.mem_singleton]
      exact ⟨.inl, fun z => z.elim id fun z => z ▸ c⟩
  · refine ⟨us ++ [k], ?_, ?_, fun j => ?_⟩
    · rw [upd_same, e, if_neg (by simpa using c), List.length_append, List.length_singleton]
    · refine List.nodup_append.mpr ⟨h2, by simp, fun x hx y hy z => ?_⟩
      rw [List.mem_singleton.mp hy] at z
      exact c (z ▸ (h3 x).mp hx)
    · rw [List.mem_append, List.mem_append, h3]
/-- sorted of such a set -/
theorem sort_set {A : Addr} {acc few : List Int} {Q : VK} {M1 H1 : Hp} {δ1 : List S} (h : SetHas w H1 A acc) (lf : few.length < 64) (hf : ∀ k ∈ acc, k ∈ few) (I1 : I3 Z B W M1 H1 σ δ1) (e : Ex M M1) (f : ∀ ns : List Int, ns.Pairwise (· < ·) → (∀ k, k ∈ ns ↔ k ∈ acc) → Ω (.lst (ns.map .int)) δ1)
    (q : ∀ M' H' δ' p ho y, Ω y δ' → Ex M M' → I3 Z B W M' H' σ δ' → H' p = some ho → ODAt Z M' ho y → M' p = none → B.h p = none → (∀ i, ¬ Own σ δ' i p) → Q (.ref p) H') : rSortedSet w [.ref A] H1 Q := by
  obtain ⟨us, h1, h2, h3⟩ := h
  have l := nodup_le (l := few) h2 fun k hk => hf k ((h3 k).mp hk)
  exact ⟨A, _, _, rfl, h1, by omega, fun ns p asc mem _ hp => newO (o := .lst _) (y := .lst _) I1 hp (AtL.ofInts ns) (f ns asc fun k => (mem k).trans (by simp)) e q⟩
end
end G
set_option Elab.async false
set_option linter.all false
set_option maxRecDepth 100000
set_option maxHeartbeats 4000000
/-! own dicts with ints as keys; bits -/
namespace GX
open PySem PySem.Spec PyProof.Rows L2
end GX
namespace G
open PySem L2
end G
namespace G
open PySem L2
end G
namespace G
open PySem L2
end G
set_option Elab.async false
set_option linter.all false
set_option maxRecDepth 100000
/-! list.extend by a bare tuple -/
namespace GX
open PySem PySem.Spec PyProof.Rows L2
end GX
namespace G
open PySem L2
end G
set_option Elab.async false
set_option linter.all false
set_option maxRecDepth 100000
set_option maxHeartbeats 4000000
/-! tuples of texts: t < u, and sorted of a list of them, the first of which is empty -/
namespace GX
open PySem PySem.Spec PySem.W PySem.SeqAt PyProof.Rows L2
end GX
namespace GX
open PySem PySem.Spec PySem.W PySem.SeqAt PyProof.Rows L2
end GX
namespace G
open PySem L2
section
variable {Z : Wd} {M : Hp} {δ : List S} {te ta tb : TE} {Φ : D → List S → Prop} {Ω : OD → List S → Prop} {Λ : List D → List S → Prop}
theorem py_S : ∀ l : List Str, pyL (l.map .str) = l.map .str
  | [] => rfl
  | x :: l => by rw [List.map_cons, List.map_cons, ← py_S l]; rfl
/-- xs * k -/
theorem xo_rep (h : XE Z ta δ fun a δ1 => XE Z tb δ1 fun b δ2 => ∃ (xs : List D) (k : Nat), a = .lst xs ∧ b = .int (k : Int) ∧ k ≤ 1000 ∧ xs.length ≤ 1000 ∧ Ω (.lst (List.replicate k xs).flatten) δ2) : XO Z (tOp rRep ta tb) δ Ω := XO.mk fun B W M H σ Q I q =>
  h.run I fun M1 H1 δ1 x a h1 e1 I1 at1 => XE.run h1 I1 fun M2 H2 δ2 y b h2 e2 I2 at2 => by
    obtain ⟨xs, k, rfl, rfl, k1, k2, f⟩ := h2
    cases at2
    cases at1.mono e2 with
    | @lst p us _ m l c =>
      have sz : us.length * ((k : Int)).toNat ≤ sizeLine := by
        rw [Int.toNat_natCast, l]
        exact Nat.le_trans (Nat.mul_le_mul k2 k1) (by decide)
      refine ⟨p, _, us, rfl, rfl, I2.ex _ _ m, by omega, by omega, sz, fun r hr => newO (o := .lst _) (y := .lst _) I2 hr ?_ f (e1.tr e2) q⟩
      have rep : ∀ k : Nat, AtL Z M2 (List.replicate k us).flatten (List.replicate k xs).flatten := fun k => by
        induction k with
        | zero => exact .nil
        | succ k ih => rw [List.replicate_succ, List.replicate_succ, List.flatten_cons, List.flatten_cons]; exact AtL.app ⟨l, c⟩ ih
      rw [Int.toNat_natCast]
      exact rep k
end
end G
set_option Elab.async false
set_option linter.all false
set_option maxRecDepth 100000
set_option maxHeartbeats 4000000
/-! calls whose arguments all have names -/
namespace GX
open PySem PySem.Spec PyProof.Rows L2 ClX
end GX
namespace G
open PySem L2
end G
set_option Elab.async false
set_option linter.all false
set_option maxRecDepth 100000
set_option maxHeartbeats 4000000
/-! where nothing is being shown: repr and str of tuples and lists, defs that use them, the law's own call -/
namespace GG
open PySem PySem.Spec PyProof.Rows L2
/-- what a def promises where nothing is being shown -/
structure FnG (P : Program) (w : World) (K : PySem.W.Frag) (mg : Str → Option Value) (base : Heap) (CX : CXT) (k : Nat) (f : Addr) (fd : FuncData) (ps : List Str) (sp : Sp) : Prop where
  wide : ∀ {vs H Q E}, sp vs H Q E → vs.length = ps.length
  go : ∀ {A outer s H args us vs Q E}, A.guards = some [] → Room k A → Env0 P w K mg base A outer s H → BindsTo s fd args (ps.zip us) → Vals vs us → sp vs H Q E →
    codeAny (model P w) A (.call (.ref f) args) (CR CX outer P w H s Q E) s
section
variable {P : Program} {w : World} {K : PySem.W.Frag} {mg : Str → Option Value} {base : Heap} {k : Nat} {f : Addr} {fd : FuncData} {ps : List Str} {sp : Sp}
theorem FnG.of {CX : CXT} (F : FnOk P w K mg base CX k f fd ps sp) : FnG P w K mg base CX k f fd ps sp :=
  ⟨fun h => F.len _ _ _ _ h, fun _ hr e0 hb r hs => F.run _ _ _ _ _ _ _ _ _ hr e0 hb r hs⟩
theorem FnG.imp {CX : CXT} {sp' : Sp} (F : FnG P w K mg base CX k f fd ps sp) (h : ∀ vs H Q E, sp' vs H Q E → sp vs H Q E) : FnG P w K mg base CX k f fd ps sp' :=
  ⟨fun q => F.wide (h _ _ _ _ q), fun g hr e0 hb r hs => F.go g hr e0 hb r (h _ _ _ _ hs)⟩
theorem FnG.made {CX : CXT} {name qual : Str} {params : Arguments} {body : List Stmt} {scope : Scope} {dV kV doc pm cdv ct oc : Value} {an od : Option Addr} {osl : Array (Option Value)} {N : List Str}
    (lk : K.lookup f = some ⟨oc, od, .func (PySem.W.fnOf name qual params body scope dV kV doc pm an cdv ct), osl⟩) (hcd : PySem.W.codeIn K cdv qual = true) (S : FnScope N ps scope) (len : ∀ vs H Q E, sp vs H Q E → vs.length = ps.length)
    (bd : ∀ (A : Around) (outer : List Env) (s : Shared) (H : Hp) (vs : List V) (Q : VK) (E : XK), A.guards = some [] → Room k (A.deeper (envOfC qual scope s.heap.objs.size f cdv)) → sp vs H Q E →
      ∃ t, PSs (cxOf CX P w K mg base N qual scope f cdv A outer s H E) body t ∧ t { nx := fun _ H' => Q .non H', rt := Q } (start N vs) H) : FnG P w K mg base CX (k + 1) f (PySem.W.fnOf name qual params body scope dV kV doc pm an cdv ct) ps sp := by
  refine ⟨fun h => len _ _ _ _ h, fun {A outer s H args us vs Q E} g hr e0 hb rv hs => ?_⟩
  have kept : ∀ b o, base.get? b = some o → s.heap.get? b = some o := fun b o e => (e0.bs b o e).1
  have kin : K.In s.heap := e0.mod.kin.keeps kept
  have hkind : ∀ y ∈ ps.zip us, scope.names.lookup y.1 = some .local ∨ (scope.names.lookup y.1 = some .cell ∧ ((cellsFrom (s.heap.objs.size + 1) scope.names []).lookup y.1).isSome = true) := by
    rintro ⟨n, v⟩ hy
    exact (S.par n (List.of_mem_zip hy).1).imp id fun q => ⟨q, PySem.W.cellsFrom_some _ _ _ (.inl q)⟩
  have body := codeAny_call_function (prog := P) (w := w) (args := args) (R := CR CX outer P w H s Q E) hr.depth (kin _ _ lk) rfl S.co S.gen rfl
    (PySem.W.codeRec_of kin hcd)
  refine body (hb _ _ _ _ (wpAny_newFunctionEnv_cells S.kind hkind fun env he s1 x => ?_))
  cases he
  refine ⟨(e0.mod.nolimit.keeps kept).keeps x.toInCall.keep, codeAny_func ?_⟩
  obtain ⟨t, ht, hq⟩ := bd A outer s H vs Q E g (hr.deeper _) hs
  refine wpAny_mono (ht.run [] s1 (start N vs) H _ (inv_start S hr.hd e0 (len _ _ _ _ hs) rv x) hq) (fun fl s' z => ?_) fun _ _ z => z
  have close : ∀ {σ2 : L2.St} {H2 : Hp} {v : V} {u : Value}, Inv (cxOf CX P w K mg base N qual scope f cdv A outer s H E) [] σ2 H2 s' → RelV v u → Q v H2 → CE outer P w H s Q u s' := fun J ru q => ⟨_, _, J.os, J.bare, J.base, J.hok, ru, q⟩
  cases fl with
  | ret u => exact let ⟨_, _, _, J, ru, q⟩ := z; close J ru q
  | next => exact let ⟨_, _, J, q⟩ := z; close (v := V.non) J rfl q
  | brk => exact let ⟨_, _, _, q⟩ := z; False.elim q
  | cont => exact let ⟨_, _, _, q⟩ := z; False.elim q
end
/-! ### repr, str -/
end GG
namespace G
open PySem L2
end G
set_option Elab.async false
set_option linter.all false
set_option maxRecDepth 100000
set_option maxHeartbeats 4000000
/-! instances that one def alone holds: made, their methods called; slices of the script -/
namespace G
open PySem L2
end G
set_option Elab.async false
set_option linter.all false
set_option maxRecDepth 100000
set_option maxHeartbeats 4000000
/-! calls within comprehensions within comprehensions: their rules know K -/
namespace GK
open PySem L2 G
theorem call_list_ofK {X : Cx} {K : PySem.W.Frag} (h : X.K = K) : CallR X (.type "list") (fun xs H Q => ∃ p ys, xs = [.ref p] ∧ (SqL K H p ys ∨ SqT K H p ys) ∧ ∀ (l : Addr), H l = none → Q (.ref l) (upd H l (.lst ys))) := by subst h; exact call_list_of
end GK
namespace G
open PySem L2
end G
set_option Elab.async false
set_option linter.all false
set_option maxRecDepth 100000
set_option maxHeartbeats 4000000
/-! defs that borrow their first two arguments, each an object that the caller alone holds -/
namespace G
open PySem L2
end G
set_option Elab.async false
set_option linter.all false
set_option maxRecDepth 100000
set_option maxHeartbeats 4000000
/-! tuples known to be plain ones; own dicts whose keys are such tuples -/
namespace G
open PySem L2
end G
set_option Elab.async false
set_option linter.all false
set_option maxRecDepth 100000
set_option maxHeartbeats 4000000
/-! dicts of lists that grow; dict comprehensions; dicts that are walked; sorted of any alike data -/
namespace GX
open PySem PySem.Spec PySem.W PySem.SeqAt PyProof.Rows L2
/-- a name and a lot -/
def encP (p : Str × List Str) : PyData := .tuple [.str p.1, .tuple (p.2.map .str)]
end GX
namespace G
open PySem L2
section
variable {Z : Wd} {M H M' H' : Hp} {B : Bas} {W : List (Nat × Addr)} {σ σ' : St} {δ δ' : List S}
variable {te ta tb ty tv tk : TE} {tt : TT} {s1 s2 : TS} {Φ : D → List S → Prop} {Ω : OD → List S → Prop} {Λ : List D → List S → Prop} {bs vs : List Nat} {P : Po} {wi : TI} {g : TG}
/-! ### dicts that are walked -/
/-! ### {k: v for ..} -/
/-! ### a dict of lists that grow: held loosely -/
structure Fr (B : Bas) (M : Hp) (σ : St) (δ : List S) (q : Addr) : Prop where
  m : M q = none
  b : B.h q = none
  o : ∀ i, ¬ Own σ δ i q
structure Lo (Z : Wd) (B : Bas) (M H : Hp) (σ : St) (δ : List S) (p : Addr) (gs : List (Key × List D)) (qs : List Addr) : Prop where
  hp : H p = some (.dK ((gs.map (·.1)).zip (qs.map V.ref)))
  len : qs.length = gs.length
  nd : (p :: qs).Nodup
  fr : ∀ q ∈ p :: qs, Fr B M σ δ q
  ls : ∀ (i : Nat) q x, qs[i]? = some q → gs[i]? = some x → ∃ vs, H q = some (.lst vs) ∧ AtL Z M vs x.2
  kn : (gs.map (·.1)).Nodup
variable {p : Addr} {gs : List (Key × List D)} {qs : List Addr}
theorem Lo.here (L : Lo Z B M H σ δ p gs qs) {q : Addr} (hq : q ∈ p :: qs) : ∃ o, H q = some o := by
  rcases List.mem_cons.mp hq with rfl | hq
  · exact ⟨_, L.hp⟩
  · obtain ⟨i, hi⟩ := List.mem_iff_getElem?.mp hq
    have : i < gs.length := by rw [← L.len]; exact (List.getElem?_eq_some_iff.mp hi).1
    obtain ⟨vs, e, _⟩ := L.ls i q _ hi (List.getElem?_eq_getElem this)
    exact ⟨_, e⟩
theorem Lo.nt (L : Lo Z B M H σ δ p gs qs) {q : Addr} {o : HO} (hq : q ∈ p :: qs) (e : H q = some o) : NT o := by
  rcases List.mem_cons.mp hq with rfl | hq
  · rw [L.hp] at e; cases e; exact fun _ e => nomatch e
  · obtain ⟨i, hi⟩ := List.mem_iff_getElem?.mp hq
    have : i < gs.length := by rw [← L.len]; exact (List.getElem?_eq_some_iff.mp hi).1
    obtain ⟨vs, e2, _⟩ := L.ls i q _ hi (List.getElem?_eq_getElem this)
    rw [e2] at e; cases e; exact fun _ e => nomatch e
theorem Lo.move (L : Lo Z B M H σ δ p gs qs) (ex : Ex M M') (st : ∀ q o, q ∈ p :: qs → H q = some o → H' q = some o ∧ Fr B M' σ' δ' q) : Lo Z B M' H' σ' δ' p gs qs := by
  refine ⟨(st p _ (by simp) L.hp).1, L.len, L.nd, fun q hq => ?_, fun i q x hi hx => ?_, L.kn⟩
  · obtain ⟨o, e⟩ := L.here hq
    exact (st q o hq e).2
  · obtain ⟨vs, e, a⟩ := L.ls i q x hi hx
    exact ⟨vs, (st q _ (List.mem_cons_of_mem _ (List.mem_of_getElem? hi)) e).1, a.mono ex⟩
/-- code that runs in between does not touch it -/
theorem Lo.keep {W2 : List (Nat × Addr)} (L : Lo Z B M H σ δ p gs qs) (hW : ∀ i a, (i, a) ∈ W2 ↔ Own σ δ i a) (ex : Ex M M') (J : I3 Z ⟨H, M⟩ W2 M' H' σ' δ') : Lo Z B M' H' σ' δ' p gs qs :=
  L.move ex fun q o hq e => by
    have f := L.fr q hq
    obtain ⟨a, b, c⟩ := J.stays e f.m (fun i hi => f.o i ((hW i q).mp hi)) (L.nt hq e)
    exact ⟨a, c, f.b, b⟩
theorem Lo.same (L : Lo Z B M H σ δ p gs qs) (ex : Ex M M') (k : ∀ a o, H a = some o → H' a = some o) (m : ∀ a o, H a = some o → M a = none → M' a = none) : Lo Z B M' H' σ δ p gs qs :=
  L.move ex fun q o hq e => by
    have f := L.fr q hq
    exact ⟨k q o e, m q o e f.m, f.b, f.o⟩
variable {N : List S → List (Key × List D) → Prop}
/-- the list at place i grows -/
theorem Lo.grow {i : Nat} {q : Addr} {k : Key} {xs : List D} {d : D} {vs : List V} {v : V} (L : Lo Z B M H σ δ p gs qs) (hq : qs[i]? = some q) (hg : gs[i]? = some (k, xs)) (hv : H q = some (.lst vs)) (ha : AtL Z M vs xs) (hd : At Z M v d) :
    Lo Z B M (upd H q (.lst (vs ++ [v]))) σ δ p (gs.set i (k, xs ++ [d])) qs := by
  have nd := List.nodup_cons.mp L.nd
  have hp : p ≠ q := fun e => nd.1 (e ▸ List.mem_of_getElem? hq)
  have ks : (gs.set i (k, xs ++ [d])).map (·.1) = gs.map (·.1) := by
    apply List.ext_getElem?
    intro j
    rw [List.getElem?_map, List.getElem?_map, List.getElem?_set]
    by_cases e : i = j
    · subst e
      rw [if_pos rfl, if_pos (List.getElem?_eq_some_iff.mp hg).1, hg]; rfl
    · rw [if_neg e]
  refine ⟨by rw [upd_ne hp, ks]; exact L.hp, by rw [List.length_set]; exact L.len, L.nd, L.fr, fun j r x hj hx => ?_, by rw [ks]; exact L.kn⟩
  by_cases e : i = j
  · subst e
    rw [hq] at hj; cases hj
    rw [List.getElem?_set_self (List.getElem?_eq_some_iff.mp hg).1] at hx; cases hx
    exact ⟨_, upd_same, AtL.app ha (.one hd)⟩
  · rw [List.getElem?_set_ne e] at hx
    have hr : r ≠ q := fun z => by
      subst z
      obtain ⟨l1, e1⟩ := List.getElem?_eq_some_iff.mp hq
      obtain ⟨l2, e2⟩ := List.getElem?_eq_some_iff.mp hj
      exact e ((List.getElem_inj nd.2).mp (e1.trans e2.symm))
    rw [upd_ne hr]
    exact L.ls j r x hj hx
def pairD (p : Str × List Str) : D := .tup [.str p.1, .tup (p.2.map .str)]
theorem pair_py (p : Str × List Str) : pla (pairD p) = true ∧ py (pairD p) = GX.encP p := by
  unfold pairD GX.encP
  constructor
  · simp [pla, plaL, pla_strs]
  · simp [py, pyL, py_S]
end
end G
set_option Elab.async false
set_option linter.all false
set_option maxRecDepth 100000
set_option maxHeartbeats 4000000
/-! min(xs, key=len, default=None) -/
namespace GX
open PySem PySem.Spec PySem.W PyProof.Rows L2
end GX
namespace G
open PySem L2
end G
set_option Elab.async false
set_option linter.all false
set_option maxRecDepth 100000
set_option maxHeartbeats 4000000
/-! sorted of ints; lots in tuples, compared; an int in a tuple of ints -/
namespace G
open PySem L2
end G
set_option Elab.async false
set_option linter.all false
set_option maxRecDepth 100000
set_option maxHeartbeats 4000000
/-! bit_length; a dict locked where a comprehension of two clauses walks it -/
namespace G
open PySem L2
end G
set_option Elab.async false
set_option linter.all false
set_option maxRecDepth 100000
set_option maxHeartbeats 4000000
/-! min of alike data -/
namespace GX
open PySem PySem.Spec PySem.W PySem.SeqAt PyProof.Rows L2
end GX
namespace G
open PySem L2
end G
namespace GX
open PySem PySem.Spec PySem.W PySem.SeqAt PyProof.Rows L2
end GX
namespace G
open PySem L2
end G
set_option Elab.async false
set_option linter.all false
set_option maxRecDepth 100000
set_option maxHeartbeats 4000000
/-! {k: v} with a tuple as its key -/
namespace GX
open PySem PySem.Spec PyProof.Rows L2
end GX
namespace G
open PySem L2
end G
set_option Elab.async false
set_option linter.all false
set_option maxRecDepth 100000
set_option maxHeartbeats 4000000
/-! deals: a list of a list of ints and an int, which one slot alone holds -/
namespace G
open PySem L2
section
variable {Z : Wd} {B : Bas} {W : List (Nat × Addr)} {M H M' H' : Hp} {σ : St} {δ : List S} {ts : TA} {te ta tb : TE} {Ψ : S → List S → Prop} {Φ : D → List S → Prop} {bs : List Nat} {P : Po}
/-! ### what is in a deal -/
theorem ix0 {K : PySem.W.Frag} {p q : Addr} {n : Int} {Q : VK} (h : H p = some (.lst [.ref q, .int n])) (k : Q (.ref q) H) : rIx K (.ref p) (.int 0) H Q := .inl ⟨p, _, 0, _, rfl, rfl, SqL.of h, rfl, k⟩
theorem ix1 {K : PySem.W.Frag} {p q : Addr} {n : Int} {Q : VK} (h : H p = some (.lst [.ref q, .int n])) (k : Q (.int n) H) : rIx K (.ref p) (.int 1) H Q := .inl ⟨p, _, 1, _, rfl, rfl, SqL.of h, rfl, k⟩
variable {i : Nat} {q : Addr} {cs : List Int} {n : Int}
end
end G
set_option Elab.async false
set_option linter.all false
set_option maxRecDepth 100000
set_option maxHeartbeats 4000000
namespace GX
open PySem PySem.Spec PySem.W PyProof.Rows L2
end GX
namespace G
open PySem L2
end G
set_option Elab.async false
set_option linter.all false
set_option maxRecDepth 100000
set_option maxHeartbeats 4000000
namespace G
open PySem L2
end G
set_option Elab.async false
set_option linter.all false
set_option maxRecDepth 100000
set_option maxHeartbeats 4000000
namespace GX
open PySem PySem.Spec PySem.W PySem.SeqAt PyProof.Rows L2
end GX
namespace G
open PySem L2
end G
set_option Elab.async false
set_option linter.all false
set_option maxRecDepth 100000
set_option maxHeartbeats 4000000
namespace G
open PySem L2
end G
set_option Elab.async false
set_option linter.all false
set_option maxRecDepth 100000
set_option maxHeartbeats 4000000
/-! a comprehension that walks an own list, which stays as it is -/
namespace G
open PySem L2
end G
set_option Elab.async false
set_option linter.all false
set_option maxRecDepth 100000
set_option maxHeartbeats 4000000
/-! dict(list of pairs) whose keys are tuples of texts and whole numbers -/
namespace GX
open PySem PySem.Spec PyProof.Rows L2
end GX
namespace G
open PySem L2
end G
set_option Elab.async false
set_option linter.all false
set_option maxRecDepth 100000
set_option maxHeartbeats 4000000
/-! sorted lots that are keys afterwards -/
namespace G
open PySem L2
end G
set_option Elab.async false
set_option linter.all false
set_option maxRecDepth 100000
set_option maxHeartbeats 4000000
/-! dicts as data: d.get(k), isinstance, dict(pairs); max of ints -/
namespace G
open PySem L2
end G
set_option Elab.async false
set_option linter.all false
set_option maxRecDepth 100000
set_option maxHeartbeats 4000000
/-! list(d.values()); dicts looked at, changed, popped, handed on -/
namespace GX
open PySem PySem.Spec PySem.W PySem.SeqAt PyProof.Rows L2
end GX
set_option Elab.async false
set_option linter.all false
set_option maxRecDepth 100000
set_option maxHeartbeats 4000000
/-! own dicts: looked at, changed, popped, lent, locked where they are returned -/
namespace G
open PySem L2
end G
set_option Elab.async false
set_option linter.all false
set_option maxRecDepth 100000
set_option maxHeartbeats 4000000
/-! list(d) of an own dict keyed by tuples: tuples of the heap become known -/
namespace GX
open PySem L2
end GX
namespace G
open PySem L2
end G
set_option Elab.async false
set_option linter.all false
set_option maxRecDepth 100000
set_option maxHeartbeats 4000000
/-! sets whose members are tuples of texts and of such tuples: adding, and sorted of them -/
namespace GN
open PySem PySem.Spec PyProof.Rows L2
section
variable {P : Program} {w : World} {A : Around} {E : Value → Shared → Prop} {s : Shared}
/-! ### what a search asks of a key -/
/-- the tuple at a is the key k -/
abbrev Nk (P : Program) (w : World) (h : Heap) (k : NestedKey) (a : Addr) : Prop := (nestedKind P w).is h k a
/-! ### the set as it stands -/
def ent (w : World) (L : List (Addr × NestedKey)) : List (Int × Value) := L.map fun p => (p.2.hash w, Value.ref p.1)
theorem ent_get {L : List (Addr × NestedKey)} {i : Nat} {p : Addr × NestedKey} (h : L[i]? = some p) : (ent w L)[i]? = some (p.2.hash w, Value.ref p.1) := by
  unfold ent; rw [List.getElem?_map, h]; rfl
structure Ns (P : Program) (w : World) (h : Heap) (a : Addr) (L : List (Addr × NestedKey)) (es : Array (Int × Value)) (ep : Nat) (t : SetTable) : Prop where
  ob : ∃ o, h.get? a = some o ∧ o.ExactSet ∧ o.data = .set es ep t
  row : es.toList = ent w L
  tab : TabOk t (L.map fun p => p.2.hash w)
  nd : (L.map (·.2)).Nodup
  key : ∀ p ∈ L, Nk P w h p.2 p.1
  led : w.params.followText "set-order" = true ∨ t.led = true
  room : L.length * 5 < t.mask * 3
  few : L.length < 64
variable {a : Addr} {L : List (Addr × NestedKey)} {es : Array (Int × Value)} {ep : Nat} {t : SetTable}
theorem Ns.at (R : Ns P w s.heap a L es ep t) {i : Nat} {p : Addr × NestedKey} (h : L[i]? = some p) : es[i]? = some (p.2.hash w, Value.ref p.1) := by
  rw [← Array.getElem?_toList, R.row]; exact ent_get h
theorem Ns.sz (R : Ns P w s.heap a L es ep t) : es.size = L.length := by
  rw [← Array.length_toList, R.row]; exact List.length_map _
theorem fit_of {n : Nat} (dm : t.dummies = #[]) (h : t.place.size = n) (l : n ≤ t.mask) : t.fits n = true := by
  unfold SetTable.fits SetTable.fill
  rw [dm]
  simp only [Bool.and_eq_true, beq_iff_eq, decide_eq_true_eq]
  exact ⟨h, by simp; omega⟩
theorem Ns.fit (R : Ns P w s.heap a L es ep t) : t.fits es.size = true := by
  have h1 := R.tab.sz
  rw [List.length_map] at h1
  have h2 := R.room
  exact fit_of R.tab.dm (h1.trans R.sz.symm) (by rw [R.sz]; omega)
/-! ### one more member -/
theorem Nk.same {h h' : Heap} {k : NestedKey} {b : Addr} {o : Obj} (hk : Nk P w h k b) (ho : h.get? a = some o) (hd : o.data = .set es ep t) (sb : Heap.SameBut a h h') : Nk P w h' k b :=
  nestedKind_stays.stays (knd := nestedKind P w) (fun c u vs n hc hu => by
    have ne : c ≠ a := fun e => by
      subst e
      rw [ho] at hc; cases hc
      rw [hd] at hu; cases hu
    exact (sb.2 c ne).trans hc) hk
theorem fm_all {α β : Type} {f : α → Option β} {g : α → β} : ∀ {l : List α}, (∀ x ∈ l, f x = some (g x)) → l.filterMap f = l.map g
  | [], _ => rfl
  | x :: l, h => by rw [List.filterMap_cons_some (h x (by simp)), List.map_cons, fm_all fun y hy => h y (List.mem_cons_of_mem _ hy)]
theorem fm_range {α : Type} (xs : List α) : (List.range xs.length).filterMap (fun i => xs[i]?) = xs := by
  have e : (List.range xs.length).map (fun i => xs[i]?) = xs.map some := by
    refine List.ext_getElem? fun i => ?_
    rw [List.getElem?_map, List.getElem?_map]
    rcases Nat.lt_or_ge i xs.length with c | c
    · rw [List.getElem?_range c]
      show some xs[i]? = _
      rw [List.getElem?_eq_getElem c]; rfl
    · rw [List.getElem?_eq_none (by simpa using c), List.getElem?_eq_none c]; rfl
  have := congrArg (List.filterMap id) e
  rw [List.filterMap_map, List.filterMap_map] at this
  simpa [Function.comp_def] using this
theorem laid (row : es.toList = ent w L) {order : Array Nat} (hp : order.toList.Perm (List.range L.length)) :
    ∃ L2, (order.filterMap (es[·]?)).toList = ent w L2 ∧ L2.Perm L ∧ (L2.map fun p => p.2.hash w) = order.toList.map fun i => (es.map (·.1)).getD i 0 := by
  have lt : ∀ i ∈ order.toList, i < L.length := fun i hi => List.mem_range.mp (hp.mem_iff.mp hi)
  have get : ∀ i, es[i]? = (L[i]?).map fun p : Addr × NestedKey => (p.2.hash w, Value.ref p.1) := fun i => by
    rw [← Array.getElem?_toList, row, ent, List.getElem?_map]
  refine ⟨order.toList.filterMap fun i => L[i]?, ?_, ?_, ?_⟩
  · rw [Array.toList_filterMap, ent, List.map_filterMap]
    congr 1
    funext i
    exact get i
  · have := hp.filterMap fun i => L[i]?
    rwa [fm_range] at this
  · rw [List.map_filterMap]
    refine fm_all fun i hi => ?_
    have il := lt i hi
    have e1 : (es.map (·.1))[i]? = some ((L[i]).2.hash w) := by
      rw [Array.getElem?_map, get, List.getElem?_eq_getElem il]; rfl
    rw [List.getElem?_eq_getElem il, Array.getD_eq_getD_getElem?, e1]; rfl
end
end GN
set_option Elab.async false
set_option linter.all false
set_option maxRecDepth 100000
set_option maxHeartbeats 4000000
/-! sets of pairs of a name and a lot -/
namespace GN
open PySem PySem.Spec PySem.W PySem.SeqAt PyProof.Rows L2 GX
/-- a name and a lot -/
abbrev Pr := Str × List Str
def kP (p : Pr) : NestedKey := .tup [.text p.1, .tup (p.2.map .text)]
/-! ### the set's own object -/
/-- what the set's own object tells -/
def Nw (w : World) (h : Heap) (a : Addr) (L : List (Addr × NestedKey)) : Prop := ∃ (es : Array (Int × Value)) (ep : Nat) (t : SetTable), (∃ o, h.get? a = some o ∧ o.ExactSet ∧ o.data = .set es ep t) ∧ es.toList = ent w L ∧ TabOk t (L.map fun p => p.2.hash w) ∧ (L.map (·.2)).Nodup ∧
  (w.params.followText "set-order" = true ∨ t.led = true) ∧ L.length * 5 < t.mask * 3 ∧ L.length < 64
end GN
set_option Elab.async false
set_option linter.all false
set_option maxRecDepth 100000
set_option maxHeartbeats 4000000
/-! {(x, lot) for xs in .. for x in ..}, and sorted of it -/
namespace GN
open PySem PySem.Spec PySem.SeqAt PyProof.Rows L2 GX PpSet
def laidK (Lp : List (Addr × Pr)) : List (Addr × NestedKey) := Lp.map fun x => (x.1, kP x.2)
/-- a set of pairs in the layer: who its members are and where they stand -/
def SetPO (w : World) (a : Addr) (Lp : List (Addr × Pr)) : HO := .ext fun h => Nw w h a (laidK Lp)
theorem Nw.at {w : World} {h h' : Heap} {a : Addr} {L : List (Addr × NestedKey)} (R : Nw w h a L) (k : ∀ o, h.get? a = some o → h'.get? a = some o) : Nw w h' a L := by
  obtain ⟨es, ep, t, ⟨o, ho, r⟩, q⟩ := R
  exact ⟨es, ep, t, ⟨o, k o ho, r⟩, q⟩
/-- y joins the set at D, then go on -/
def joinsN (w : World) (K : PySem.W.Frag) (D : Addr) (y : V) (H : Hp) (on : Hp → Prop) : Prop := ∃ (b : Addr) (p : Pr) (Lp : List (Addr × Pr)), y = .ref b ∧ Dp K H (.ref b) (encP p) ∧ H D = some (SetPO w D Lp) ∧ (∀ x ∈ Lp, Dp K H (.ref x.1) (encP x.2)) ∧ Lp.length + 1 < 64 ∧
  ∀ Lp', (p ∈ Lp.map (·.2) → Lp' = Lp) → (p ∉ Lp.map (·.2) → Lp'.Perm ((b, p) :: Lp)) → on (upd H D (SetPO w D Lp'))
end GN
set_option Elab.async false
set_option linter.all false
set_option maxRecDepth 100000
set_option maxHeartbeats 4000000
/-! sorted({(x, lot) for xs in .. for x in ..}) -/
set_option Elab.async false
set_option linter.all false
set_option maxRecDepth 100000
set_option maxHeartbeats 4000000
namespace G
open PySem L2
section
variable {Z : Wd} {M H M' H' : Hp} {B : Bas} {W : List (Nat × Addr)} {σ σ' : St} {δ : List S}
variable {te : TE} {tt : TT} {Ω : OD → List S → Prop} {bs vs vs1 : List Nat} {w : World}
/-- the set at A has just these members -/
def SetHasP (Z : Wd) (w : World) (M H : Hp) (A : Addr) (acc : List GN.Pr) : Prop := ∃ Lp : List (Addr × GN.Pr), H A = some (GN.SetPO w A Lp) ∧ (Lp.map (·.2)).Nodup ∧ (∀ p, p ∈ Lp.map (·.2) ↔ p ∈ acc) ∧ ∀ x ∈ Lp, At Z M (.ref x.1) (pairD x.2)
theorem nodup_leP : ∀ {us l : List GN.Pr}, us.Nodup → (∀ k ∈ us, k ∈ l) → us.length ≤ l.length
  | [], _, _, _ => Nat.zero_le _
  | u :: us, l, n, h => by
    obtain ⟨n1, n2⟩ := List.nodup_cons.mp n
    have hu := h u List.mem_cons_self
    have := nodup_leP (us := us) (l := l.erase u) n2 fun k hk => (List.mem_erase_of_ne (fun (e : k = u) => n1 (by rw [← e]; exact hk))).mpr (h k (List.mem_cons_of_mem _ hk))
    rw [List.length_erase_of_mem hu] at this
    have := List.length_pos_of_mem hu
    rw [List.length_cons]; omega
theorem pair_ref {v : V} {p : GN.Pr} (a : At Z M v (pairD p)) : ∃ b, v = .ref b := by
  unfold pairD at a
  cases a with
  | tup => exact ⟨_, rfl⟩
theorem dp_P {v : V} {p : GN.Pr} (a : At Z M v (pairD p)) (e : Ex M H) : Dp Z.K H v (GX.encP p) := by
  have := At.dp _ _ a e (pair_py p).1
  rw [(pair_py p).2] at this
  exact this
theorem SetHasP.join {A : Addr} {acc few : List GN.Pr} {v : V} {p : GN.Pr} {on : Hp → Prop} (h : SetHasP Z w M H A acc) (ex : Ex M H) (lf : few.length < 63) (hf : ∀ k ∈ acc ++ [p], k ∈ few) (a : At Z M v (pairD p))
    (go : ∀ o, NT o → SetHasP Z w M (upd H A o) A (acc ++ [p]) → on (upd H A o)) : GN.joinsN w Z.K A v H on := by
  obtain ⟨Lp, h1, h2, h3, h4⟩ := h
  obtain ⟨b, rfl⟩ := pair_ref a
  have ml : ∀ q ∈ Lp.map (·.2), q ∈ few := fun q hq => hf q (List.mem_append_left _ ((h3 q).mp hq))
  have len := nodup_leP h2 ml
  rw [List.length_map] at len
  refine ⟨b, p, Lp, rfl, dp_P a ex, h1, fun x hx => dp_P (h4 x hx) ex, by omega, fun Lp' j1 j2 => go _ (fun _ e => nomatch e) ?_⟩
  by_cases c : p ∈ Lp.map (·.2)
  · obtain rfl := j1 c
    refine ⟨Lp', upd_same, h2, fun q => ?_, h4⟩
    rw [h3, List.mem_append, List.mem_singleton]
    exact ⟨.inl, fun z => z.elim id fun z => z ▸ (h3 p).mp c⟩
  · have pm := j2 c
    refine ⟨Lp', upd_same, (pm.map (·.2)).nodup_iff.mpr (by rw [List.map_cons]; exact List.nodup_cons.mpr ⟨c, h2⟩), fun q => ?_, fun x hx => ?_⟩
    · rw [(pm.map (·.2)).mem_iff, List.map_cons, List.mem_cons, h3, List.mem_append, List.mem_singleton]
      exact or_comm
    · rcases List.mem_cons.mp (pm.mem_iff.mp hx) with e | hx
      · rw [e]; exact a
      · exact h4 x hx
theorem SetHasP.mono {A : Addr} {acc : List GN.Pr} (h : SetHasP Z w M H A acc) (e : Ex M M') (k : H' A = H A) : SetHasP Z w M' H' A acc := by
  obtain ⟨Lp, h1, h2, h3, h4⟩ := h
  exact ⟨Lp, k.trans h1, h2, h3, fun x hx => (h4 x hx).mono e⟩
end
end G
set_option Elab.async false
set_option linter.all false
set_option maxRecDepth 100000
set_option maxHeartbeats 4000000
/-! sets of tuples: whether two have the same members -/
set_option Elab.async false
set_option linter.all false
set_option maxRecDepth 100000
set_option maxHeartbeats 8000000
/-! set(xs), xs a list of tuples -/
set_option Elab.async false
set_option linter.all false
set_option maxRecDepth 100000
set_option maxHeartbeats 4000000
/-! sets of texts: whether two have the same members -/
set_option Elab.async false
set_option linter.all false
set_option maxRecDepth 100000
set_option maxHeartbeats 4000000
/-! set(xs) != set(ys), lists of tuples or of texts -/
namespace G
open PySem L2
end G
set_option Elab.async false
set_option linter.all false
set_option maxRecDepth 100000
set_option maxHeartbeats 4000000
/-! zip of two lists -/
namespace G
open PySem L2
end G
namespace G
open PySem L2
end G
set_option Elab.async false
set_option linter.all false
set_option maxRecDepth 100000
set_option maxHeartbeats 4000000
/-! {k: v for x in xs for y in ys} -/
namespace GX
open PySem PySem.Spec PyProof.Rows L2 PpSet
end GX
set_option Elab.async false
set_option linter.all false
set_option maxRecDepth 100000
set_option maxHeartbeats 4000000
namespace G
open PySem L2
end G
set_option Elab.async false
set_option linter.all false
set_option maxRecDepth 100000
set_option maxHeartbeats 4000000
/-! in, of a list or a tuple of data -/
namespace GX
open PySem PySem.Spec PyProof.Rows L2
end GX
namespace G
open PySem L2
end G
set_option Elab.async false
set_option linter.all false
set_option maxRecDepth 100000
set_option maxHeartbeats 4000000
/-! name = {k: v for ..}, locked at once -/
namespace GX
open PySem PySem.Spec PyProof.Rows L2 PpSet
end GX
set_option Elab.async false
set_option linter.all false
set_option maxRecDepth 100000
set_option maxHeartbeats 4000000
/-! a list within a dict (keys tuples) that grows there: held loosely until it is full -/
namespace G
open PySem L2
section
variable {Z : Wd} {M H M' H' : Hp} {B : Bas} {W : List (Nat × Addr)} {σ σ' : St} {δ δ' : List S}
variable {te ta tb ty tv tk : TE} {tt : TT} {s1 s2 : TS} {Φ : D → List S → Prop} {bs vs : List Nat} {P : Po} {wi : TI} {g : TG} {q : Addr} {xs : List D}
structure L1 (Z : Wd) (B : Bas) (M H : Hp) (σ : St) (δ : List S) (q : Addr) (xs : List D) : Prop where
  ls : ∃ vs, H q = some (.lst vs) ∧ AtL Z M vs xs
  fr : Fr B M σ δ q
theorem L1.keep {W2 : List (Nat × Addr)} (L : L1 Z B M H σ δ q xs) (hW : ∀ i a, (i, a) ∈ W2 ↔ Own σ δ i a) (ex : Ex M M') (J : I3 Z ⟨H, M⟩ W2 M' H' σ' δ') : L1 Z B M' H' σ' δ' q xs := by
  obtain ⟨vs, e, al⟩ := L.ls
  obtain ⟨a, b, c⟩ := J.stays e L.fr.m (fun i hi => L.fr.o i ((hW i q).mp hi)) (fun _ e => nomatch e)
  exact ⟨⟨vs, a, al.mono ex⟩, c, L.fr.b, b⟩
theorem L1.same (L : L1 Z B M H σ δ q xs) (ex : Ex M M') (k : ∀ a o, H a = some o → H' a = some o) (m : ∀ a o, H a = some o → M a = none → M' a = none) : L1 Z B M' H' σ δ q xs := by
  obtain ⟨vs, e, al⟩ := L.ls
  exact ⟨⟨vs, k _ _ e, al.mono ex⟩, m _ _ e L.fr.m, L.fr.b, L.fr.o⟩
variable {N : List S → List D → Prop}
end
end G
set_option Elab.async false
set_option linter.all false
set_option maxRecDepth 100000
set_option maxHeartbeats 4000000
/-! a dict keyed by tuples that is locked: a datum (D.dicT) -/
namespace GX
open PySem PySem.Spec PySem.W PySem.SeqAt PyProof.Rows L2
end GX
namespace G
open PySem L2
end G
set_option Elab.async false
set_option linter.all false
set_option maxRecDepth 100000
set_option maxHeartbeats 4000000
/-! the place of a text in a text -/
namespace GX
open PySem PySem.Spec PySem.W PySem.SeqAt PyProof.Rows L2
section
variable {X : Cx}
variable {K : PySem.W.Frag} {T name id : String} {r : V → List V → Hp → VK → Prop} {o e : Expr} {es : List Expr} {to : TE} {t : TA} {apos cpos : Pos}
theorem pe_bmK (hK : X.K = K) (pa : PlainAttrs T) (slot : Slot T name id) (hty : typeOf (.builtin id) = pure (.type "method_descriptor")) (hm : MtR X id r) (ho : PE X o to) (ha : PA X (e :: es) t)
    (hbase : attributeBase o name X.env (eval o X.env) = eval o X.env := by rfl)
    (hfew : ((backTo cpos (starEach (e :: es) X.env)).all (fun x => !x.1) && (backToKw cpos (keywordEach [] X.env)).all (fun x => x.1.isSome)
      && decide ((e :: es).length + ([] : List Keyword).length + (if ([] : List Keyword).isEmpty then 0 else 1) < 30)) = true := by rfl)
    (hline : (apos.endLine == cpos.line) = true := by rfl) (hs : starEach (e :: es) X.env = (false, eval e X.env) :: starEach es X.env := by rfl) (hplain : (backTo cpos (starEach es X.env)).any (·.1) = false := by rfl) :
    PE X (.Call (.Attribute o name apos) (e :: es) [] cpos) (tBM K T r to t) := by
  subst hK
  exact pe_bm pa slot hty hm ho ha hbase hfew hline hs hplain
end
end GX
namespace G
open PySem L2
end G
set_option Elab.async false
set_option linter.all false
set_option maxRecDepth 100000
set_option maxHeartbeats 4000000
/-! errors without a context; an except suite that raises another error from None -/
namespace GX
open PySem PySem.Spec PyProof.Rows L2
section
variable {P : Program} {w : World} {K : PySem.W.Frag} {mg : Str → Option Value} {base : Heap} {k : Nat} {f : Addr} {fd : FuncData} {ps : List Str} {sp : Sp}
/-- a def whose errors have no context -/
theorem okN {qual x : Str} {st : Stmt} {N : List Str} (F : Fun K x qual st f fd) (S : FnScope N ps (defScope st)) (len : ∀ vs H Q E, sp vs H Q E → vs.length = ps.length)
    (bd : ∀ (cdv : Value) (A : Around) (outer : List Env) (s : Shared) (H : Hp) (vs : List V) (Q : VK) (E : XK), Room k (A.deeper (envOfC qual (defScope st) s.heap.objs.size f cdv)) → sp vs H Q E →
      ∃ t, PSs (cxOf (L2N.CX P w) P w K mg base N qual (defScope st) f cdv A outer s H E) (defBody st) t ∧ t { nx := fun _ H' => Q .non H', rt := Q } (start N vs) H) : FnOk P w K mg base (L2N.CX P w) (k + 1) f fd ps sp := by
  have ⟨_, _, _, _, _, _, cd, _, _, e, lk, code⟩ := F.ex
  subst e
  exact fn_of lk code S len fun A o s H vs Q E r h => bd cd A o s H vs Q E r h
/-- a def that is called in an except suite -/
theorem okH {qual x : Str} {st : Stmt} {N : List Str} (F : Fun K x qual st f fd) (S : FnScope N ps (defScope st)) (len : ∀ vs H Q E, sp vs H Q E → vs.length = ps.length)
    (bd : ∀ (X : Cx) (H : Hp) (vs : List V) (Q : VK) (E : XK), X.N = N → X.K = K → X.env.scope = defScope st → sp vs H Q E → ∃ t, PSs X (defBody st) t ∧ t { nx := fun _ H' => Q .non H', rt := Q } (start N vs) H) : L2H.FnH P w K mg base CX0 (k + 1) f fd ps sp := by
  have ⟨_, _, _, _, _, _, cd, _, _, e, lk, code⟩ := F.ex
  subst e
  exact L2H.fn_ofH lk code S len fun A o s H vs Q E q _ _ h => bd (L2H.cxH CX0 P w K mg base N qual (defScope st) f cd A o s H E q) H vs Q E rfl rfl rfl h
end
section
variable {X : Cx} {CX : CXT} {k : Nat} {C fI : Addr} {fd : FuncData} {ps : List Str} {sp : Sp} {x : Str} {p pos pos2 : Pos} {e : Expr} {es : List Expr} {t : TA} {W : WX}
/-- an error is made where nothing is handled: it has no context -/
theorem pmk_oexN (o : OexC X.K C) (i1 : PySem.W.findIn X.K (.ref C) "__init__" = some (some (.ref fI))) (i2 : PySem.W.typeIn X.K (.ref fI) = some (.type "function")) (Fi : FnOk X.prog X.w X.K X.mg X.base CX0 k fI fd ps sp) (hr : Room (k + 1) X.A)
    (b : Binds X.K fd ps []) (hg : Gl X x) (hm : X.mg x = some (.ref C)) (ha : PA X (e :: es) t) (hdb : (x == ("__debug__" : Str)) = false := by decide)
    (he : starEach (e :: es) X.env = (false, eval e X.env) :: starEach es X.env := by rfl) (hpl : (backTo pos (starEach es X.env)).any (·.1) = false := by rfl) :
    L2N.PMk X (.Call (.Name x p) (e :: es) [] pos) (tMkO C sp [] t) := fun pins s σ H Q J h => by
  have ⟨_, _, _, _, mm, _, _, _, _, _, _, _, _, _, _, isC, inB⟩ := o.cls
  refine wpAny_Call_Name_kw (ld_glob J hg hm (PySem.W.callWith_K (h₀ := X.base) J.ok.mod.kin o.kC (thn (ha.run pos pins s σ H _ J h) ?_) he hpl) hdb)
  rintro us ⟨hh, gg, rr, tt, oo⟩ ⟨vs, G, J1, rel, short, wish⟩
  refine ⟨J1.kIn, ?_⟩
  show wpAny _ _ (call (.ref C) us) _ _ _
  have step : hh.objs.size ≤ hh.objs.size + 1 := by omega
  have want := wish (hh.objs.size + 1) (J1.hok.fresh step)
  have there : ((hh.push (PySem.W.kdv_tup us)).push (PySem.HandSPX.excO C hh.objs.size)).get? (hh.objs.size + 1) = some (PySem.HandSPX.excO C hh.objs.size) := by heap_get
  have stay : ∀ b o, hh.get? b = some o → ((hh.push (PySem.W.kdv_tup us)).push (PySem.HandSPX.excO C hh.objs.size)).get? b = some o := fun b o z =>
    Heap.get?_push_of_some _ (Heap.get?_push_of_some _ z)
  have J2 := J1.laid (t' := tt) stay step (exo_ok (C := C) there)
  have rel2 : Vals (V.ref (hh.objs.size + 1) :: (vs ++ [])) (Value.ref (hh.objs.size + 1) :: (us ++ [])) := .cons rfl (rel.append .nil)
  have many : (Value.ref (hh.objs.size + 1) :: us ++ []).length = ps.length := rel2.length.symm.trans (Fi.len _ _ _ _ want)
  have few : us.length ≤ sizeLine := by have := rel.length; rw [sizeLine_eq]; omega
  have body := Fi.run _ X.stack _ _ ⟨Value.ref (hh.objs.size + 1) :: us, []⟩ _ _ _ (fun _ _ _ => False) (hr.make C us []) (J2.env0.make C us []) (b _ (Value.ref (hh.objs.size + 1) :: us) J2.kIn many) rel2 want
  refine wpAny_call (PySem.HandSPX.call_own F.excBase_ValueError (fun Y => PySem.HandSPX.refsVE_contains Y mm inB) (J1.kIn _ _ isC) (PySem.W.looks_findIn J1.kIn i1) (fun self => PySem.W.bind_fn J1.kIn self i2) few (codeAny_mono body ?_))
  rintro r ⟨h2, g2, d2, t2, o2⟩ out
  match r, out with
  | .error er, out => exact out.elim
  | .ok .next, out => exact out.elim
  | .ok .brk, out => exact out.elim
  | .ok .cont, out => exact out.elim
  | .ok (.ret u), ⟨v, H2, same, bare, un, ok2, rv, ⟨ev, d, fs, a1, a2, a3, fin⟩⟩ =>
    cases ev
    have ⟨t0, G0, K1, K2, K3, K4, K5⟩ := mk_end0 (d2 := d2) (t2 := t2) J1 step stay un ok2 same bare a1 a2 a3
    exact ⟨rv, hh.objs.size + 1, _, _, ⟨G0, g2, d2, t2, o2⟩, _, .ref C, some d, rfl, K1, K2, K3, K4, ⟨rfl, rfl, fun _ z => by cases z; rfl⟩, rfl, rfl, K5, rfl, bare, raises_own o.exC o.tyC, fin⟩
theorem ps_raiseON (hc : X.calm = true) (tk : L2N.Takes X W) (o : OexC X.K C) (i1 : PySem.W.findIn X.K (.ref C) "__init__" = some (some (.ref fI))) (i2 : PySem.W.typeIn X.K (.ref fI) = some (.type "function")) (F : FnOk X.prog X.w X.K X.mg X.base CX0 k fI fd ps sp) (hr : Room (k + 1) X.A)
    (b : Binds X.K fd ps []) (hg : Gl X x) (hm : X.mg x = some (.ref C)) (ha : PA X (e :: es) t) (hdb : (x == ("__debug__" : Str)) = false := by decide)
    (he : starEach (e :: es) X.env = (false, eval e X.env) :: starEach es X.env := by rfl) (hpl : (backTo pos (starEach es X.env)).any (·.1) = false := by rfl) :
    PS X (.Raise (some (.Call (.Name x p) (e :: es) [] pos)) none pos2) (tRaiseO C sp W t) := L2N.ps_raise hc tk (pmk_oexN o i1 i2 F hr b hg hm ha hdb he hpl)
/-- raise C(..) from None, in an except suite -/
theorem ps_raiseFN {j : Nat} {cpos : Pos} (hot : L2H.HotC X) (tk : L2.Takes X W) (o : OexC X.K C) (i1 : PySem.W.findIn X.K (.ref C) "__init__" = some (some (.ref fI))) (i2 : PySem.W.typeIn X.K (.ref fI) = some (.type "function")) (F : L2H.FnH X.prog X.w X.K X.mg X.base CX0 k fI fd ps sp) (hr : L2H.RoomH (k + 1) X.A)
    (b : Binds X.K fd ps []) (hg : Gl X x) (hm : X.mg x = some (.ref C)) (ha : PA X (e :: es) t) (hdb : (x == ("__debug__" : Str)) = false := by decide)
    (he : starEach (e :: es) X.env = (false, eval e X.env) :: starEach es X.env := by rfl) (hpl : (backTo pos (starEach es X.env)).any (·.1) = false := by rfl) :
    PS X (.Raise (some (.Call (.Name x p) (e :: es) [] pos)) (some (.Constant .none j cpos)) pos2) (tRaiseO C sp W t) := L2H.ps_raiseHN hot tk (L2H.pmk5_oexH o i1 i2 F hr hot b pass0 hg hm ha hdb he hpl)
end
/-- try: .. except c: .., the suite may raise -/
def tOnly (K : PySem.W.Frag) (c : Value) (tb : WX → TS) (tu : Addr → Value → Option Addr → TS) (Wout : WX) : TS := fun D σ H => tb (wOnly K c tu Wout D) D σ H
theorem ps_tryF {X : Cx} {x : Str} {c : Value} {body suite : List Stmt} {b₀ : Stmt} {np pos pos' : Pos} {tb : WX → TS} {tu : Addr → Value → Option Addr → TS} {Wout : WX} (hs : X.stack = X.env :: X.outer) (hf : X.env.frame = some X.env.locals) (hc : Names X x c)
    (hpa : ∀ hd : Option Value, PassesOwnAt (model X.prog X.w) (X.A.mark hd) X.A X.env X.xe) (tk : L2.Takes X Wout)
    (b : ∀ (W : WX) (pn : List (Addr × Obj)) (xe : Value → Shared → Prop), L2N.Takes (X.tr pn xe) W → PassesOwn (model X.prog X.w) X.A X.env xe → ∃ t, PSs (X.tr pn xe) body t ∧ tb W = t)
    (u : ∀ (a : Addr) (oe : Obj) (cls : Value) (d : Option Addr) (pn : List (Addr × Obj)), L2.Takes (L2H.suiteX X a ((a, oe) :: pn)) Wout → L2H.HotC (L2H.suiteX X a ((a, oe) :: pn)) → PSs (L2H.suiteX X a ((a, oe) :: pn)) (b₀ :: suite) (tu a cls d)) :
    PS X (.Try body [.ExceptHandler (some (.Name x np)) none (b₀ :: suite) pos'] [] [] pos) (tOnly X.K c tb tu Wout) :=
  L2H.ps_try_onlyX hs hf hc hpa tk (fun W pn xe t _ po => let ⟨_, h, e⟩ := b W pn xe t po; e ▸ h) fun a oe cls d pn _ _ t hot => u a oe cls d pn t hot
section
variable {X : Cx} {CX : CXT} {k : Nat} {C p1 g1 : Addr} {mc : Value} {sp : Sp} {E : L2.St → XK} {a b : Expr} {es : List Expr} {m : Str} {pos apos : Pos} {ta : TE} {t : TA}
/-- C.m(..), m a classmethod that may raise -/
def tCMethSD (C : Addr) (sp : Sp) (E : L2.St → XK) (ta : TE) (t : TA) : TE := fun σ H Q => ta σ H fun x H1 => x = .ref C ∧ t σ H1 fun vs H2 => sp (.ref C :: vs) H2 Q (E σ)
theorem pe_cmethSD {pl : Sem Bool} (onto : PE X a ta) (rd : ClX.CRead X.K C mc) (cm : ClX.CMet X.K C mc m p1 g1) (F : FnR X.prog X.w X.K X.mg X.base CX k g1 sp) (hr : Room k X.A) (pass : ∀ σ, PassesAt CX X σ (E σ)) (with' : PA X (b :: es) t)
    (hst : starEach (b :: es) X.env = (false, eval b X.env) :: starEach es X.env := by rfl) (hpl : (backTo pos (starEach es X.env)).any (·.1) = false := by rfl)
    (ht : eval (.Call (.Attribute a m apos) (b :: es) [] pos) X.env = (do
      let ov ← eval a X.env
      standAt apos.atName
      let (f, first) ← holding [ov] (getMethod ov m pl)
      callWith pos f first (backTo pos (starEach (b :: es) X.env)) (backToKw pos (keywordEach [] X.env))) := by rfl) :
    PE X (.Call (.Attribute a m apos) (b :: es) [] pos) (tCMethSD C sp E ta t) :=
  ⟨fun pins s σ H Q J want => PySem.W.methodCall_KW (pl := pl) (thn (onto.run pins s σ H _ J want) fun u s1 ⟨x, H1, J1, rx, ex, q⟩ => by
    subst ex
    obtain rfl : u = Value.ref C := rx
    refine ClX.getmethcm_ok J1 rd cm fun s2 J2 => ClX.callwith_cm J2 (ClX.base_none J1 (Nat.le_refl _)) cm.fi (thn (with'.run pos _ s2 σ H1 _ J2 q) ?_) hst hpl
    rintro us s3 ⟨vs, H2, J3, rel, q2⟩
    refine ⟨⟨ClX.pin_at J3, J3.kIn⟩, ?_⟩
    have done : wpAny (model X.prog X.w) X.A (call (.ref s1.heap.objs.size) us) (EP X ((s1.heap.objs.size, PySem.W.methodObj (.ref g1) (.ref C)) :: pins) σ Q) X.xe s3 := wpAny_call (PySem.W.method_call (ClX.pin_at J3) (codeAny_mono (F X.A X.stack s3 H2 (.ref C :: us) (.ref C :: vs) Q (E σ) hr J3.env0 (.cons rfl rel) q2) fun res s4 out => by
      match res, out with
      | .error er, out => exact pass σ _ H2 s3 er s4 J3 out
      | .ok (.ret u), out => exact J3.after out))
    exact thn done fun _ _ z => ClX.unpinE z) ht⟩
end
end GX
namespace G
open PySem L2
section
variable {Z : Wd} {δ : List S} {bs : List Nat} {P : Po} {cc : Value} {tb : WX → TS} {tu : Addr → Value → Option Addr → TS} {Wout : WX}
theorem xs_tryO (h : ∀ D : Ends, XS Z bs (tb (wOnly Z.K cc tu Wout D)) δ { P with X := fun B W M => W.map (·.1) = bs ∧ EndsOk Z B W M P D }) :
    XS Z bs (GX.tOnly Z.K cc tb tu Wout) δ P := fun B W M H σ E hb I e => h E B W M H σ E hb I ⟨e.nx, e.rt, e.bk, e.ct, fun M' x => ⟨hb, e.mono x⟩⟩
theorem xw_only {c : Nat} {D : Ends} {x : G.D} (em : PySem.W.exmOne Z.K (.ref (Z.er c).1) cc = some true) (h : ∀ a dd, XS Z bs (tu a (.ref (Z.er c).1) (some dd)) δ P) :
    XW Z (wOnly Z.K cc tu Wout D) (fun B W M => W.map (·.1) = bs ∧ EndsOk Z B W M P D) c x δ := fun B W M H σ d v ⟨hb, e⟩ I _ _ =>
  ⟨true, em, fun _ p _ => h p d B W M H σ D hb I e, nofun⟩
variable {ts : TA} {Ψ : S → List S → Prop} {Φ : G.D → List S → Prop} {X : XX} {te : TE} {i : Nat}
/-- x.append(what may raise) -/
theorem xrx_app (hv : ∃ xs, δ[i]? = some (.own (.lst xs))) (h : XRX Z X te δ (onD fun d δ1 => ∃ xs, δ1[i]? = some (.own (.lst xs)) ∧ xs.length < 1000000 ∧ Φ .non (δ1.set i (.own (.lst (xs ++ [d])))))) : XRX Z X (tBM Z.K "list" rAppend (tVar i) (tCons te tNil)) δ (onD Φ) := fun B W M H σ Q I hX q => by
  obtain ⟨_, hy⟩ := hv
  obtain ⟨_, e, p, ho, rfl, k0, k1, _⟩ := I.sl i _ hy
  obtain ⟨_, rfl, _⟩ := k1.lstI
  refine ⟨_, e, .inl ⟨rfl, _, SqL.of k0⟩, h B W M H σ _ I hX fun M2 H2 δ2 y s h2 e2 I2 r2 => ?_⟩
  cases s with
  | d b =>
    obtain ⟨xs, hx, hl, f⟩ := h2
    obtain ⟨_, e', p', _, rfl, hp', hy', _⟩ := I2.sl i _ hx
    rw [e] at e'; cases e'
    obtain ⟨vs, rfl, al⟩ := hy'.lstI
    refine ⟨_, vs, y, rfl, rfl, hp', ?_, q M2 _ _ _ (.d .non) f e2 (I2.write e hx (ho := .lst _) (y' := .lst _) (AtL.app al (.one r2))) .non⟩
    rw [al.len]; exact Nat.lt_of_lt_of_le hl (by decide)
  | _ => exact h2.elim
theorem xrx_cmeth {F : FRX} {C : Addr} {Wx : WX} (h : XA Z ts δ fun es δ1 => F (.ref C :: es) (fun s => Ψ s δ1) fun c x => XW Z Wx X c x δ1) : XRX Z X (GX.tCMethSD C (fun vs H Q E => spRX Z F (vs ++ []) H Q E) (WE Wx) (tC (.ref C)) ts) δ Ψ := fun B W M H σ Q I hX q => by
  refine ⟨rfl, h B W M H σ _ I fun M2 H2 δ2 ws es h3 e2 I2 al2 => ?_⟩
  show spRX Z F ((.ref C :: ws) ++ []) H2 Q _
  rw [List.append_nil]
  exact ⟨M2, _, _, _, I2.ex, AtL.cons .ref al2, h3, fun M' H' v s g a1 a2 a3 a4 r => q M' H' δ2 v s g (e2.tr a1) (I2.after a1 a2 a3 a4) (ret_res I2 (fun _ _ o => o) r),
    fun M' H' c d v x g a1 a2 a3 a4 hd av => g B W M' H' σ d v (hX _ (e2.tr a1)) (I2.after a1 a2 a3 a4) hd av⟩
end
end G
set_option Elab.async false
set_option linter.all false
set_option maxRecDepth 100000
set_option maxHeartbeats 4000000
namespace GK
open PySem L2 G
def top (i : Nat) : Stmt := PySem.Challenge.pw_leavelots_k06_texts_of_rooms.main.body.getD i (.Pass ⟨0, 0, 0, 0⟩)
abbrev s_is_name : Stmt := (top 5)
abbrev N_is_name : List Str := ["value", "letter"]
theorem sc_is_name : FnScope N_is_name ["value"] (defScope s_is_name) := ⟨rfl, rfl, rfl, by decide +kernel, rfl, by decide +kernel, by decide +kernel⟩
abbrev s_is_sequence : Stmt := (top 6)
abbrev N_is_sequence : List Str := ["value"]
theorem sc_is_sequence : FnScope N_is_sequence ["value"] (defScope s_is_sequence) := ⟨rfl, rfl, rfl, by decide +kernel, rfl, by decide +kernel, by decide +kernel⟩
abbrev s_are_names : Stmt := (top 7)
abbrev N_are_names : List Str := ["value", "thing"]
theorem sc_are_names : FnScope N_are_names ["value"] (defScope s_are_names) := ⟨rfl, rfl, rfl, by decide +kernel, rfl, by decide +kernel, by decide +kernel⟩
abbrev s_lot_of : Stmt := (top 8)
abbrev N_lot_of : List Str := ["names"]
theorem sc_lot_of : FnScope N_lot_of ["names"] (defScope s_lot_of) := ⟨rfl, rfl, rfl, by decide +kernel, rfl, by decide +kernel, by decide +kernel⟩
abbrev s_InvalidRule_init : Stmt := (inClass (top 11) 0)
abbrev N_InvalidRule_init : List Str := ["self", "word"]
theorem sc_InvalidRule_init : FnScope N_InvalidRule_init ["self", "word"] (defScope s_InvalidRule_init) := ⟨rfl, rfl, rfl, by decide +kernel, rfl, by decide +kernel, by decide +kernel⟩
abbrev s_InvalidText_init : Stmt := (inClass (top 13) 0)
abbrev N_InvalidText_init : List Str := ["self", "at"]
theorem sc_InvalidText_init : FnScope N_InvalidText_init ["self", "at"] (defScope s_InvalidText_init) := ⟨rfl, rfl, rfl, by decide +kernel, rfl, by decide +kernel, by decide +kernel⟩
abbrev s_Rule_init : Stmt := (inClass (top 16) 0)
abbrev N_Rule_init : List Str := ["self", "name", "gone"]
theorem sc_Rule_init : FnScope N_Rule_init ["self", "name", "gone"] (defScope s_Rule_init) := ⟨rfl, rfl, rfl, by decide +kernel, rfl, by decide +kernel, by decide +kernel⟩
abbrev s_Rule_eq : Stmt := (inClass (top 16) 1)
abbrev N_Rule_eq : List Str := ["self", "other"]
theorem sc_Rule_eq : FnScope N_Rule_eq ["self", "other"] (defScope s_Rule_eq) := ⟨rfl, rfl, rfl, by decide +kernel, rfl, by decide +kernel, by decide +kernel⟩
abbrev s_read_rule : Stmt := (top 17)
abbrev N_read_rule : List Str := ["line", "name", "rest"]
theorem sc_read_rule : FnScope N_read_rule ["line"] (defScope s_read_rule) := ⟨rfl, rfl, rfl, by decide +kernel, rfl, by decide +kernel, by decide +kernel⟩
abbrev s_Room_init : Stmt := (inClass (top 19) 0)
abbrev N_Room_init : List Str := ["self", "rules", "at", "rule", "name"]
theorem sc_Room_init : FnScope N_Room_init ["self", "rules"] (defScope s_Room_init) := ⟨rfl, rfl, rfl, by decide +kernel, rfl, by decide +kernel, by decide +kernel⟩
abbrev s_Room_read : Stmt := (inClass (top 19) 1)
abbrev N_Room_read : List Str := ["cls", "text", "lines", "rules", "at", "line"]
theorem sc_Room_read : FnScope N_Room_read ["cls", "text"] (defScope s_Room_read) := ⟨rfl, rfl, rfl, by decide +kernel, rfl, by decide +kernel, by decide +kernel⟩
abbrev s_Room_eq : Stmt := (inClass (top 19) 7)
abbrev N_Room_eq : List Str := ["self", "other"]
theorem sc_Room_eq : FnScope N_Room_eq ["self", "other"] (defScope s_Room_eq) := ⟨rfl, rfl, rfl, by decide +kernel, rfl, by decide +kernel, by decide +kernel⟩
abbrev s_lw_box : Stmt := (top 21)
abbrev N_lw_box : List Str := ["_law_script", "_law_k", "_law_own", "_law_cell", "_law_seed"]
theorem sc_lw_box : FnScope N_lw_box ["_law_script", "_law_k", "_law_own"] (defScope s_lw_box) := ⟨rfl, rfl, rfl, by decide +kernel, rfl, by decide +kernel, by decide +kernel⟩
abbrev s_lw_take : Stmt := (top 22)
abbrev N_lw_take : List Str := ["_law_box_here", "_law_bound", "_law_digit", "_law_raw", "_law_wide"]
theorem sc_lw_take : FnScope N_lw_take ["_law_box_here", "_law_bound"] (defScope s_lw_take) := ⟨rfl, rfl, rfl, by decide +kernel, rfl, by decide +kernel, by decide +kernel⟩
abbrev s_lw_pick : Stmt := (top 23)
abbrev N_lw_pick : List Str := ["_law_box_here", "_law_items"]
theorem sc_lw_pick : FnScope N_lw_pick ["_law_box_here", "_law_items"] (defScope s_lw_pick) := ⟨rfl, rfl, rfl, by decide +kernel, rfl, by decide +kernel, by decide +kernel⟩
abbrev s_lw_mixed : Stmt := (top 24)
abbrev N_lw_mixed : List Str := ["_law_box_here", "_law_items", "_law_left", "_law_found", "_law_turn"]
theorem sc_lw_mixed : FnScope N_lw_mixed ["_law_box_here", "_law_items"] (defScope s_lw_mixed) := ⟨rfl, rfl, rfl, by decide +kernel, rfl, by decide +kernel, by decide +kernel⟩
abbrev s_lw_value : Stmt := (top 25)
abbrev N_lw_value : List Str := ["_law_box_here", "_law_some", "_law_deep", "_law_turn"]
theorem sc_lw_value : FnScope N_lw_value ["_law_box_here"] (defScope s_lw_value) := ⟨rfl, rfl, rfl, by decide +kernel, rfl, by decide +kernel, by decide +kernel⟩
abbrev s_lw_names : Stmt := (top 26)
abbrev N_lw_names : List Str := ["_law_box_here", "_law_bound", "_law_some"]
theorem sc_lw_names : FnScope N_lw_names ["_law_box_here", "_law_bound"] (defScope s_lw_names) := ⟨rfl, rfl, rfl, by decide +kernel, rfl, by decide +kernel, by decide +kernel⟩
abbrev s_lw_rules : Stmt := (top 27)
abbrev N_lw_rules : List Str := ["_law_box_here", "_law_most", "_law_names_here", "_law_found", "_law_is_calm", "_law_at", "_law_name", "_law_others", "_law_turn", "_law_wants", "_law_other"]
theorem sc_lw_rules : FnScope N_lw_rules ["_law_box_here", "_law_most"] (defScope s_lw_rules) := ⟨rfl, rfl, rfl, by decide +kernel, rfl, by decide +kernel, by decide +kernel⟩
abbrev s_lw_lot : Stmt := (top 28)
abbrev N_lw_lot : List Str := ["_law_some", "_law_found", "_law_name", "_law_one"]
theorem sc_lw_lot : FnScope N_lw_lot ["_law_some"] (defScope s_lw_lot) := ⟨rfl, rfl, rfl, by decide +kernel, rfl, by decide +kernel, by decide +kernel⟩
abbrev s_lw_made : Stmt := (top 29)
abbrev N_lw_made : List Str := ["_law_rules_here", "_law_name", "_law_wants"]
theorem sc_lw_made : FnScope N_lw_made ["_law_rules_here"] (defScope s_lw_made) := ⟨rfl, rfl, rfl, by decide +kernel, rfl, by decide +kernel, by decide +kernel⟩
abbrev s_lw_rule_text : Stmt := (top 30)
abbrev N_lw_rule_text : List Str := ["_law_rule"]
theorem sc_lw_rule_text : FnScope N_lw_rule_text ["_law_rule"] (defScope s_lw_rule_text) := ⟨rfl, rfl, rfl, by decide +kernel, rfl, by decide +kernel, by decide +kernel⟩
abbrev s_lw_text : Stmt := (top 31)
abbrev N_lw_text : List Str := ["_law_rules_here", "_law_rule"]
theorem sc_lw_text : FnScope N_lw_text ["_law_rules_here"] (defScope s_lw_text) := ⟨rfl, rfl, rfl, by decide +kernel, rfl, by decide +kernel, by decide +kernel⟩
abbrev s_lw_is_name : Stmt := (top 32)
abbrev N_lw_is_name : List Str := ["_law_word", "_law_letter"]
theorem sc_lw_is_name : FnScope N_lw_is_name ["_law_word"] (defScope s_lw_is_name) := ⟨rfl, rfl, rfl, by decide +kernel, rfl, by decide +kernel, by decide +kernel⟩
abbrev s_lw_rule_of : Stmt := (top 33)
abbrev N_lw_rule_of : List Str := ["_law_line", "_law_words", "_law_wants", "_law_bad", "_law_word"]
theorem sc_lw_rule_of : FnScope N_lw_rule_of ["_law_line"] (defScope s_lw_rule_of) := ⟨rfl, rfl, rfl, by decide +kernel, rfl, by decide +kernel, by decide +kernel⟩
abbrev s_lw_due : Stmt := (top 34)
abbrev N_lw_due : List Str := ["_law_text_here", "_law_found", "_law_at", "_law_line", "_law_rule"]
theorem sc_lw_due : FnScope N_lw_due ["_law_text_here"] (defScope s_lw_due) := ⟨rfl, rfl, rfl, by decide +kernel, rfl, by decide +kernel, by decide +kernel⟩
abbrev s_lw_told : Stmt := (top 35)
abbrev N_lw_told : List Str := ["_law_text_here", "_law_found", "e"]
theorem sc_lw_told : FnScope N_lw_told ["_law_text_here"] (defScope s_lw_told) := ⟨rfl, rfl, rfl, by decide +kernel, rfl, by decide +kernel, by decide +kernel⟩
abbrev s_lw_bent : Stmt := (top 36)
abbrev N_lw_bent : List Str := ["_law_box_here", "_law_lines", "_law_form", "_law_at", "_law_some", "_law_words", "_law_spot", "_law_more"]
theorem sc_lw_bent : FnScope N_lw_bent ["_law_box_here", "_law_lines"] (defScope s_lw_bent) := ⟨rfl, rfl, rfl, by decide +kernel, rfl, by decide +kernel, by decide +kernel⟩
abbrev s_lw_people : Stmt := (top 37)
abbrev N_lw_people : List Str := ["_law_rules_here", "_law_found", "_law_name", "_law_wants", "_law_one"]
theorem sc_lw_people : FnScope N_lw_people ["_law_rules_here"] (defScope s_lw_people) := ⟨rfl, rfl, rfl, by decide +kernel, rfl, by decide +kernel, by decide +kernel⟩
abbrev s_lw_main : Stmt := (top 38)
abbrev N_lw_main : List Str := ["_law_script", "_law_k", "_law_box_here", "_law_turn", "_law_told_here", "_law_lines", "_law_more", "_law_text_here", "_law_due_here", "_law_found", "_law_thing", "_law_name", "_law_wants"]
theorem sc_lw_main : FnScope N_lw_main ["_law_script"] (defScope s_lw_main) := ⟨rfl, rfl, rfl, by decide +kernel, rfl, by decide +kernel, by decide +kernel⟩
/-- where what the text needs stands -/
structure Ads where
  C_Rule : Addr
  C_Room : Addr
  C_InvalidRule : Addr
  C_InvalidText : Addr
  f_is_name : Addr
  fd_is_name : FuncData
  f_is_sequence : Addr
  fd_is_sequence : FuncData
  f_are_names : Addr
  fd_are_names : FuncData
  f_lot_of : Addr
  fd_lot_of : FuncData
  f_InvalidRule_init : Addr
  fd_InvalidRule_init : FuncData
  f_InvalidText_init : Addr
  fd_InvalidText_init : FuncData
  f_Rule_init : Addr
  fd_Rule_init : FuncData
  e_Rule_init : Addr
  f_Rule_eq : Addr
  fd_Rule_eq : FuncData
  f_read_rule : Addr
  fd_read_rule : FuncData
  f_Room_init : Addr
  fd_Room_init : FuncData
  e_Room_init : Addr
  f_Room_read : Addr
  fd_Room_read : FuncData
  p_Room_read : Addr
  f_Room_eq : Addr
  fd_Room_eq : FuncData
  f_lw_box : Addr
  fd_lw_box : FuncData
  f_lw_take : Addr
  fd_lw_take : FuncData
  f_lw_pick : Addr
  fd_lw_pick : FuncData
  f_lw_mixed : Addr
  fd_lw_mixed : FuncData
  f_lw_value : Addr
  fd_lw_value : FuncData
  f_lw_names : Addr
  fd_lw_names : FuncData
  f_lw_rules : Addr
  fd_lw_rules : FuncData
  f_lw_lot : Addr
  fd_lw_lot : FuncData
  f_lw_made : Addr
  fd_lw_made : FuncData
  f_lw_rule_text : Addr
  fd_lw_rule_text : FuncData
  f_lw_text : Addr
  fd_lw_text : FuncData
  f_lw_is_name : Addr
  fd_lw_is_name : FuncData
  f_lw_rule_of : Addr
  fd_lw_rule_of : FuncData
  f_lw_due : Addr
  fd_lw_due : FuncData
  f_lw_told : Addr
  fd_lw_told : FuncData
  f_lw_bent : Addr
  fd_lw_bent : FuncData
  f_lw_people : Addr
  fd_lw_people : FuncData
  f_lw_main : Addr
  fd_lw_main : FuncData
structure Txt (K : PySem.W.Frag) (mg : Str → Option Value) (a : Ads) : Prop where
  cl_Rule : Cls K a.C_Rule
  m_Rule : mg "Rule" = some (.ref a.C_Rule)
  mk_Rule : Mk K a.C_Rule a.f_Rule_init
  isC_Rule : C8.InsC K a.C_Rule
  no_Rule_name : NoAttr K a.C_Rule "name"
  no_Rule_gone : NoAttr K a.C_Rule "gone"
  nn_Rule : GX.NoNe K a.C_Rule
  nf_Rule_str : PySem.W.notFirst K a.C_Rule (.type "str") = true
  nf_Rule_Room : PySem.W.notFirst K a.C_Rule (.ref a.C_Room) = true
  cl_Room : Cls K a.C_Room
  m_Room : mg "Room" = some (.ref a.C_Room)
  mk_Room : Mk K a.C_Room a.f_Room_init
  isC_Room : C8.InsC K a.C_Room
  no_Room_rules : NoAttr K a.C_Room "rules"
  no_Room_names : NoAttr K a.C_Room "names"
  nn_Room : GX.NoNe K a.C_Room
  nf_Room_str : PySem.W.notFirst K a.C_Room (.type "str") = true
  nf_Room_Rule : PySem.W.notFirst K a.C_Room (.ref a.C_Rule) = true
  m_InvalidRule : mg "InvalidRule" = some (.ref a.C_InvalidRule)
  oe_InvalidRule : OexC K a.C_InvalidRule
  ei_InvalidRule : PySem.W.findIn K (.ref a.C_InvalidRule) "__init__" = some (some (.ref a.f_InvalidRule_init))
  et_InvalidRule : PySem.W.typeIn K (.ref a.f_InvalidRule_init) = some (.type "function")
  en_InvalidRule : PySem.W.findIn K (.ref a.C_InvalidRule) "word" = some none
  xf_InvalidRule : XfC K a.C_InvalidRule
  xc_InvalidRule : ExcC K a.C_InvalidRule
  em_InvalidRule : PySem.W.exmOne K (.ref a.C_InvalidRule) (.ref a.C_InvalidRule) = some true
  m_InvalidText : mg "InvalidText" = some (.ref a.C_InvalidText)
  oe_InvalidText : OexC K a.C_InvalidText
  ei_InvalidText : PySem.W.findIn K (.ref a.C_InvalidText) "__init__" = some (some (.ref a.f_InvalidText_init))
  et_InvalidText : PySem.W.typeIn K (.ref a.f_InvalidText_init) = some (.type "function")
  en_InvalidText : PySem.W.findIn K (.ref a.C_InvalidText) "at" = some none
  xf_InvalidText : XfC K a.C_InvalidText
  xc_InvalidText : ExcC K a.C_InvalidText
  em_InvalidText : PySem.W.exmOne K (.ref a.C_InvalidText) (.ref a.C_InvalidText) = some true
  kt_Room : ∀ n ∈ ["NoneType", "bool", "int", "str", "list", "tuple"], PySem.W.kitOne K (.type n) (.ref a.C_Room) = some false
  ko_Rule_Room : PySem.W.kitOne K (.ref a.C_Rule) (.ref a.C_Room) = some false
  ko_Room_Room : PySem.W.kitOne K (.ref a.C_Room) (.ref a.C_Room) = some true
  kt_Rule : ∀ n ∈ ["NoneType", "bool", "int", "str", "list", "tuple"], PySem.W.kitOne K (.type n) (.ref a.C_Rule) = some false
  ko_Rule_Rule : PySem.W.kitOne K (.ref a.C_Rule) (.ref a.C_Rule) = some true
  ko_Room_Rule : PySem.W.kitOne K (.ref a.C_Room) (.ref a.C_Rule) = some false
  ku_Rule_int : PySem.W.kitOne K (.ref a.C_Rule) (.type "int") = some false
  ku_Room_int : PySem.W.kitOne K (.ref a.C_Room) (.type "int") = some false
  F_is_name : Fun K "is_name" "is_name" s_is_name a.f_is_name a.fd_is_name
  b_is_name : Binds K a.fd_is_name ["value"] []
  m_is_name : mg "is_name" = some (.ref a.f_is_name)
  F_is_sequence : Fun K "is_sequence" "is_sequence" s_is_sequence a.f_is_sequence a.fd_is_sequence
  b_is_sequence : Binds K a.fd_is_sequence ["value"] []
  m_is_sequence : mg "is_sequence" = some (.ref a.f_is_sequence)
  F_are_names : Fun K "are_names" "are_names" s_are_names a.f_are_names a.fd_are_names
  b_are_names : Binds K a.fd_are_names ["value"] []
  m_are_names : mg "are_names" = some (.ref a.f_are_names)
  F_lot_of : Fun K "lot_of" "lot_of" s_lot_of a.f_lot_of a.fd_lot_of
  b_lot_of : Binds K a.fd_lot_of ["names"] []
  m_lot_of : mg "lot_of" = some (.ref a.f_lot_of)
  F_InvalidRule_init : Fun K "__init__" "InvalidRule.__init__" s_InvalidRule_init a.f_InvalidRule_init a.fd_InvalidRule_init
  b_InvalidRule_init : Binds K a.fd_InvalidRule_init ["self", "word"] []
  F_InvalidText_init : Fun K "__init__" "InvalidText.__init__" s_InvalidText_init a.f_InvalidText_init a.fd_InvalidText_init
  b_InvalidText_init : Binds K a.fd_InvalidText_init ["self", "at"] []
  F_Rule_init : FunD K "__init__" "Rule.__init__" (defArgs s_Rule_init) (defBody s_Rule_init) (defScope s_Rule_init) [V.ref a.e_Rule_init] [] a.f_Rule_init a.fd_Rule_init
  b_Rule_init : Binds K a.fd_Rule_init ["self", "name", "gone"] []
  b1_Rule_init : ∃ ds, Vals [V.ref a.e_Rule_init] ds ∧ Binds K a.fd_Rule_init ["self", "name", "gone"] ds
  t_Rule_init : ∀ M : Hp, SqT K M a.e_Rule_init []
  F_Rule_eq : Fun K "__eq__" "Rule.__eq__" s_Rule_eq a.f_Rule_eq a.fd_Rule_eq
  b_Rule_eq : Binds K a.fd_Rule_eq ["self", "other"] []
  mt_Rule_eq : Meth K a.C_Rule "__eq__" a.f_Rule_eq
  F_read_rule : Fun K "read_rule" "read_rule" s_read_rule a.f_read_rule a.fd_read_rule
  b_read_rule : Binds K a.fd_read_rule ["line"] []
  m_read_rule : mg "read_rule" = some (.ref a.f_read_rule)
  F_Room_init : FunD K "__init__" "Room.__init__" (defArgs s_Room_init) (defBody s_Room_init) (defScope s_Room_init) [V.ref a.e_Room_init] [] a.f_Room_init a.fd_Room_init
  b_Room_init : Binds K a.fd_Room_init ["self", "rules"] []
  b1_Room_init : ∃ ds, Vals [V.ref a.e_Room_init] ds ∧ Binds K a.fd_Room_init ["self", "rules"] ds
  t_Room_init : ∀ M : Hp, SqT K M a.e_Room_init []
  F_Room_read : Fun K "read" "Room.read" s_Room_read a.f_Room_read a.fd_Room_read
  b_Room_read : Binds K a.fd_Room_read ["cls", "text"] []
  cm_Room_read : ClX.CMet K a.C_Room (.type "type") "read" a.p_Room_read a.f_Room_read
  cr_Room : ClX.CRead K a.C_Room (.type "type")
  F_Room_eq : Fun K "__eq__" "Room.__eq__" s_Room_eq a.f_Room_eq a.fd_Room_eq
  b_Room_eq : Binds K a.fd_Room_eq ["self", "other"] []
  mt_Room_eq : Meth K a.C_Room "__eq__" a.f_Room_eq
  F_lw_box : Fun K "_law_box" "_law_box" s_lw_box a.f_lw_box a.fd_lw_box
  b_lw_box : Binds K a.fd_lw_box ["_law_script", "_law_k", "_law_own"] []
  m_lw_box : mg "_law_box" = some (.ref a.f_lw_box)
  F_lw_take : Fun K "_law_take" "_law_take" s_lw_take a.f_lw_take a.fd_lw_take
  b_lw_take : Binds K a.fd_lw_take ["_law_box_here", "_law_bound"] []
  m_lw_take : mg "_law_take" = some (.ref a.f_lw_take)
  F_lw_pick : Fun K "_law_pick" "_law_pick" s_lw_pick a.f_lw_pick a.fd_lw_pick
  b_lw_pick : Binds K a.fd_lw_pick ["_law_box_here", "_law_items"] []
  m_lw_pick : mg "_law_pick" = some (.ref a.f_lw_pick)
  F_lw_mixed : Fun K "_law_mixed" "_law_mixed" s_lw_mixed a.f_lw_mixed a.fd_lw_mixed
  b_lw_mixed : Binds K a.fd_lw_mixed ["_law_box_here", "_law_items"] []
  m_lw_mixed : mg "_law_mixed" = some (.ref a.f_lw_mixed)
  F_lw_value : Fun K "_law_value" "_law_value" s_lw_value a.f_lw_value a.fd_lw_value
  b_lw_value : Binds K a.fd_lw_value ["_law_box_here"] []
  m_lw_value : mg "_law_value" = some (.ref a.f_lw_value)
  F_lw_names : Fun K "_law_names" "_law_names" s_lw_names a.f_lw_names a.fd_lw_names
  b_lw_names : Binds K a.fd_lw_names ["_law_box_here", "_law_bound"] []
  m_lw_names : mg "_law_names" = some (.ref a.f_lw_names)
  F_lw_rules : Fun K "_law_rules" "_law_rules" s_lw_rules a.f_lw_rules a.fd_lw_rules
  b_lw_rules : Binds K a.fd_lw_rules ["_law_box_here", "_law_most"] []
  m_lw_rules : mg "_law_rules" = some (.ref a.f_lw_rules)
  F_lw_lot : Fun K "_law_lot" "_law_lot" s_lw_lot a.f_lw_lot a.fd_lw_lot
  b_lw_lot : Binds K a.fd_lw_lot ["_law_some"] []
  m_lw_lot : mg "_law_lot" = some (.ref a.f_lw_lot)
  F_lw_made : Fun K "_law_made" "_law_made" s_lw_made a.f_lw_made a.fd_lw_made
  b_lw_made : Binds K a.fd_lw_made ["_law_rules_here"] []
  m_lw_made : mg "_law_made" = some (.ref a.f_lw_made)
  F_lw_rule_text : Fun K "_law_rule_text" "_law_rule_text" s_lw_rule_text a.f_lw_rule_text a.fd_lw_rule_text
  b_lw_rule_text : Binds K a.fd_lw_rule_text ["_law_rule"] []
  m_lw_rule_text : mg "_law_rule_text" = some (.ref a.f_lw_rule_text)
  F_lw_text : Fun K "_law_text" "_law_text" s_lw_text a.f_lw_text a.fd_lw_text
  b_lw_text : Binds K a.fd_lw_text ["_law_rules_here"] []
  m_lw_text : mg "_law_text" = some (.ref a.f_lw_text)
  F_lw_is_name : Fun K "_law_is_name" "_law_is_name" s_lw_is_name a.f_lw_is_name a.fd_lw_is_name
  b_lw_is_name : Binds K a.fd_lw_is_name ["_law_word"] []
  m_lw_is_name : mg "_law_is_name" = some (.ref a.f_lw_is_name)
  F_lw_rule_of : Fun K "_law_rule_of" "_law_rule_of" s_lw_rule_of a.f_lw_rule_of a.fd_lw_rule_of
  b_lw_rule_of : Binds K a.fd_lw_rule_of ["_law_line"] []
  m_lw_rule_of : mg "_law_rule_of" = some (.ref a.f_lw_rule_of)
  F_lw_due : Fun K "_law_due" "_law_due" s_lw_due a.f_lw_due a.fd_lw_due
  b_lw_due : Binds K a.fd_lw_due ["_law_text_here"] []
  m_lw_due : mg "_law_due" = some (.ref a.f_lw_due)
  F_lw_told : Fun K "_law_told" "_law_told" s_lw_told a.f_lw_told a.fd_lw_told
  b_lw_told : Binds K a.fd_lw_told ["_law_text_here"] []
  m_lw_told : mg "_law_told" = some (.ref a.f_lw_told)
  F_lw_bent : Fun K "_law_bent" "_law_bent" s_lw_bent a.f_lw_bent a.fd_lw_bent
  b_lw_bent : Binds K a.fd_lw_bent ["_law_box_here", "_law_lines"] []
  m_lw_bent : mg "_law_bent" = some (.ref a.f_lw_bent)
  F_lw_people : Fun K "_law_people" "_law_people" s_lw_people a.f_lw_people a.fd_lw_people
  b_lw_people : Binds K a.fd_lw_people ["_law_rules_here"] []
  m_lw_people : mg "_law_people" = some (.ref a.f_lw_people)
  F_lw_main : Fun K "law" "law" s_lw_main a.f_lw_main a.fd_lw_main
  b_lw_main : Binds K a.fd_lw_main ["_law_script"] []
  m_lw_main : mg "law" = some (.ref a.f_lw_main)
  n_abs : mg "abs" = none
  n_all : mg "all" = none
  n_enumerate : mg "enumerate" = none
  n_int : mg "int" = none
  n_isinstance : mg "isinstance" = none
  n_len : mg "len" = none
  n_list : mg "list" = none
  n_max : mg "max" = none
  n_min : mg "min" = none
  n_range : mg "range" = none
  n_repr : mg "repr" = none
  n_set : mg "set" = none
  n_sorted : mg "sorted" = none
  n_str : mg "str" = none
  n_tuple : mg "tuple" = none
  m_LETTERS : ∃ u, mg "LETTERS" = some u ∧ RelV (.str "abcdefghijklmnopqrstuvwxyz") u
abbrev ZZ (K : PySem.W.Frag) (a : Ads) : Wd := { K := K, cl := fun c => if c = 0 then ⟨a.C_Rule, ["name", "gone"]⟩ else if c = 1 then ⟨a.C_Room, ["rules", "names"]⟩ else ⟨0, []⟩, er := fun c => if c = 0 then (a.C_InvalidRule, "word") else if c = 2 then (a.C_InvalidText, "at") else (0, "") }
theorem ok_InvalidRule_init {P : Program} {w : World} {K : PySem.W.Frag} {mg : Str → Option Value} {base : Heap} {a : Ads} (T : Txt K mg a) : FnOk P w K mg base CX0 1 a.f_InvalidRule_init a.fd_InvalidRule_init ["self", "word"] (GX.spErr K "word") := by
  refine T.F_InvalidRule_init.ok sc_InvalidRule_init (fun vs H Q E h => ?_) (fun cdv A outer s H vs Q E hr h => ?_)
  · obtain ⟨x, C, v, rfl, _⟩ := h; rfl
  · obtain ⟨x, C, v, rfl, o, n, e, k⟩ := h
    exact ⟨_, pss_one (ps_ost (pv 0) (pv 1)), _, rfl, _, rfl, x, C, rfl, o, n, .inl ⟨e, k⟩⟩
theorem ok_InvalidText_init {P : Program} {w : World} {K : PySem.W.Frag} {mg : Str → Option Value} {base : Heap} {a : Ads} (T : Txt K mg a) : FnOk P w K mg base CX0 1 a.f_InvalidText_init a.fd_InvalidText_init ["self", "at"] (GX.spErr K "at") := by
  refine T.F_InvalidText_init.ok sc_InvalidText_init (fun vs H Q E h => ?_) (fun cdv A outer s H vs Q E hr h => ?_)
  · obtain ⟨x, C, v, rfl, _⟩ := h; rfl
  · obtain ⟨x, C, v, rfl, o, n, e, k⟩ := h
    exact ⟨_, pss_one (ps_ost (pv 0) (pv 1)), _, rfl, _, rfl, x, C, rfl, o, n, .inl ⟨e, k⟩⟩
theorem okH_InvalidText_init {P : Program} {w : World} {K : PySem.W.Frag} {mg : Str → Option Value} {base : Heap} {a : Ads} (T : Txt K mg a) : L2H.FnH P w K mg base CX0 1 a.f_InvalidText_init a.fd_InvalidText_init ["self", "at"] (GX.spErr K "at") := by
  refine GX.okH T.F_InvalidText_init sc_InvalidText_init (fun vs H Q E h => ?_) (fun X H vs Q E hN hK hs h => ?_)
  · obtain ⟨x, C, v, rfl, _⟩ := h; rfl
  · obtain ⟨x, C, v, rfl, o, n, e, k⟩ := h
    subst hK
    exact ⟨_, pss_one (ps_ost (pv 0 (by rw [hN]; rfl) (by rw [hs]; exact Or.inl rfl)) (pv 1 (by rw [hN]; rfl) (by rw [hs]; exact Or.inl rfl))), _, rfl, _, rfl, x, C, rfl, o, n, .inl ⟨e, k⟩⟩
/-! ### numbers -/
theorem mulw {i j : Int} (h1 : -(2 ^ 90) ≤ i ∧ i ≤ 2 ^ 90) (h2 : -(2 ^ 90) ≤ j ∧ j ≤ 2 ^ 90) : CMulW i j := wide_mul (a := 91) (b := 91) (by omega) (by omega) (by decide) (by decide) (by decide)
theorem divw {i j : Int} (h : 0 < j) (h2 : j ≤ 2 ^ 60) : CDivW i j := wide_div (b := 61) h (by omega) (by decide) (by decide)
/-! ### steps -/
local macro_rules | `(tactic| walk_at "sc") => `(tactic| first
  | decide
  | omega
  | exact ⟨by decide, by decide, by decide⟩
  | exact mulw (by omega) (by omega)
  | exact divw (by omega) (by omega)
  | (simp only [List.length_cons, List.length_nil]; omega))
local macro_rules | `(tactic| walk_at "x1") => `(tactic| first
  | with_reducible refine xs_seq ?_
  | with_reducible refine on_d ?_
  | with_reducible refine if_tt ?_
  | with_reducible refine if_ff ?_
  | with_reducible refine if_nt ?_
  | with_reducible refine if_nf ?_
  | with_reducible refine xe_inT ?_
  | with_reducible refine xe_ninT ?_
  | with_reducible refine xe_repB ?_
  | with_reducible refine xe_isN ?_
  | with_reducible refine xe_notN ?_
  | with_reducible refine xe_isB ?_
  | with_reducible refine xe_notB ?_
  | with_reducible refine xe_orV ?_
  | with_reducible refine on_o ?_
  | with_reducible refine xs_next ?_
  | with_reducible refine xs_if ?_
  | with_reducible refine xs_drop ?_
  | ((fail_if_success (with_reducible refine blk_lst ?_)); (fail_if_success (with_reducible refine blk_lc ?_)); (with_reducible refine xs_set ?hb ?_); (case hb => decide))
  | ((with_reducible refine' xe_var ?hv ?_); (case hv => rfl))
  | with_reducible refine xe_int ?_
  | with_reducible refine xe_str ?_
  | with_reducible refine xe_bl ?_
  | with_reducible refine xe_non ?_
  | with_reducible refine xe_neg ?_
  | with_reducible refine xe_I0 ?_
  | with_reducible refine xe_B0 ?_
  | with_reducible refine xe_I ?_
  | with_reducible refine xe_callIntC ?_
  | with_reducible refine xe_callInt ?_
  | with_reducible refine xe_abs ?_
  | with_reducible refine xe_isi ?_
  | with_reducible refine xe_isiSeq ?_
  | with_reducible refine xe_isiC ?_
  | with_reducible refine xe_chain ?_
  | with_reducible refine xe_andV ?_
  | with_reducible refine xe_strS ?_
  | with_reducible refine xe_max2 ?_
  | with_reducible refine xe_min2 ?_
  | ((with_reducible refine xe_ixO ?_ ?hv); (case hv => exact ⟨_, rfl⟩))
  | ((with_reducible refine' xe_lenO ?hv ?_); (case hv => rfl))
  | with_reducible refine xe_len ?_
  | with_reducible refine xs_item0 ?_
  | with_reducible refine xt_test ?_
  | with_reducible refine xt_B ?_
  | with_reducible refine xt_not ?_
  | with_reducible refine xt_and ?_
  | with_reducible refine xt_or ?_
  | with_reducible refine xa_cons ?_
  | with_reducible refine xa_nil ?_
  | refine ⟨_, _, rfl, rfl, ?_⟩
  | refine ⟨_, _, _, rfl, rfl, rfl, ?_⟩
  | refine ⟨_, rfl, ?_⟩
  | dsimp only [List.set]
  | (refine And.intro ?sc ?_; (case sc => walk_at "sc")))
local macro_rules | `(tactic| walk_at "xs") => `(tactic| repeat (walk_at "x1"))
local macro_rules | `(tactic| walk_at "ent") => `(tactic| dsimp only [cxOf, Cx.nox, Cx.wish, List.map, List.replicate, List.cons_append, List.nil_append])
local macro_rules | `(tactic| walk_at "ret") => `(tactic| ((with_reducible refine xs_ret ?_); walk_at "xs"))
/-! ### the box -/
def BoxD (c : Int) (y : OD) : Prop := ∃ x u z : Int, y = .lst [.int x, .int u, .int z] ∧ 0 ≤ u ∧ u ≤ 2 ^ 32 ∧ 0 ≤ z ∧ z ≤ c
def F_take : FB := fun y ds Φ => ∃ n c : Int, ds = [.int n] ∧ 0 < n ∧ n < 2 ^ 30 ∧ c < 2 ^ 50 ∧ BoxD c y ∧ ∀ d y', 0 ≤ d → d < n → BoxD (c + 1) y' → Φ (.d (.int d)) y'
section
variable {P : Program} {w : World} {K : PySem.W.Frag} {mg : Str → Option Value} {base : Heap} {a : Ads}
theorem ok_take (T : Txt K mg a) : FnOk P w K mg base CX0 1 a.f_lw_take a.fd_lw_take ["_law_box_here", "_law_bound"] (spB (ZZ K a) F_take) := by
  refine T.F_lw_take.ok sc_lw_take (fun vs H Q E h => ?_) (fun cdv A outer s H vs Q E hr h => ?_)
  · obtain ⟨M, p, ws, ho, y, ds, Φ, rfl, _, _, _, _, al, ⟨n, c, rfl, _⟩, _⟩ := h
    simp [al.len]
  · obtain ⟨M, p, ws, ho, y, ds, Φ, rfl, hp, hm, hy, ex, al, ⟨n, c, rfl, n0, n1, c1, ⟨x, u, z, rfl, u0, u1, z0, z1⟩, k⟩, q⟩ := h
    refine ⟨_, (pss_cons (ps_if (pt_cmpR op_gt (pe_ix (show IxR _ (rIx K) from ix_seq) (pv 0) pe_int (fun _ _ => rfl)) pe_int (nomark _)) (pss_cons (ps_set (i := 2) sc_lw_take.nd rfl (Or.inl rfl) (pe_op op_mod (pe_callTy call_int1 (by rfl) T.n_int (by decide +kernel) (pa_cons (pe_ix (show IxR _ (rIx K) from ix_seq) (pv 0) pe_int (fun _ _ => rfl)) pa_nil)) (pv 1)))
      (pss_cons (ps_asg (pe_op op_fdivW (pe_ix (show IxR _ (rIx K) from ix_seq) (pv 0) pe_int (fun _ _ => rfl)) (pv 1)) (pg_sub (pv 0) pe_int set_list))
      (pss_one (ps_ret (pv 2))))) pss_nil)
      (pss_cons (ps_asg (pe_op op_add (pe_ix (show IxR _ (rIx K) from ix_seq) (pv 0) pe_int (fun _ _ => rfl)) pe_int) (pg_sub (pv 0) pe_int set_list))
      (pss_cons (ps_set (i := 3) sc_lw_take.nd rfl (Or.inl rfl) (pe_op op_mod (pe_callTy call_int1 (by rfl) T.n_int (by decide +kernel) (pa_cons (pe_op op_mulW (pe_op op_add (pe_ix (show IxR _ (rIx K) from ix_seq) (pv 0) pe_int (fun _ _ => rfl)) (pe_op op_mulW pe_int (pe_ix (show IxR _ (rIx K) from ix_seq) (pv 0) pe_int (fun _ _ => rfl)))) pe_int) pa_nil)) pe_int))
      (pss_cons (ps_asg (pe_op op_add (pe_op op_mod (pe_callTy call_int1 (by rfl) T.n_int (by decide +kernel) (pa_cons (pe_op op_add (pe_op op_mulW (pv 3) pe_int) pe_int) pa_nil)) pe_int) pe_int) (pg_sub (pv 0) pe_int set_list))
      (pss_cons (ps_if (pt_cmpR op_lt (pv 1) (pe_op op_pow pe_int pe_int) (nomark _)) (pss_one (ps_ret (pe_op op_mod (pe_callTy call_int1 (by rfl) T.n_int (by decide +kernel) (pa_cons (pe_op op_fdivW (pe_op op_add (pe_op op_mulW (pv 3) pe_int) (pe_ix (show IxR _ (rIx K) from ix_seq) (pv 0) pe_int (fun _ _ => rfl))) pe_int) pa_nil)) (pv 1)))) pss_nil)
      (pss_cons (ps_set (i := 4) sc_lw_take.nd rfl (Or.inl rfl) (pe_op op_mulW (pe_op op_add (pe_op op_mulW (pv 3) pe_int) (pe_ix (show IxR _ (rIx K) from ix_seq) (pv 0) pe_int (fun _ _ => rfl))) (pe_op op_pow pe_int pe_int)))
      (pss_one (ps_ret (pe_op op_mod (pe_callTy call_int1 (by rfl) T.n_int (by decide +kernel) (pa_cons (pe_op op_add (pe_op op_add (pv 4) (pe_op op_mulW (pe_op op_pow (pe_ix (show IxR _ (rIx K) from ix_seq) (pv 0) pe_int (fun _ _ => rfl)) pe_int) pe_int)) (pv 3)) pa_nil)) (pv 1)))))))))), entB (n := 3) hp hm hy ex al rfl q ?_⟩
    walk_at "ent"
    walk_at "xs"
    refine ite_b (fun hx => ?_) (fun hx => ?_)
    · walk_at "xs"
      walk_at "ret"
      exact k _ _ (Int.emod_nonneg _ (by omega)) (Int.emod_lt_of_pos _ n0) ⟨_, _, _, rfl, u0, u1, z0, by omega⟩
    · walk_at "xs"
      have e40 : (2 : Int) ^ Int.toNat 40 = 2 ^ 40 := rfl
      refine ite_b (fun h2 => ?_) (fun h2 => ?_)
      · walk_at "xs"
        walk_at "ret"
        exact k _ _ (Int.emod_nonneg _ (by omega)) (Int.emod_lt_of_pos _ n0) ⟨_, _, _, rfl, by omega, by omega, by omega, by omega⟩
      · have := of_decide_eq_false h2
        rw [e40] at this
        omega
def F_box : FR := fun ds Φ => ∃ (ns : List Int) (k o : Int), ds = [.scr ns, .int k, .int o] ∧ 0 ≤ k ∧ k < 10 ∧ 0 ≤ o ∧ o < 1000 ∧ ∀ y, BoxD 0 y → Φ (.own y)
theorem ok_box (T : Txt K mg a) : FnOk P w K mg base CX0 1 a.f_lw_box a.fd_lw_box ["_law_script", "_law_k", "_law_own"] (spR (ZZ K a) F_box) := by
  refine T.F_lw_box.ok sc_lw_box (fun vs H Q E h => ?_) (fun cdv A outer s H vs Q E hr h => ?_)
  · obtain ⟨M, ds, Φ, _, al, ⟨ns, k, o, rfl, _⟩, _⟩ := h
    exact al.len
  · obtain ⟨M, ds, Φ, ex, al, ⟨ns, k, o, rfl, k0, k1, o0, o1, fin⟩, q⟩ := h
    refine ⟨_, (pss_cons (ps_set (i := 3) sc_lw_box.nd rfl (Or.inl rfl) (pe_op op_add (pe_op op_add (pe_op op_mulW pe_int (pv 1)) (pe_op op_mulW pe_int (pv 2))) pe_int))
      (pss_cons (ps_if (pt_cmpR op_lt (pv 1) (pe_callB (show CallR _ (.builtin "len") (G.rLen K) from call_len) (by rfl) T.n_len PySem.boot_len (pa_cons (pv 0) pa_nil)) (nomark _)) (pss_one (ps_set (i := 3) sc_lw_box.nd rfl (Or.inl rfl) (pe_callB call_abs (by rfl) T.n_abs (by decide +kernel) (pa_cons (pe_ix (show IxR _ (rIx K) from ix_seq) (pv 0) (pv 1) (fun _ _ => rfl)) pa_nil)))) (pss_one (ps_if (pt_cmpR op_gt (pe_callB (show CallR _ (.builtin "len") (G.rLen K) from call_len) (by rfl) T.n_len PySem.boot_len (pa_cons (pv 0) pa_nil)) pe_int (nomark _)) (pss_one (ps_set (i := 3) sc_lw_box.nd rfl (Or.inl rfl) (pe_op op_add (pv 3) (pe_op op_mulW (pe_op op_mod (pe_callTy call_int1 (by rfl) T.n_int (by decide +kernel) (pa_cons (pe_callB call_abs (by rfl) T.n_abs (by decide +kernel) (pa_cons (pe_ix (show IxR _ (rIx K) from ix_seq) (pv 0) (pe_op op_mod (pe_callTy call_int1 (by rfl) T.n_int (by decide +kernel) (pa_cons (pv 1) pa_nil)) (pe_callB (show CallR _ (.builtin "len") (G.rLen K) from call_len) (by rfl) T.n_len PySem.boot_len (pa_cons (pv 0) pa_nil))) (fun _ _ => rfl)) pa_nil)) pa_nil)) pe_int) pe_int)))) pss_nil)))
      (pss_cons (ps_set (i := 4) sc_lw_box.nd rfl (Or.inl rfl) (pe_op op_add (pe_op op_mod (pe_callTy call_int1 (by rfl) T.n_int (by decide +kernel) (pa_cons (pe_op op_add (pe_op op_mulW (pe_op op_mod (pe_callTy call_int1 (by rfl) T.n_int (by decide +kernel) (pa_cons (pv 3) pa_nil)) pe_int) pe_int) (pe_op op_mulW pe_int (pe_op op_add (pv 1) (pe_op op_mulW pe_int (pv 2))))) pa_nil)) pe_int) pe_int))
      (pss_one (ps_ret (pe_lst (pa_cons (pe_ix (show IxR _ (rIx K) from ix_seq) (pe_lst (pa_cons pe_int (pa_cons (pv 3) pa_nil))) (pe_callTy call_int1 (by rfl) T.n_int (by decide +kernel) (pa_cons (pe_cmpR op_ge (pv 3) (pe_op op_pow pe_int pe_int) (nomark _)) pa_nil)) (fun _ _ => rfl)) (pa_cons (pv 4) (pa_cons pe_int pa_nil))))))))), entR (n := 2) ex al rfl q ?_⟩
    walk_at "ent"
    walk_at "xs"
    refine' joinX (α := Int × Int) (fun c => 0 ≤ c.1 ∧ 0 ≤ c.2 ∧ c.2 ≤ 2 ^ 32) (fun c => [.d (.scr ns), .d (.int k), .d (.int o), .d (.int c.1), .d (.int c.2)]) (fun finish => ?main) ?fin
    case' main =>
      skip
    refine ite_b (fun hx => ?_) (fun hx => ?_)
    · have hx := of_decide_eq_true hx
      obtain ⟨v, hv⟩ := atI_some k0 hx
      walk_at "xs"
      refine xe_ix ?_
      walk_at "xs"
      refine ⟨_, .int v, rfl, by simp [ixD, hv], ?_⟩
      walk_at "xs"
      exact finish (_, _) ⟨abs_nn v, by omega, by omega⟩
    · walk_at "xs"
      refine ite_b (fun hy => ?_) (fun hy => ?_)
      · have hy := of_decide_eq_true hy
        have hl : (0 : Int) < ns.length := hy
        obtain ⟨v, hv⟩ := atI_some (xs := ns) (Int.emod_nonneg k (by omega : (ns.length : Int) ≠ 0)) (Int.emod_lt_of_pos k hl)
        walk_at "xs"
        refine xe_ix ?_
        walk_at "xs"
        refine ⟨_, .int v, rfl, by simp [ixD, hv], ?_⟩
        walk_at "xs"
        have := abs_nn v
        exact finish (_, _) ⟨by omega, by omega, by omega⟩
      · walk_at "xs"
        exact finish (_, _) ⟨by omega, by omega, by omega⟩
    case fin =>
      rintro ⟨cell, seed⟩ ⟨c0, s0, s1⟩
      dsimp only at c0 s0 s1 ⊢
      refine xs_retO (xo_lst ?_)
      walk_at "xs"
      refine xe_ix (xe_lst ?_)
      walk_at "xs"
      by_cases hc : (10 : Int) ^ Int.toNat 18 ≤ cell
      · refine ⟨1, .int cell, by rw [decide_eq_true hc]; rfl, rfl, ?_⟩
        walk_at "xs"
        exact fin _ ⟨_, _, _, rfl, s0, s1, by decide, by decide⟩
      · refine ⟨0, .int 0, by rw [decide_eq_false hc]; rfl, rfl, ?_⟩
        walk_at "xs"
        exact fin _ ⟨_, _, _, rfl, s0, s1, by decide, by decide⟩
/-! ### mixed -/
def F_mixed : FB := fun y ds Φ => ∃ (xs : List D) (c : Int), ds = [.lst xs] ∧ xs.length ≤ 1000 ∧ 0 ≤ c ∧ c + 1000 < 2 ^ 50 ∧ BoxD c y ∧ ∀ ys y', ys.Perm xs → BoxD (c + 1000) y' → Φ (.own (.lst ys)) y'
theorem BoxD.le {c d : Int} {y : OD} (h : BoxD c y) (k : c ≤ d) : BoxD d y := by
  obtain ⟨x, u, z, rfl, a, b, e, f⟩ := h
  exact ⟨x, u, z, rfl, a, b, e, by omega⟩
theorem ok_mixed (T : Txt K mg a) (G_lw_take : FnOk P w K mg base CX0 1 a.f_lw_take a.fd_lw_take ["_law_box_here", "_law_bound"] (spB (ZZ K a) F_take)) : FnOk P w K mg base CX0 2 a.f_lw_mixed a.fd_lw_mixed ["_law_box_here", "_law_items"] (spB (ZZ K a) F_mixed) := by
  refine T.F_lw_mixed.ok sc_lw_mixed (fun vs H Q E h => ?_) (fun cdv A outer s H vs Q E hr h => ?_)
  · obtain ⟨M, p, ws, ho, y, ds, Φ, rfl, _, _, _, _, al, ⟨xs, c, rfl, _⟩, _⟩ := h
    simp [al.len]
  · obtain ⟨M, p, ws, ho, y, ds, Φ, rfl, hp, hm, hy, ex, al, ⟨xs, c, rfl, l0, c0, c1, hb, k⟩, q⟩ := h
    refine ⟨_, (pss_cons (ps_par (i := 2) (j := 3) (by rfl) sc_lw_mixed.nd rfl rfl (by decide) rfl rfl (pa_cons (pe_callTy call_list_of (by rfl) T.n_list (by decide +kernel) (pa_cons (pv 1) pa_nil)) (pa_cons (pe_lst pa_nil) pa_nil)) (by rfl))
      (pss_cons (ps_for PassesOwn.never rfl (pi_range1 (by rfl) T.n_range (pa_cons (pe_callB (show CallR _ (.builtin "len") (G.rLen K) from call_len) (by rfl) T.n_len PySem.boot_len (pa_cons (pv 2) pa_nil)) pa_nil)) (pg_name (i := 4) sc_lw_mixed.nd rfl (Or.inl rfl))
      (pss_one (ps_expr (pe_bm PySem.F.plainAttrs_list PySem.F.slot_list_append PySem.F.type_list_append mt_append (pv 3) (pa_cons (pe_bm PySem.F.plainAttrs_list PySem.F.slot_list_pop PySem.F.type_list_pop mt_popAt (pv 2) (pa_cons (pe_call G_lw_take (hr.mono (by decide)) (by rfl) T.m_lw_take T.F_lw_take.kp T.b_lw_take .nil pass0 (pa_cons (pv 0) (pa_cons (pe_callB (show CallR _ (.builtin "len") (G.rLen K) from call_len) (by rfl) T.n_len PySem.boot_len (pa_cons (pv 2) pa_nil)) pa_nil))) pa_nil)) pa_nil)))))
      (pss_one (ps_ret (pv 3))))), entB (n := 3) hp hm hy ex al rfl q ?_⟩
    walk_at "ent"
    walk_at "xs"
    refine xs_parOO (by decide) (by decide) (by decide) ?_
    refine xo_list ?_
    walk_at "xs"
    refine ⟨_, .inl rfl, xo_lst ?_⟩
    walk_at "xs"
    refine xs_for (vs := [4]) (xi_rng1 ?_)
    walk_at "xs"
    refine ⟨fun i δ => ∃ y left found s, δ = [.own y, .d (.lst xs), .own (.lst left), .own (.lst found), s] ∧ left.length + i = xs.length ∧ found.length = i ∧ (found ++ left).Perm xs ∧ BoxD (c + i) y, ⟨_, _, _, _, rfl, by simp, rfl, by simp, by simpa using hb⟩, ?_, ?_⟩
    · rintro i d δ1 hi ⟨y, left, found, s, rfl, h1, h2, h3, h4⟩
      obtain ⟨hi, rfl⟩ := rng_at hi
      refine xg_name (by decide) (by decide) ?_
      walk_at "xs"
      refine xe_app ⟨_, rfl⟩ ?_
      refine xe_pop ⟨_, rfl⟩ ?_
      refine xr_callB (fun _ => .nil) ⟨_, rfl⟩ ?_
      walk_at "xs"
      refine ⟨_, c + i, rfl, by omega, by omega, by omega, h4, fun dd y' d0 d1 hb' => ?_⟩
      obtain ⟨kk, rfl⟩ : ∃ kk : Nat, dd = kk := ⟨dd.toNat, by omega⟩
      have hk : kk < left.length := by omega
      refine ⟨left, kk, left[kk], rfl, rfl, by omega, by simp [hk], found, rfl, by omega, _, _, _, _, rfl, ?_, by simp [h2], ?_, by simpa [Int.add_assoc] using hb'⟩
      · rw [List.length_eraseIdx]
        simp [hk]; omega
      · refine List.Perm.trans ?_ h3
        rw [List.append_assoc]
        exact List.Perm.append_left _ (perm_erase hk)
    · rintro δ1 ⟨y, left, found, s, rfl, h1, h2, h3, h4⟩
      rw [rng_len] at h1 h2 h4
      have : left = [] := List.length_eq_zero_iff.mp (by omega)
      subst this
      rw [List.append_nil] at h3
      refine xs_retV (by decide) rfl ?_
      exact ⟨_, rfl, k _ _ h3 (h4.le (by omega))⟩
/-! ### names -/
def pool : List Str := ["a", "b", "c", "d", "e", "f", "g", "ab", "abc", "zz", "iff", "fi", "z", "ba"]
def F_names : FB := fun y ds Φ => ∃ b c : Int, ds = [.int b] ∧ 1 ≤ b ∧ b ≤ 14 ∧ 0 ≤ c ∧ c + 1000 < 2 ^ 50 ∧ BoxD c y ∧ ∀ (ns : List Str) y', ns.Nodup → (∀ n ∈ ns, n ∈ pool) → (ns.length : Int) = b → BoxD (c + 1000) y' → Φ (.own (.lst (ns.map .str))) y'
theorem ok_names (T : Txt K mg a) (G_lw_mixed : FnOk P w K mg base CX0 2 a.f_lw_mixed a.fd_lw_mixed ["_law_box_here", "_law_items"] (spB (ZZ K a) F_mixed)) : FnOk P w K mg base CX0 3 a.f_lw_names a.fd_lw_names ["_law_box_here", "_law_bound"] (spB (ZZ K a) F_names) := by
  refine T.F_lw_names.ok sc_lw_names (fun vs H Q E h => ?_) (fun cdv A outer s H vs Q E hr h => ?_)
  · obtain ⟨M, p, ws, ho, y, ds, Φ, rfl, _, _, _, _, al, ⟨b, c, rfl, _⟩, _⟩ := h
    simp [al.len]
  · obtain ⟨M, p, ws, ho, y, ds, Φ, rfl, hp, hm, hy, ex, al, ⟨b, c, rfl, b0, b1, c0, c1, hb, k⟩, q⟩ := h
    refine ⟨_, (pss_cons (ps_set (i := 2) sc_lw_names.nd rfl (Or.inl rfl) (pe_lst (pa_cons pe_str (pa_cons pe_str (pa_cons pe_str (pa_cons pe_str (pa_cons pe_str (pa_cons pe_str (pa_cons pe_str (pa_cons pe_str (pa_cons pe_str (pa_cons pe_str (pa_cons pe_str (pa_cons pe_str (pa_cons pe_str (pa_cons pe_str pa_nil))))))))))))))))
      (pss_one (ps_ret (pe_slice (show SlR _ (rSlL K) from sl_list) (pe_call G_lw_mixed (hr.mono (by decide)) (by rfl) T.m_lw_mixed T.F_lw_mixed.kp T.b_lw_mixed .nil pass0 (pa_cons (pv 0) (pa_cons (pv 2) pa_nil))) po_none (po_some (pv 1)))))), entB (n := 1) hp hm hy ex al rfl q ?_⟩
    walk_at "ent"
    walk_at "xs"
    refine xs_set (by decide) (xe_ofO (xo_lst ?_))
    walk_at "xs"
    refine xs_retO (xo_sl (xe_ofO (xr_callB (fun _ => .nil) ⟨_, rfl⟩ ?_)))
    walk_at "xs"
    refine ⟨pool.map .str, c, rfl, by decide, c0, c1, hb, fun ys y' hp' hb' => ?_⟩
    obtain ⟨ns, rfl, hn⟩ : ∃ ns : List Str, ys = ns.map .str ∧ ns.Perm pool := perm_map hp'
    refine ⟨_, rfl, xp_no (xp_part ?_)⟩
    walk_at "xs"
    rw [cut_to (by omega)]
    rw [← List.map_take]
    have hl := hn.length_eq
    refine k _ _ (((hn.nodup_iff).mpr (by decide)).sublist (List.take_sublist _ _)) (fun n h => hn.mem_iff.mp (List.mem_of_mem_take h)) ?_ hb'
    rw [List.length_take, hl]
    have : pool.length = 14 := rfl
    omega
/-! ### the program: names -/
def letters : Str := "abcdefghijklmnopqrstuvwxyz"
def nmS (s : Str) : Bool := !decide (s = "if") && (decide ((1 : Int) ≤ s.length) && decide ((s.length : Int) ≤ 3)) && s.cps.toList.all fun c => decide (c ∈ letters.cps.toList)
def isNm : D → Bool | .str s => nmS s | _ => false
def ok1 (d : D) : Prop := (∃ t, tyD d = some t) ∧ ∀ s, d = .str s → s.length ≤ sizeLine
def okS (d : D) : Prop := ok1 d ∧ ∀ xs, (d = .lst xs ∨ d = .tup xs) → xs.length ≤ 3000 ∧ ∀ x ∈ xs, ok1 x
def seqOf : D → Option (List D) | .lst xs => some xs | .tup xs => some xs | _ => none
def areNm (d : D) : Bool := match seqOf d with | some xs => xs.all isNm | none => false
def F_is_name : FR := fun ds Φ => ∃ d, ds = [d] ∧ ok1 d ∧ Φ (.d (.bl (isNm d)))
def F_is_sequence : FR := fun ds Φ => ∃ d : D, ds = [d] ∧ (∃ t, tyD d = some t) ∧ Φ (.d (.bl (seqOf d).isSome))
def F_are_names : FR := fun ds Φ => ∃ d, ds = [d] ∧ okS d ∧ Φ (.d (.bl (areNm d)))
def F_lot_of : FR := fun ds Φ => ∃ ws : List Str, (ds = [.tup (ws.map .str)] ∨ ds = [.lst (ws.map .str)]) ∧ ws.length < 4000 ∧ ∀ ys, GS.IsLot ys ws → ys.length ≤ ws.length → Φ (.d (.tup (ys.map .str)))
theorem pool_ok : ∀ n ∈ pool, n.length ≤ sizeLine ∧ nmS n = true ∧ PyData.strOk n = true := by decide +kernel
theorem nms_of : ∀ {xs : List D}, xs.all isNm = true → ∃ ws : List Str, xs = ws.map .str ∧ ∀ w ∈ ws, nmS w = true
  | [], _ => ⟨[], rfl, by simp⟩
  | x :: xs, h => by
    simp only [List.all_cons, Bool.and_eq_true] at h
    obtain ⟨ws, rfl, hw⟩ := nms_of h.2
    cases x with
    | str s => exact ⟨s :: ws, rfl, fun w hw' => by
        rcases List.mem_cons.mp hw' with rfl | q
        · exact h.1
        · exact hw w q⟩
    | _ => cases h.1
theorem areNm_iff {d : D} : areNm d = true ↔ ∃ ws : List Str, (d = .lst (ws.map .str) ∨ d = .tup (ws.map .str)) ∧ ∀ w ∈ ws, nmS w = true := by
  constructor
  · intro h
    unfold areNm at h
    cases d with
    | lst xs => obtain ⟨ws, rfl, hw⟩ := nms_of h; exact ⟨ws, .inl rfl, hw⟩
    | tup xs => obtain ⟨ws, rfl, hw⟩ := nms_of h; exact ⟨ws, .inr rfl, hw⟩
    | _ => cases h
  · rintro ⟨ws, rfl | rfl, hw⟩ <;>
    · simp only [areNm, seqOf, List.all_map, List.all_eq_true]
      exact fun w q => hw w q
theorem ok_is_name (T : Txt K mg a) : FnOk P w K mg base CX0 1 a.f_is_name a.fd_is_name ["value"] (spR (ZZ K a) F_is_name) := by
  refine T.F_is_name.ok sc_is_name (fun vs H Q E h => ?_) (fun cdv A outer s H vs Q E hr h => ?_)
  · obtain ⟨M, ds, Φ, _, al, ⟨n, rfl, _⟩, _⟩ := h
    exact al.len
  · obtain ⟨M, ds, Φ, ex, al, ⟨d, rfl, ⟨⟨t, ht⟩, hs⟩, fin⟩, q⟩ := h
    refine ⟨_, (pss_cons (ps_if (PW.pt (pw_or (pt_not (pt_val (pe_callB call_isi (by rfl) T.n_isinstance (by decide +kernel) (pa_cons (pv 0) (pa_cons (pe_bltn (v := .ty "str") (u := .type "str") (by rfl) T.n_str (by decide +kernel) rfl) pa_nil))))) (pw_or1 (pt_cmpR op_eq (pv 0) pe_str (nomark _))))) (pss_one (ps_ret pe_bl)) pss_nil)
      (pss_one (ps_ret (pe_and (pe_chain op_le op_le pe_int (pe_callB (show CallR _ (.builtin "len") (G.rLen K) from call_len) (by rfl) T.n_len PySem.boot_len (pa_cons (pv 0) pa_nil)) pe_int) (pe_one (pe_callB (cr_all rfl) (by rfl) T.n_all (by decide +kernel) (pa_cons (pe_lc (own := [("letter", 1)]) (g := (gName 1)) (tt := tYes) rfl sc_is_name.nd (pi_str (pv 0)) (blkOk_by (N := N_is_name) (sc := defScope s_is_name) (by decide +kernel)) (fun _ _ _ _ _ => (pg_name (i := 1) sc_is_name.nd rfl (Or.inl rfl))) (fun _ _ _ _ _ => pts_nil) (fun _ _ _ _ _ => (pe_cmpR op_in_sign (pv 1) (pe_gc rfl T.m_LETTERS) rfl))) pa_nil))))))), entR (n := 1) ex al rfl q ?_⟩
    walk_at "ent"
    walk_at "xs"
    by_cases hd : ∃ n, d = .str n
    · obtain ⟨n, rfl⟩ := hd
      cases ht
      have p1 := hs n rfl
      refine ⟨_, true, rfl, rfl, ?_⟩
      walk_at "xs"
      refine xe_eq ?_
      walk_at "xs"
      refine ⟨rfl, _, rfl, ?_⟩
      refine ite_b (fun h => ?_) (fun h0 => ?_)
      · have h := V.str.inj (of_decide_eq_true h)
        subst h
        walk_at "xs"
        walk_at "ret"
        exact fin
      have h0 : decide (n = ("if" : Str)) = false := decide_eq_false fun e => of_decide_eq_false h0 (by rw [e])
      walk_at "xs"
      walk_at "ret"
      refine ⟨_, if_pos p1, ?_⟩
      refine ⟨_, _, rfl, rfl, ?_⟩
      refine ite_b (fun h1 => ?_) (fun h1 => ?_)
      · walk_at "xs"
        refine ite_b (fun h2 => ?_) (fun h2 => ?_)
        · refine xe_all (xe_ofO (xo_fg (g := fun c => D.str ⟨#[c]⟩) (f := fun c => D.bl (decide (c ∈ letters.cps.toList))) (p := fun _ => true) (xi_str ?_)))
          walk_at "xs"
          refine ⟨rfl, ?_, fun c hc => xt_yes ⟨rfl, rfl, fun _ => ?_⟩, _, rfl, n.cps.toList.map fun c => decide (c ∈ letters.cps.toList), by rw [filter_tt, List.map_map]; rfl, ?_⟩
          · have : n.cps.toList.length = n.length := by simp [Str.length]
            have := of_decide_eq_true h2
            omega
          · refine xe_inS ?_
            walk_at "xs"
            exact ⟨rfl, rfl⟩
          · have e : ((n.cps.toList.map fun c => decide (c ∈ letters.cps.toList)).all id) = isNm (.str n) := by
              simp only [isNm, nmS, h0, h1, h2, List.all_map]
              rfl
            rw [e]
            exact fin
        · have e : isNm (.str n) = false := by
            simp only [isNm, nmS, h0, h1, h2]
            rfl
          rw [e] at fin
          exact fin
      · have e : isNm (.str n) = false := by
          simp only [isNm, nmS, h0, h1]
          rfl
        rw [e] at fin
        exact ⟨_, rfl, fin⟩
    · have e : isNm d = false := by
        cases d with
        | str n => exact absurd ⟨n, rfl⟩ hd
        | _ => rfl
      have k : kitB t "str" = some false := by
        cases d with
        | str n => exact absurd ⟨n, rfl⟩ hd
        | obj => cases ht
        | scr => cases ht
        | exc => cases ht
        | dic => cases ht
        | tupF => cases ht
        | tupT => cases ht
        | dicF => cases ht
        | dicT => cases ht
        | ref => cases ht
        | _ => cases ht; rfl
      refine ⟨t, false, ht, k, ?_⟩
      walk_at "xs"
      walk_at "ret"
      rw [e] at fin
      exact fin
theorem ok_is_sequence (T : Txt K mg a) : FnOk P w K mg base CX0 1 a.f_is_sequence a.fd_is_sequence ["value"] (spR (ZZ K a) F_is_sequence) := by
  refine T.F_is_sequence.ok sc_is_sequence (fun vs H Q E h => ?_) (fun cdv A outer s H vs Q E hr h => ?_)
  · obtain ⟨M, ds, Φ, _, al, ⟨n, rfl, _⟩, _⟩ := h
    exact al.len
  · obtain ⟨M, ds, Φ, ex, al, ⟨d, rfl, ⟨t, ht⟩, fin⟩, q⟩ := h
    refine ⟨_, (pss_one (ps_ret (pe_callB call_isiT (by rfl) T.n_isinstance (by decide +kernel) (pa_cons (pv 0) (pa_cons (pe_tup (pa_cons (pe_bltn (v := .ty "list") (u := .type "list") (by rfl) T.n_list (by decide +kernel) rfl) (pa_cons (pe_bltn (v := .ty "tuple") (u := .type "tuple") (by rfl) T.n_tuple (by decide +kernel) rfl) pa_nil))) pa_nil))))), entR (n := 0) ex al rfl q ?_⟩
    walk_at "ent"
    walk_at "xs"
    walk_at "ret"
    refine ⟨_, ht, ?_⟩
    have e : (t == "list" || t == "tuple") = (seqOf d).isSome := by cases d <;> cases ht <;> rfl
    rw [e]
    exact fin
theorem ok_lot_of (T : Txt K mg a) : FnOk P w K mg base CX0 1 a.f_lot_of a.fd_lot_of ["names"] (spR (ZZ K a) F_lot_of) := by
  refine T.F_lot_of.ok sc_lot_of (fun vs H Q E h => ?_) (fun cdv A outer s H vs Q E hr h => ?_)
  · obtain ⟨M, ds, Φ, _, al, ⟨n, h, _⟩, _⟩ := h
    rcases h with rfl | rfl <;> exact al.len
  · obtain ⟨M, ds, Φ, ex, al, ⟨ws, hd, hl, fin⟩, q⟩ := h
    refine ⟨_, (pss_one (ps_ret (pe_callTy call_tuple_of (by rfl) T.n_tuple (by decide +kernel) (pa_cons (pe_callB (GS.cr_sortSet rfl) (by rfl) T.n_sorted (by decide +kernel) (pa_cons (pe_callTy (GS.cr_set rfl) (by rfl) T.n_set (by decide +kernel) (pa_cons (pv 0) pa_nil)) pa_nil)) pa_nil)))), entR (n := 0) ex al (by rcases hd with rfl | rfl <;> rfl) q ?_⟩
    refine xs_ret (xe_tuple (xe_ofO (xo_lot rfl ?_)))
    rcases hd with rfl | rfl
    · refine xe_var rfl ⟨ws, .inr rfl, hl, fun ys hy hl => ⟨_, rfl, _, .inl rfl, fin ys hy hl⟩⟩
    · refine xe_var rfl ⟨ws, .inl rfl, hl, fun ys hy hl => ⟨_, rfl, _, .inl rfl, fin ys hy hl⟩⟩
theorem ok_are_names (T : Txt K mg a) (G_is_name : FnOk P w K mg base CX0 1 a.f_is_name a.fd_is_name ["value"] (spR (ZZ K a) F_is_name)) (G_is_sequence : FnOk P w K mg base CX0 1 a.f_is_sequence a.fd_is_sequence ["value"] (spR (ZZ K a) F_is_sequence)) : FnOk P w K mg base CX0 2 a.f_are_names a.fd_are_names ["value"] (spR (ZZ K a) F_are_names) := by
  refine T.F_are_names.ok sc_are_names (fun vs H Q E h => ?_) (fun cdv A outer s H vs Q E hr h => ?_)
  · obtain ⟨M, ds, Φ, _, al, ⟨n, rfl, _⟩, _⟩ := h
    exact al.len
  · obtain ⟨M, ds, Φ, ex, al, ⟨d, rfl, ⟨hd, hs⟩, fin⟩, q⟩ := h
    refine ⟨_, (pss_one (ps_ret (pe_and (pe_call G_is_sequence (hr.mono (by decide)) (by rfl) T.m_is_sequence T.F_is_sequence.kp T.b_is_sequence .nil pass0 (pa_cons (pv 0) pa_nil)) (pe_one (pe_callB (cr_all rfl) (by rfl) T.n_all (by decide +kernel) (pa_cons (pe_lc (own := [("thing", 1)]) (g := (gName 1)) (tt := tYes) rfl sc_are_names.nd (G.pi_or (pi_list (pv 0)) (pi_tupK (K := K) rfl (pv 0))) (blkOk_by (N := N_are_names) (sc := defScope s_are_names) (by decide +kernel)) (fun _ _ _ _ _ => (pg_name (i := 1) sc_are_names.nd rfl (Or.inl rfl))) (fun _ _ _ _ _ => pts_nil) (fun _ _ _ _ _ => (pe_call G_is_name (hr.mono (by decide)) (by rfl) T.m_is_name T.F_is_name.kp T.b_is_name .nil pass0 (pa_cons (pv 1) pa_nil)))) pa_nil)))))), entR (n := 1) ex al rfl q ?_⟩
    walk_at "ent"
    walk_at "xs"
    walk_at "ret"
    refine xr_call (fun _ => .nil) ?_
    walk_at "xs"
    refine ⟨hd.1, on_d ⟨_, rfl, ?_⟩⟩
    by_cases hq : ∃ xs, d = .lst xs ∨ d = .tup xs
    · obtain ⟨xs, hx⟩ := hq
      have e1 : seqOf d = some xs := by rcases hx with rfl | rfl <;> rfl
      rw [e1, if_pos (by rfl)]
      obtain ⟨l, hx1⟩ := hs xs hx
      refine xe_all (xe_ofO (xo_fg (g := fun x : D => x) (f := fun x => D.bl (isNm x)) (p := fun _ => true) (xi_seqV rfl hx ?_)))
      refine ⟨xs, by simp, rfl, by omega, fun w hw' => xt_yes ⟨rfl, rfl, fun _ => ?_⟩, _, rfl, ?_⟩
      · refine xr_call (fun _ => .nil) ?_
        walk_at "xs"
        exact ⟨hx1 w hw', on_d ⟨rfl, rfl⟩⟩
      · refine ⟨xs.map isNm, by rw [filter_tt, List.map_map]; rfl, ?_⟩
        have e2 : (xs.map isNm).all id = areNm d := by
          unfold areNm
          rw [e1, List.all_map]
          rfl
        rw [e2]
        exact fin
    · have e1 : seqOf d = none := by
        cases d with
        | lst xs => exact absurd ⟨xs, .inl rfl⟩ hq
        | tup xs => exact absurd ⟨xs, .inr rfl⟩ hq
        | _ => rfl
      have e2 : areNm d = false := by unfold areNm; rw [e1]
      rw [e1, if_neg (by simp)]
      rw [e2] at fin
      exact fin
/-! ### rules, with what they refuse -/
def hasD (n g : D) : Bool := match n, seqOf g with | .str s, some xs => xs.any (fun x => match x with | .str t => decide (t = s) | _ => false) | _, _ => false
def badG (n g : D) : Bool := !areNm g || hasD n g
theorem hasD_strs {s : Str} {g : D} {ws : List Str} (h : g = .lst (ws.map .str) ∨ g = .tup (ws.map .str)) : hasD (.str s) g = decide (s ∈ ws) := by
  have e : seqOf g = some (ws.map .str) := by rcases h with rfl | rfl <;> rfl
  unfold hasD
  rw [e]
  show (ws.map D.str).any _ = _
  rw [List.any_map, Bool.eq_iff_iff, List.any_eq_true, decide_eq_true_eq]
  constructor
  · rintro ⟨x, hx, e⟩
    have : x = s := by simpa using e
    exact this ▸ hx
  · exact fun h => ⟨s, h, by simp⟩
def F_Rule_initX : FBX := fun y ds Φ Ξ => ∃ n g : D, y = .ins 0 [] ∧ ds = [n, g] ∧ ok1 n ∧ okS g ∧ (isNm n = false → Ξ 0 (.str "name") y) ∧ (isNm n = true → badG n g = true → Ξ 0 (.str "gone") y) ∧
  ∀ (s : Str) (ws : List Str), n = .str s → (g = .lst (ws.map .str) ∨ g = .tup (ws.map .str)) → isNm n = true → badG n g = false → ∀ lot, GS.IsLot lot ws → Φ (.d .non) (.ins 0 [("name", .str s), ("gone", .tup (lot.map .str))])
theorem ok_Rule_initX (T : Txt K mg a) (G_is_name : FnOk P w K mg base CX0 1 a.f_is_name a.fd_is_name ["value"] (spR (ZZ K a) F_is_name)) (G_are_names : FnOk P w K mg base CX0 2 a.f_are_names a.fd_are_names ["value"] (spR (ZZ K a) F_are_names)) (G_lot_of : FnOk P w K mg base CX0 1 a.f_lot_of a.fd_lot_of ["names"] (spR (ZZ K a) F_lot_of)) : FnOk P w K mg base (L2.CX P w) 3 a.f_Rule_init a.fd_Rule_init ["self", "name", "gone"] (spBX (ZZ K a) F_Rule_initX) := by
  refine T.F_Rule_init.ok sc_Rule_init (fun vs H Q E h => ?_) (fun cdv A outer s H vs Q E hr h => ?_)
  · obtain ⟨M, p, ws', ho, y, ds, Φ, Ξ, rfl, _, _, _, _, al, ⟨n, g, rfl, rfl, _⟩, _⟩ := h
    simp [al.len]
  · obtain ⟨M, p, ws', ho, y, ds, Φ, Ξ, rfl, hp, hm, hy, ex, al, ⟨n, g, rfl, rfl, hn, hg, r1, r2, fin⟩, q, qx⟩ := h
    refine ⟨_, (pss_cons (ps_if (pt_not (pt_val (pe_call G_is_name (hr.mono (by decide)) (by rfl) T.m_is_name T.F_is_name.kp T.b_is_name .nil pass0 (pa_cons (pv 1) pa_nil)))) (pss_one (GX.ps_raiseO rfl (takes_of rfl rfl rfl rfl) T.oe_InvalidRule T.ei_InvalidRule T.et_InvalidRule (ok_InvalidRule_init T) (hr.mono (by decide)) T.b_InvalidRule_init (by rfl) T.m_InvalidRule (pa_cons pe_str pa_nil))) pss_nil)
      (pss_cons (ps_if (PW.pt (pw_or (pt_not (pt_val (pe_call G_are_names (hr.mono (by decide)) (by rfl) T.m_are_names T.F_are_names.kp T.b_are_names .nil pass0 (pa_cons (pv 2) pa_nil)))) (pw_or1 (pt_cmpR (show OpR _ (compareOp .In) (rIn K false) from op_in_seq) (pv 1) (pv 2) rfl)))) (pss_one (GX.ps_raiseO rfl (takes_of rfl rfl rfl rfl) T.oe_InvalidRule T.ei_InvalidRule T.et_InvalidRule (ok_InvalidRule_init T) (hr.mono (by decide)) T.b_InvalidRule_init (by rfl) T.m_InvalidRule (pa_cons pe_str pa_nil))) pss_nil)
      (pss_cons (ps_fld (pv 0) (pv 1) rfl)
      (pss_one (ps_fld (pv 0) (pe_call G_lot_of (hr.mono (by decide)) (by rfl) T.m_lot_of T.F_lot_of.kp T.b_lot_of .nil pass0 (pa_cons (pv 2) pa_nil)) rfl))))), entBX (n := 0) hp hm hy ex al rfl q ?_⟩
    walk_at "ent"
    refine xs_seq <| xs_if <| xt_not <| xt_test <| xr_call (fun _ => .nil) <| xa_cons <| xe_var rfl <| xa_nil ⟨n, rfl, hn, on_d ⟨_, rfl, ite_b (fun c => ?_) (fun c => ?_)⟩⟩
    · have c : isNm n = false := by simpa using c
      exact xs_raise (c := 0) T.oe_InvalidRule T.en_InvalidRule <| xe_str <| xw_B qx rfl (r1 c)
    have c : isNm n = true := by simpa using c
    obtain ⟨s, rfl⟩ : ∃ s, n = .str s := by cases n with | str s => exact ⟨s, rfl⟩ | _ => cases c
    refine xs_next <| xs_seq <| xs_if <| xt_or <| xt_not <| xt_test <| xr_call (fun _ => .nil) <| xa_cons <| xe_var rfl <| xa_nil ⟨g, rfl, hg, on_d ⟨_, rfl, ite_b (fun h => ?_) (fun h => ?_)⟩⟩
    · have h : areNm g = false := by simpa using h
      exact if_tt (xs_raise (c := 0) T.oe_InvalidRule T.en_InvalidRule <| xe_str <| xw_B qx rfl (r2 c (by unfold badG; rw [h]; rfl)))
    have h : areNm g = true := by simpa using h
    obtain ⟨ws, hw, hnw⟩ := areNm_iff.mp h
    have e1 : seqOf g = some (ws.map .str) := by rcases hw with rfl | rfl <;> rfl
    have lw : ws.length ≤ 3000 := by
      have := (hg.2 (ws.map .str) hw).1
      simpa using this
    refine xt_test <| xe_inT <| xe_var rfl <| xe_var rfl ⟨s, ws, rfl, hw, _, rfl, ite_b (fun k => ?_) (fun k => ?_)⟩
    · exact xs_raise (c := 0) T.oe_InvalidRule T.en_InvalidRule <| xe_str <| xw_B qx rfl (r2 c (by unfold badG; rw [hasD_strs hw, k]; simp))
    refine xs_next <| xs_seq <| xs_fldO (c := 0) T.cl_Rule T.no_Rule_name <| xe_var rfl ⟨[], rfl, by decide, ?_⟩
    refine xs_fldO (c := 0) T.cl_Rule T.no_Rule_gone <| xr_call (fun _ => .nil) <| xa_cons <| xe_var rfl <| xa_nil ⟨ws, hw.symm.imp (fun e => by rw [e]; rfl) (fun e => by rw [e]; rfl), by omega, fun lot hlot _ => ?_⟩
    exact ⟨_, rfl, (show (0 : Nat) + 1 < 1000 by decide), _, rfl, fin s ws rfl hw c (by unfold badG; rw [hasD_strs hw, h, k]; rfl) lot hlot⟩
theorem ndR : ((ZZ K a).cl 0).fs.Nodup := (by decide : (["name", "gone"] : List Str).Nodup)
theorem ndM : ((ZZ K a).cl 1).fs.Nodup := (by decide : (["rules", "names"] : List Str).Nodup)
theorem clR (T : Txt K mg a) : ClOk (ZZ K a) 0 := ⟨T.cl_Rule, fun f hf => by
  rcases List.mem_cons.mp hf with rfl | hf
  · exact T.no_Rule_name
  · rw [List.mem_singleton.mp hf]; exact T.no_Rule_gone⟩
theorem clM (T : Txt K mg a) : ClOk (ZZ K a) 1 := ⟨T.cl_Room, fun f hf => by
  rcases List.mem_cons.mp hf with rfl | hf
  · exact T.no_Room_rules
  · rw [List.mem_singleton.mp hf]; exact T.no_Room_names⟩
theorem xe_rname (T : Txt K mg a) {ta : TE} {δ : List S} {Φ : D → List S → Prop} (h : XE (ZZ K a) ta δ fun x δ1 => ∃ n g, x = .obj 0 [n, g] ∧ Φ n δ1) : XE (ZZ K a) (tFld K ta "name") δ Φ := xe_fld (XR.imp h fun s δ' k => by
  cases s with
  | d x => obtain ⟨n, g, rfl, f⟩ := k; exact ⟨0, _, 0, _, rfl, clR T, ndR (K := K), rfl, rfl, f⟩
  | no => exact k
  | own y => exact k
  | deal _ _ _ => exact k)
theorem xe_rgone (T : Txt K mg a) {ta : TE} {δ : List S} {Φ : D → List S → Prop} (h : XE (ZZ K a) ta δ fun x δ1 => ∃ n g, x = .obj 0 [n, g] ∧ Φ g δ1) : XE (ZZ K a) (tFld K ta "gone") δ Φ := xe_fld (XR.imp h fun s δ' k => by
  cases s with
  | d x => obtain ⟨n, g, rfl, f⟩ := k; exact ⟨0, _, 1, _, rfl, clR T, ndR (K := K), rfl, rfl, f⟩
  | no => exact k
  | own y => exact k
  | deal _ _ _ => exact k)
theorem xe_mrules (T : Txt K mg a) {ta : TE} {δ : List S} {Φ : D → List S → Prop} (h : XE (ZZ K a) ta δ fun x δ1 => ∃ n g, x = .obj 1 [n, g] ∧ Φ n δ1) : XE (ZZ K a) (tFld K ta "rules") δ Φ := xe_fld (XR.imp h fun s δ' k => by
  cases s with
  | d x => obtain ⟨n, g, rfl, f⟩ := k; exact ⟨1, _, 0, _, rfl, clM T, ndM (K := K), rfl, rfl, f⟩
  | no => exact k
  | own y => exact k
  | deal _ _ _ => exact k)
def ruleO (r : Str × List Str) : D := .obj 0 [.str r.1, .tup (r.2.map .str)]
/-! ### who may leave, who can leave -/
abbrev Rl := Str × List Str
def mayS (os : List Rl) (gs : List Str) : List Str := (os.filter fun r => !decide (r.1 ∈ gs) && r.2.all fun w => decide (w ∈ gs)).map (·.1)
theorem mem_may {os : List Rl} {gs : List Str} {x : Str} : x ∈ mayS os gs ↔ x ∉ gs ∧ ∃ ws, (x, ws) ∈ os ∧ ∀ w ∈ ws, w ∈ gs := by
  simp only [mayS, List.mem_map, List.mem_filter, Bool.and_eq_true, Bool.not_eq_true', decide_eq_false_iff_not, List.all_eq_true, decide_eq_true_eq]
  constructor
  · rintro ⟨⟨n, ws⟩, ⟨h1, h2, h3⟩, rfl⟩
    exact ⟨h2, ws, h1, h3⟩
  · rintro ⟨h1, ws, h2, h3⟩
    exact ⟨(x, ws), ⟨h2, h1, h3⟩, rfl⟩
inductive Run (os : List Rl) (st : List Str) : List Str → List Str → Prop
  | refl (g : List Str) : Run os st g g
  | step {g l : List Str} {x : Str} : Run os st g l → x ∈ mayS os l → x ∉ st → Run os st g (l ++ [x])
structure Leav (os : List Rl) (st g l : List Str) : Prop where
  run : Run os st g l
  stop : ∀ x ∈ mayS os l, x ∈ st
theorem Run.sub {os : List Rl} {st g l : List Str} (h : Run os st g l) : ∀ x ∈ g, x ∈ l := by
  induction h with
  | refl => exact fun x h => h
  | step _ _ _ ih => exact fun x h => List.mem_append_left _ (ih x h)
theorem Run.stays {os : List Rl} {st g l : List Str} (h : Run os st g l) : ∀ x ∈ l, x ∈ g ∨ x ∉ st := by
  induction h with
  | refl => exact fun x h => .inl h
  | step _ _ hs ih => exact fun x h => (List.mem_append.mp h).elim (ih x) fun q => .inr (by rw [List.mem_singleton.mp q]; exact hs)
theorem Run.mono {os : List Rl} {st st' g l : List Str} (h : Run os st g l) (k : ∀ x ∈ l, x ∈ g ∨ x ∉ st') : Run os st' g l := by
  induction h with
  | refl => exact .refl _
  | @step l x r hm hs ih =>
    refine .step (ih fun y hy => k y (List.mem_append_left _ hy)) hm ?_
    rcases k x (by simp) with q | q
    · exact absurd (r.sub x q) (mem_may.mp hm).1
    · exact q
theorem Run.trans {os : List Rl} {st g l m : List Str} (h : Run os st g l) (k : Run os st l m) : Run os st g m := by
  induction k with
  | refl => exact h
  | step _ hm hs ih => exact .step ih hm hs
/-- no one gets further than those who stop -/
theorem Leav.top {os : List Rl} {st st' g g' l m : List Str} (h : Leav os st g l) (r : Run os st' g' m) (hg : ∀ x ∈ g', x ∈ l) (hs : ∀ x ∈ st, x ∈ st') : ∀ x ∈ m, x ∈ l := by
  induction r with
  | refl => exact hg
  | step _ hm hn ih =>
    intro y hy
    rcases List.mem_append.mp hy with q | q
    · exact ih y q
    · rw [List.mem_singleton.mp q]
      rename_i x _
      by_cases c : x ∈ l
      · exact c
      · obtain ⟨_, ws, h1, h2⟩ := mem_may.mp hm
        exact absurd (hs x (h.stop x (mem_may.mpr ⟨c, ws, h1, fun w hw => ih w (h2 w hw)⟩))) hn
theorem Leav.same {os : List Rl} {st g l m : List Str} (h : Leav os st g l) (k : Leav os st g m) : ∀ x, x ∈ l ↔ x ∈ m := fun x =>
  ⟨k.top h.run (fun y hy => k.run.sub y hy) (fun _ q => q) x, h.top k.run (fun y hy => h.run.sub y hy) (fun _ q => q) x⟩
def wantAll (os : List Rl) : List Str := os.flatMap fun r => r.1 :: r.2
theorem mem_wantAll {os : List Rl} {x : Str} : x ∈ wantAll os ↔ ∃ r ∈ os, x = r.1 ∨ x ∈ r.2 := by
  simp [wantAll, List.mem_flatMap]
structure RoomOk (os : List Rl) (ns : List Str) : Prop where
  lot : GS.IsLot ns (wantAll os)
  l : os.length ≤ 200
  w : ∀ r ∈ os, r.2.length ≤ 14
  a : ∀ r ∈ os, GS.Asc r.2
def IsHull (os : List Rl) (ns st hs : List Str) : Prop := ∃ l, Leav os st [] l ∧ hs = ns.filter fun x => !decide (x ∈ l)
theorem nodup_len : ∀ {l ss : List Str}, l.Nodup → (∀ x ∈ l, x ∈ ss) → l.length ≤ ss.length
  | [], _, _, _ => Nat.zero_le _
  | x :: l, ss, nd, h => by
    obtain ⟨n1, n2⟩ := List.nodup_cons.mp nd
    have hx := h x (by simp)
    have := nodup_len (l := l) (ss := ss.erase x) n2 fun y hy => (List.mem_erase_of_ne (fun e => n1 (by rw [← e]; exact hy))).mpr (h y (List.mem_cons_of_mem _ hy))
    rw [List.length_erase_of_mem hx] at this
    have := List.length_pos_of_mem hx
    simp only [List.length_cons]; omega
theorem wantAll_len {os : List Rl} (h : ∀ r ∈ os, r.2.length ≤ 14) : (wantAll os).length ≤ 15 * os.length := by
  unfold wantAll
  induction os with
  | nil => simp
  | cons r os ih =>
    have := ih fun q hq => h q (List.mem_cons_of_mem _ hq)
    have := h r (by simp)
    simp only [List.flatMap_cons, List.length_append, List.length_cons]
    omega
theorem RoomOk.len {os : List Rl} {ns : List Str} (h : RoomOk os ns) : ns.length ≤ 3000 := by
  have := nodup_len (GS.Asc.nodup h.lot.asc) fun x hx => (h.lot.mem x).mp hx
  have := wantAll_len h.w
  have := h.l
  omega
theorem RoomOk.name {os : List Rl} {ns : List Str} (h : RoomOk os ns) {x : Str} {ws : List Str} (hx : (x, ws) ∈ os) : x ∈ ns := (h.lot.mem x).mpr (mem_wantAll.mpr ⟨_, hx, .inl rfl⟩)
theorem RoomOk.want {os : List Rl} {ns : List Str} (h : RoomOk os ns) {x y : Str} {ws : List Str} (hx : (x, ws) ∈ os) (hy : y ∈ ws) : y ∈ ns := (h.lot.mem y).mpr (mem_wantAll.mpr ⟨_, hx, .inr hy⟩)
def roomD (os : List Rl) (ns : List Str) : D := .obj 1 [.tup (os.map ruleO), .tup (ns.map .str)]
/-! ### hulls -/
theorem IsHull.mem {os : List Rl} {ns st hs : List Str} (h : IsHull os ns st hs) : ∀ x ∈ hs, x ∈ ns := by
  obtain ⟨l, _, rfl⟩ := h
  exact fun x hx => (List.mem_filter.mp hx).1
theorem IsHull.asc {os : List Rl} {ns st hs : List Str} (ok : RoomOk os ns) (h : IsHull os ns st hs) : GS.Asc hs := by
  obtain ⟨l, _, rfl⟩ := h
  exact ok.lot.asc.filter _
/-- more who stay, more who are kept -/
theorem IsHull.grow {os : List Rl} {ns st st' hs hs' : List Str} (h : IsHull os ns st hs) (k : IsHull os ns st' hs') (s : ∀ x ∈ st, x ∈ st') : ∀ x ∈ hs, x ∈ hs' := by
  obtain ⟨l, h1, rfl⟩ := h
  obtain ⟨m, k1, rfl⟩ := k
  intro x hx
  obtain ⟨a, b⟩ := List.mem_filter.mp hx
  refine List.mem_filter.mpr ⟨a, ?_⟩
  simp only [Bool.not_eq_true', decide_eq_false_iff_not] at b ⊢
  exact fun q => b (h1.top k1.run (by simp) s x q)
/-- each rule for somebody stuck wants somebody stuck -/
theorem IsHull.keep {os : List Rl} {ns hs : List Str} (ok : RoomOk os ns) (h : IsHull os ns [] hs) : ∀ r ∈ os, r.1 ∈ hs → ∃ x ∈ r.2, x ∈ hs := by
  obtain ⟨l, h1, rfl⟩ := h
  rintro ⟨n, us⟩ hr hn
  have hn := (List.mem_filter.mp hn).2
  simp only [Bool.not_eq_true', decide_eq_false_iff_not] at hn
  refine Classical.byContradiction fun c => ?_
  have := h1.stop n (mem_may.mpr ⟨hn, us, hr, fun w hw => ?_⟩)
  · cases this
  · refine Classical.byContradiction fun d => c ⟨w, hw, List.mem_filter.mpr ⟨ok.want hr hw, by simpa using d⟩⟩
def F_Room_init : FB := fun y ds Φ => ∃ (rs : List (Str × List Str)), y = .ins 1 [] ∧ (ds = [.lst (rs.map ruleO)] ∨ ds = [.tup (rs.map ruleO)]) ∧ rs.length ≤ 200 ∧ (∀ r ∈ rs, r.2.length ≤ 14) ∧ ∀ ns, GS.IsLot ns (wantAll rs) → Φ (.d .non) (.ins 1 [("rules", .tup (rs.map ruleO)), ("names", .tup (ns.map .str))])
theorem ok_Room_init (T : Txt K mg a) (G_is_sequence : FnOk P w K mg base CX0 1 a.f_is_sequence a.fd_is_sequence ["value"] (spR (ZZ K a) F_is_sequence)) (G_lot_of : FnOk P w K mg base CX0 1 a.f_lot_of a.fd_lot_of ["names"] (spR (ZZ K a) F_lot_of)) : FnOk P w K mg base CX0 2 a.f_Room_init a.fd_Room_init ["self", "rules"] (spB (ZZ K a) F_Room_init) := by
  refine T.F_Room_init.ok sc_Room_init (fun vs H Q E h => ?_) (fun cdv A outer s H vs Q E hr h => ?_)
  · obtain ⟨M, p, ws', ho, y, ds, Φ, rfl, _, _, _, _, al, ⟨rs, rfl, hd, _⟩, _⟩ := h
    rcases hd with rfl | rfl <;> simp [al.len]
  · obtain ⟨M, p, ws', ho, y, ds, Φ, rfl, hp, hm, hy, ex, al, ⟨rs, rfl, hd, hl, hrs, fin⟩, q⟩ := h
    obtain ⟨d, rfl, hd2⟩ : ∃ d, ds = [d] ∧ (d = .lst (rs.map ruleO) ∨ d = .tup (rs.map ruleO)) := by
      rcases hd with rfl | rfl
      · exact ⟨_, rfl, .inl rfl⟩
      · exact ⟨_, rfl, .inr rfl⟩
    clear hd
    refine ⟨_, PSs.nox ((pss_cons (ps_if (pt_not (pt_val (pe_call G_is_sequence (hr.mono (by decide)) (by rfl) T.m_is_sequence T.F_is_sequence.kp T.b_is_sequence .nil pass0 (pa_cons (pv 1) pa_nil)))) (pss_one ps_never) pss_nil)
      (pss_cons (ps_for PassesOwn.never rfl (G.pi_or (pi_enum (by rfl) T.n_enumerate (pa_cons (pv 1) pa_nil)) (GE.pi_enumT (by rfl) T.n_enumerate (pa_cons (pv 1) pa_nil))) (pg_tup rfl (pgs_cons (pg_name (i := 2) sc_Room_init.nd rfl (Or.inl rfl)) (pgs_cons (pg_name (i := 3) sc_Room_init.nd rfl (Or.inl rfl)) pgs_nil)))
      (pss_one (ps_if (pt_not (pt_val (pe_callB (C8.call_isC T.isC_Rule) (by rfl) T.n_isinstance (by decide +kernel) (pa_cons (pv 3) (pa_cons (pe_glob (v := .ref a.C_Rule) rfl T.m_Rule rfl) pa_nil))))) (pss_one ps_never) pss_nil)))
      (pss_cons (ps_fld (pv 0) (pe_callTy call_tuple_of (by rfl) T.n_tuple (by decide +kernel) (pa_cons (pv 1) pa_nil)) rfl)
      (pss_one (ps_fld (pv 0) (pe_call G_lot_of (hr.mono (by decide)) (by rfl) T.m_lot_of T.F_lot_of.kp T.b_lot_of .nil pass0 (pa_cons (pe_lc2 (own := [("rule", 3), ("name", 4)]) (vs1 := [4]) (g := (gName 3)) (g1 := (gName 4)) (tt := tYes) (tt1 := tYes) rfl sc_Room_init.nd (G.pi_or (pi_list (pv 1)) (pi_tupK (K := K) rfl (pv 1))) (blkOk_by (N := N_Room_init) (sc := defScope s_Room_init) (by decide +kernel)) (by decide) (fun _ _ _ _ _ => (pg_name (i := 3) sc_Room_init.nd rfl (Or.inl rfl))) (fun _ _ _ _ _ => pts_nil) (fun _ _ _ _ _ => (pi_tupK (K := K) rfl (pe_tup (pa_cons (pe_fldK (K := K) rfl (pv 3) rfl) (pa_starK (K := K) rfl (pe_fldK (K := K) rfl (pv 3) rfl) pa_nil))))) (fun _ _ _ _ _ => (pg_name (i := 4) sc_Room_init.nd rfl (Or.inl rfl))) (fun _ _ _ _ _ => pts_nil) (fun _ _ _ _ _ => (pv 4))) pa_nil)) rfl)))))), entB (n := 3) hp hm hy ex al rfl q ?_⟩
    walk_at "ent"
    walk_at "xs"
    refine xr_call (fun _ => .nil) ?_
    walk_at "xs"
    refine ⟨(by rcases hd2 with rfl | rfl <;> exact ⟨_, rfl⟩), on_d ⟨_, rfl, ?_⟩⟩
    rw [show (seqOf d).isSome = true by rcases hd2 with rfl | rfl <;> rfl]
    walk_at "xs"
    refine xs_for (vs := [2, 3]) (xi_enumV rfl hd2 ?_)
    refine ⟨fun i δ => ∃ s2 s3 : S, δ = [.own (.ins 1 []), .d d, s2, s3, .no], ⟨_, _, rfl⟩, ?_, ?_⟩
    · rintro i x δ1 hi ⟨s2, s3, rfl⟩
      obtain ⟨x, hx, rfl⟩ := enumD_at hi
      obtain ⟨r, hr, rfl⟩ : ∃ r, rs[i]? = some r ∧ ruleO r = x := by simpa using hx
      refine xg_tup (by rfl) (xgs_cons (xg_name (by decide) (by decide) (xgs_cons (xg_name (by decide) (by decide) (xgs_nil ?_)))))
      walk_at "xs"
      exact ⟨_, _, rfl⟩
    · rintro δ1 ⟨s2, s3, rfl⟩
      walk_at "xs"
      refine xs_forget (i := 3) (by decide) ?_
      walk_at "xs"
      refine xs_fldO (c := 1) T.cl_Room T.no_Room_rules (xe_tuple (xe_var rfl ⟨_, hd2, [], rfl, by decide, ?_⟩))
      walk_at "xs"
      refine xs_fldO (c := 1) T.cl_Room T.no_Room_names ?_
      refine xr_call (fun _ => .nil) ?_
      walk_at "xs"
      refine xe_ofO (xo_lc2 (xi_seqV rfl hd2 ?_))
      refine ⟨fun v hv => by simp at hv; rcases hv with rfl | rfl <;> rfl, by simp, by simp; omega, fun i acc δ => δ = [.own (.ins 1 (putD "rules" (.tup (rs.map ruleO)) [])), .d d, s2, .no, .no] ∧ acc = (wantAll (rs.take i)).map .str, ⟨rfl, rfl⟩, ?_, ?_⟩
      · rintro i x acc δ1 bs hb hx ⟨rfl, rfl⟩
        obtain ⟨r, hr, rfl⟩ : ∃ r, rs[i]? = some r ∧ ruleO r = x := by simpa using hx
        have hrl := hrs r (List.mem_of_getElem? hr)
        refine xg_name (by decide) (hb 3 (by decide)) ?_
        refine xt_yes (if_tt (xi_tup (xe_tup (xa_cons (xe_rname T (xe_var rfl ⟨_, _, rfl, xa_star (xe_rgone T (xe_var rfl ⟨_, _, rfl, _, .inr rfl, xa_nil ?_⟩))⟩))))))
        refine ⟨by simp; omega, _, rfl, by simp; omega, fun v hv => by simp at hv; subst hv; rfl, fun j acc δ => δ = [.own (.ins 1 (putD "rules" (.tup (rs.map ruleO)) [])), .d d, s2, .d (ruleO r), .no] ∧ acc = (wantAll (rs.take i) ++ (r.1 :: r.2).take j).map .str, ⟨rfl, by simp⟩, ?_, ?_⟩
        · rintro j e acc δ5 bs hb he ⟨rfl, rfl⟩
          obtain ⟨w, hw, rfl⟩ : ∃ w, (r.1 :: r.2)[j]? = some w ∧ D.str w = e := by
            have : (D.str r.1 :: (r.2.map .str ++ [])) = (r.1 :: r.2).map .str := by simp
            rw [this, List.getElem?_map] at he
            exact Option.map_eq_some_iff.mp he
          refine xg_name (by decide) (hb 4 (by decide)) ?_
          refine xt_yes (if_tt (xe_var rfl ⟨rfl, ?_⟩))
          rw [GS.take_get hw]
          simp
        · rintro acc δ5 ⟨rfl, rfl⟩
          refine ⟨rfl, ?_⟩
          have e : ∀ n, n = r.2.length + 1 → (r.1 :: r.2).take n = r.1 :: r.2 := fun n h => List.take_of_length_le (by simp [h])
          rw [GS.take_get hr, wantAll, wantAll, List.flatMap_append, e _ (by simp)]
          simp
      · rintro acc δ1 ⟨rfl, rfl⟩
        rw [List.length_map, List.take_length]
        refine ⟨_, rfl, xa_nil ?_⟩
        have hz := wantAll_len hrs
        refine ⟨wantAll rs, .inr rfl, by omega, fun ys hy _ => ?_⟩
        exact ⟨_, rfl, (show (0 : Nat) + 1 < 1000 by decide), _, rfl, fin _ hy⟩
/-! ### rules -/
def ruleD (r : Str × List Str) : D := .tup [.str r.1, .tup (r.2.map .str)]
structure ROk (r : Str × List Str) : Prop where
  n : r.1 ∈ pool
  w : ∀ w ∈ r.2, w ∈ pool ∧ w ≠ r.1
  l : r.2.length ≤ 14
structure ROk7 (r : Str × List Str) : Prop where
  ok : ROk r
  l7 : r.2.length ≤ 7
def F_rules : FB := fun y ds Φ => ∃ c : Int, ds = [.int 7] ∧ 0 ≤ c ∧ c + 4000 < 2 ^ 50 ∧ BoxD c y ∧ ∀ (rs : List (Str × List Str)) y', (∀ r ∈ rs, ROk7 r) → rs.length ≤ 42 → BoxD (c + 4000) y' → Φ (.own (.lst (rs.map ruleD))) y'
theorem ok_rules (T : Txt K mg a) (G_lw_take : FnOk P w K mg base CX0 1 a.f_lw_take a.fd_lw_take ["_law_box_here", "_law_bound"] (spB (ZZ K a) F_take)) (G_lw_mixed : FnOk P w K mg base CX0 2 a.f_lw_mixed a.fd_lw_mixed ["_law_box_here", "_law_items"] (spB (ZZ K a) F_mixed)) (G_lw_names : FnOk P w K mg base CX0 3 a.f_lw_names a.fd_lw_names ["_law_box_here", "_law_bound"] (spB (ZZ K a) F_names)) : FnOk P w K mg base CX0 4 a.f_lw_rules a.fd_lw_rules ["_law_box_here", "_law_most"] (spB (ZZ K a) F_rules) := by
  refine T.F_lw_rules.ok sc_lw_rules (fun vs H Q E h => ?_) (fun cdv A outer s H vs Q E hr h => ?_)
  · obtain ⟨M, p, ws, ho, y, ds, Φ, rfl, _, _, _, _, al, ⟨c, rfl, _⟩, _⟩ := h
    simp [al.len]
  · obtain ⟨M, p, ws, ho, y, ds, Φ, rfl, hp, hm, hy, ex, al, ⟨c, rfl, c0, c1, hb, k⟩, q⟩ := h
    refine ⟨_, (pss_cons (ps_par (i := 2) (j := 3) (by rfl) sc_lw_rules.nd rfl rfl (by decide) rfl rfl (pa_cons (pe_call G_lw_names (hr.mono (by decide)) (by rfl) T.m_lw_names T.F_lw_names.kp T.b_lw_names .nil pass0 (pa_cons (pv 0) (pa_cons (pe_op op_add pe_int (pe_call G_lw_take (hr.mono (by decide)) (by rfl) T.m_lw_take T.F_lw_take.kp T.b_lw_take .nil pass0 (pa_cons (pv 0) (pa_cons (pv 1) pa_nil)))) pa_nil))) (pa_cons (pe_lst pa_nil) pa_nil)) (by rfl))
      (pss_cons (ps_set (i := 4) sc_lw_rules.nd rfl (Or.inl rfl) (pe_cmpR op_gt (pe_call G_lw_take (hr.mono (by decide)) (by rfl) T.m_lw_take T.F_lw_take.kp T.b_lw_take .nil pass0 (pa_cons (pv 0) (pa_cons pe_int pa_nil))) pe_int (nomark _)))
      (pss_cons (ps_for PassesOwn.never rfl (pi_enum (by rfl) T.n_enumerate (pa_cons (pv 2) pa_nil)) (pg_tup rfl (pgs_cons (pg_name (i := 5) sc_lw_rules.nd rfl (Or.inl rfl)) (pgs_cons (pg_name (i := 6) sc_lw_rules.nd rfl (Or.inr rfl)) pgs_nil)))
      (pss_cons (ps_set (i := 7) sc_lw_rules.nd rfl (Or.inl rfl) (pe_ifExp (pt_val (pv 4)) (pe_slice (show SlR _ (rSlL K) from sl_list) (pv 2) po_none (po_some (pv 5))) (pe_lc (own := [("_law_other", 10)]) (g := (gName 10))  rfl sc_lw_rules.nd (pi_list (pv 2)) (blkOk_by (N := N_lw_rules) (sc := defScope s_lw_rules) (by decide +kernel)) (fun _ _ _ _ _ => (pg_name (i := 10) sc_lw_rules.nd rfl (Or.inl rfl))) (fun _ _ _ _ _ => pts_one (pt_cmpR op_ne (pv 10) (pv 6) (nomark _))) (fun _ _ _ _ _ => (pv 10)))))
      (pss_one (ps_for PassesOwn.never rfl (pi_range1 (by rfl) T.n_range (pa_cons (pe_ifExp (pt_val (pv 4)) (pe_op op_add pe_int (pe_call G_lw_take (hr.mono (by decide)) (by rfl) T.m_lw_take T.F_lw_take.kp T.b_lw_take .nil pass0 (pa_cons (pv 0) (pa_cons pe_int pa_nil)))) (pe_call G_lw_take (hr.mono (by decide)) (by rfl) T.m_lw_take T.F_lw_take.kp T.b_lw_take .nil pass0 (pa_cons (pv 0) (pa_cons pe_int pa_nil)))) pa_nil)) (pg_name (i := 8) sc_lw_rules.nd rfl (Or.inl rfl))
      (pss_cons (ps_setLc (own := [("_law_other", 10)]) (g := (gName 10))  (i := 9) rfl sc_lw_rules.nd rfl rfl (sw_true rfl rfl rfl (by decide +kernel)) (pi_list (pv 7)) (blkOk_by (N := N_lw_rules) (sc := defScope s_lw_rules) (by decide +kernel)) (fun _ _ _ _ _ => (pg_name (i := 10) sc_lw_rules.nd rfl (Or.inl rfl))) (fun _ _ _ _ _ => pts_one (pt_cmpR op_lt (pe_call G_lw_take (hr.mono (by decide)) (by rfl) T.m_lw_take T.F_lw_take.kp T.b_lw_take .nil pass0 (pa_cons (pv 0) (pa_cons pe_int pa_nil))) pe_int (nomark _))) (fun _ _ _ _ _ => (pv 10)))
      (pss_one (ps_expr (pe_bm PySem.F.plainAttrs_list PySem.F.slot_list_append PySem.F.type_list_append mt_append (pv 3) (pa_cons (pe_tup (pa_cons (pv 6) (pa_cons (pe_callTy call_tuple_of (by rfl) T.n_tuple (by decide +kernel) (pa_cons (pv 9) pa_nil)) pa_nil))) pa_nil)))))))))
      (pss_one (ps_ret (pe_call G_lw_mixed (hr.mono (by decide)) (by rfl) T.m_lw_mixed T.F_lw_mixed.kp T.b_lw_mixed .nil pass0 (pa_cons (pv 0) (pa_cons (pv 3) pa_nil)))))))), entB (n := 9) hp hm hy ex al rfl q ?_⟩
    walk_at "ent"
    walk_at "xs"
    refine xs_parO (by decide) (by decide) (xe_ofO (xr_callB (fun _ => .nil) ⟨_, rfl⟩ ?_))
    walk_at "xs"
    refine xr_callB (fun _ => .nil) ⟨_, rfl⟩ ?_
    walk_at "xs"
    refine ⟨7, c, rfl, by omega, by omega, by omega, hb, fun d y1 d0 d1 hb1 => ?_⟩
    walk_at "xs"
    refine ⟨1 + d, c + 1, rfl, by omega, by omega, by omega, by omega, hb1, fun ns y2 nd np nl hb2 => ?_⟩
    refine ⟨_, rfl, xo_lst ?_⟩
    walk_at "xs"
    refine xr_callB (fun _ => .nil) ⟨_, rfl⟩ ?_
    walk_at "xs"
    refine ⟨3, c + 1 + 1000, rfl, by omega, by omega, by omega, hb2, fun d2 y3 _ _ hb3 => ?_⟩
    walk_at "xs"
    generalize decide (0 < d2) = calm
    refine xs_for (vs := [5, 6]) (xi_enum ?_)
    walk_at "xs"
    refine ⟨fun i δ => ∃ (y : OD) (rs : List (Str × List Str)) (s5 s6 s7 s8 s9 : S), δ = [.own y, .d (.int 7), .d (.lst (ns.map .str)), .own (.lst (rs.map ruleD)), .d (.bl calm), s5, s6, s7, s8, s9, .no] ∧ (∀ r ∈ rs, ROk7 r) ∧ rs.length ≤ 3 * i ∧ BoxD (c + 1002 + 50 * i) y, ⟨_, [], _, _, _, _, _, rfl, by simp, by simp, hb3.le (by omega)⟩, ?_, ?_⟩
    · rintro i dd δ1 hi ⟨y, rs, s5, s6, s7, s8, s9, rfl, h1, h2, h3⟩
      obtain ⟨xx, hx, rfl⟩ := enumD_at hi
      obtain ⟨n, hn, rfl⟩ : ∃ n, ns[i]? = some n ∧ D.str n = xx := by simpa using hx
      have hi2 : i < ns.length := (List.getElem?_eq_some_iff.mp hn).1
      refine xg_tup (by rfl) (xgs_cons (xg_name (by decide) (by decide) (xgs_cons (xg_name (by decide) (by decide) (xgs_nil ?_)))))
      walk_at "xs"
      refine joinE (α := List Str) (fun os => os.length ≤ 7 ∧ ∀ o ∈ os, o ∈ pool ∧ o ≠ n) (fun os => .lst (os.map .str)) (fun _ => [.own y, .d (.int 7), .d (.lst (ns.map .str)), .own (.lst (rs.map ruleD)), .d (.bl calm), .d (.int i), .d (.str n), s7, s8, s9, .no]) (fun go => ?_) ?_
      · refine xr_if ?_
        walk_at "xs"
        refine ite_b (fun _ => ?_) (fun _ => ?_)
        · refine xe_ofO (xo_sl ?_)
          walk_at "xs"
          refine xp_no (xp_part ?_)
          walk_at "xs"
          rw [cut_to (by omega), ← List.map_take]
          rw [show ((i : Int)).toNat = i by omega]
          refine go _ ⟨by rw [List.length_take]; omega, fun o ho => ⟨np o (List.mem_of_mem_take ho), fun e => ?_⟩⟩
          subst e
          rw [← List.take_append_drop i ns] at nd
          refine (List.pairwise_append.mp nd).2.2 o ho o ?_ rfl
          rw [List.drop_eq_getElem_cons hi2, (List.getElem?_eq_some_iff.mp hn).2]
          simp
        · refine xe_ofO (xo_fg (g := D.str) (f := D.str) (p := fun o => decide (o ≠ n)) (xi_list ?_))
          walk_at "xs"
          refine ⟨_, .inl rfl, ns, rfl, rfl, by omega, fun o ho => ?_, _, rfl, ?_⟩
          · walk_at "xs"
            refine xe_ne ?_
            walk_at "xs"
            refine ⟨rfl, _, rfl, by simp, rfl, fun _ => ?_⟩
            walk_at "xs"
            exact ⟨rfl, rfl⟩
          · refine go _ ⟨Nat.le_trans (List.length_filter_le _ _) (by omega), fun o ho => ?_⟩
            have := List.mem_filter.mp ho
            exact ⟨np o this.1, of_decide_eq_true this.2⟩
      · rintro os ⟨l1, l2⟩
        walk_at "xs"
        refine xs_for (vs := [8]) (xi_rng1 ?_)
        refine joinE (α := Int × OD) (fun m => 0 ≤ m.1 ∧ m.1 ≤ 3 ∧ BoxD (c + 1002 + 50 * i + 1) m.2) (fun m => .int m.1) (fun m => [.own m.2, .d (.int 7), .d (.lst (ns.map .str)), .own (.lst (rs.map ruleD)), .d (.bl calm), .d (.int i), .d (.str n), .d (.lst (os.map .str)), s8, s9, .no]) (fun go => ?_) ?_
        · refine xr_if ?_
          walk_at "xs"
          refine ite_b (fun _ => ?_) (fun _ => ?_)
          · refine xe_I0 ?_
            walk_at "xs"
            refine xr_callB (fun _ => .nil) ⟨_, rfl⟩ ?_
            walk_at "xs"
            refine ⟨3, _, rfl, by omega, by omega, by omega, h3, fun dd y' _ _ hb' => ?_⟩
            refine on_d ⟨_, _, rfl, rfl, ?_⟩
            exact go (1 + dd, y') ⟨by omega, by omega, hb'⟩
          · refine xr_callB (fun _ => .nil) ⟨_, rfl⟩ ?_
            walk_at "xs"
            refine ⟨3, _, rfl, by omega, by omega, by omega, h3, fun dd y' _ _ hb' => ?_⟩
            exact go (dd, y') ⟨by omega, by omega, hb'⟩
        · rintro ⟨m, y'⟩ ⟨m0, m1, hb'⟩
          dsimp only at m0 m1 hb' ⊢
          walk_at "xs"
          refine ⟨fun j δ => ∃ (y : OD) (rs : List (Str × List Str)) (s8 s9 : S), δ = [.own y, .d (.int 7), .d (.lst (ns.map .str)), .own (.lst (rs.map ruleD)), .d (.bl calm), .d (.int i), .d (.str n), .d (.lst (os.map .str)), s8, s9, .no] ∧ (∀ r ∈ rs, ROk7 r) ∧ rs.length ≤ 3 * i + j ∧ BoxD (c + 1002 + 50 * i + 1 + 8 * j) y, ⟨_, rs, _, _, rfl, h1, by omega, hb'.le (by omega)⟩, ?_, ?_⟩
          · rintro j dd δ1 hj ⟨y, rs, s8, s9, rfl, g1, g2, g3⟩
            have hj2 := (rng_at hj).1
            refine xg_name (by decide) (by decide) ?_
            walk_at "xs"
            refine xs_set (by decide) (xe_ofO (xo_lc (xi_list ?_)))
            walk_at "xs"
            refine ⟨_, .inl rfl, fun v hv => (by simp at hv; subst hv; rfl), by simp; omega, fun t acc δ => ∃ (y : OD) (zs : List Str), δ = [.own y, .d (.int 7), .d (.lst (ns.map .str)), .own (.lst (rs.map ruleD)), .d (.bl calm), .d (.int i), .d (.str n), .d (.lst (os.map .str)), .d dd, s9, .no] ∧ acc = zs.map .str ∧ zs.length ≤ t ∧ (∀ z ∈ zs, z ∈ os) ∧ BoxD (c + 1002 + 50 * i + 1 + 8 * j + t) y, ⟨_, [], rfl, rfl, by simp, by simp, g3.le (by omega)⟩, ?_, ?_⟩
            · rintro t d acc δ1 bs hbs ht ⟨y, zs, rfl, rfl, k1, k2, k3⟩
              obtain ⟨o, ho, rfl⟩ : ∃ o, os[t]? = some o ∧ D.str o = d := by simpa using ht
              have ht2 : t < os.length := (List.getElem?_eq_some_iff.mp ho).1
              refine xg_name (by decide) (hbs _ (by decide)) ?_
              walk_at "xs"
              refine xr_callB (fun _ => .nil) ⟨_, rfl⟩ ?_
              walk_at "xs"
              refine ⟨5, _, rfl, by omega, by omega, by omega, k3, fun d5 y5 _ _ hb5 => ?_⟩
              walk_at "xs"
              refine ite_b (fun _ => ?_) (fun _ => ?_)
              · walk_at "xs"
                exact ⟨_, zs ++ [o], rfl, by simp, by simp; omega, fun z hz => (List.mem_append.mp hz).elim (k2 z) fun q => by rw [List.mem_singleton.mp q]; exact List.mem_of_getElem? ho, hb5.le (by omega)⟩
              · exact ⟨_, zs, rfl, rfl, by omega, k2, hb5.le (by omega)⟩
            · rintro acc δ1 ⟨y, zs, rfl, rfl, k1, k2, k3⟩
              rw [List.length_map] at k1 k3
              refine ⟨_, rfl, ?_⟩
              walk_at "xs"
              refine xe_app ⟨_, rfl⟩ (xe_tup ?_)
              walk_at "xs"
              refine xe_tuple ?_
              walk_at "xs"
              refine ⟨_, .inl rfl, ?_⟩
              walk_at "xs"
              refine ⟨by simp; omega, y, rs ++ [(n, zs)], .d dd, .d (.lst (zs.map .str)), by simp [ruleD], fun r hr => ?_, by simp; omega, k3.le (by omega)⟩
              rcases List.mem_append.mp hr with q | q
              · exact g1 r q
              · rw [List.mem_singleton.mp q]
                exact ⟨⟨np n (List.mem_of_getElem? hn), fun z hz => l2 z (k2 z hz), Nat.le_trans k1 (by omega)⟩, Nat.le_trans k1 (by omega)⟩
          · rintro δ1 ⟨y, rs, s8, s9, rfl, g1, g2, g3⟩
            rw [rng_len] at g2 g3
            exact ⟨y, rs, _, _, _, _, _, rfl, g1, by omega, g3.le (by omega)⟩
    · rintro δ1 ⟨y, rs, s5, s6, s7, s8, s9, rfl, h1, h2, h3⟩
      rw [enumD_len, List.length_map] at h2 h3
      refine xs_freeze (i := 3) (by decide) rfl ?_
      refine xs_retO (xr_callB (fun _ => .nil) ⟨_, rfl⟩ ?_)
      walk_at "xs"
      refine ⟨rs.map ruleD, c + 1002 + 50 * ns.length, rfl, by simp; omega, by omega, by omega, h3, fun ys y' hp' hb' => ?_⟩
      obtain ⟨zs, rfl, hz⟩ := perm_map hp'
      exact ⟨_, rfl, k _ _ (fun r hr => h1 r (hz.mem_iff.mp hr)) (by rw [hz.length_eq]; omega) (hb'.le (by omega))⟩
/-! ### the law's own -/
/-! ### some of a list, drawn -/
/-! ### a list of things drawn -/
theorem cut_sub {α : Type} {xs : List α} {lo hi : Option Int} : (cut xs lo hi).Sublist xs := by
  unfold cut
  exact (List.take_sublist _ _).trans (List.drop_sublist _ _)
theorem cut_len {α : Type} {xs : List α} {lo hi : Option Int} : (cut xs lo hi).length ≤ xs.length := cut_sub.length_le
def F_pick : FB := fun y ds Φ => ∃ (xs : List D) (d : D) (c : Int), ds = [d] ∧ (d = .lst xs ∨ d = .tup xs) ∧ 0 < xs.length ∧ xs.length ≤ 1000000 ∧ c < 2 ^ 50 ∧ BoxD c y ∧ ∀ x y', x ∈ xs → BoxD (c + 1) y' → Φ (.d x) y'
theorem ok_pick (T : Txt K mg a) (G_lw_take : FnOk P w K mg base CX0 1 a.f_lw_take a.fd_lw_take ["_law_box_here", "_law_bound"] (spB (ZZ K a) F_take)) : FnOk P w K mg base CX0 2 a.f_lw_pick a.fd_lw_pick ["_law_box_here", "_law_items"] (spB (ZZ K a) F_pick) := by
  refine T.F_lw_pick.ok sc_lw_pick (fun vs H Q E h => ?_) (fun cdv A outer s H vs Q E hr h => ?_)
  · obtain ⟨M, p, ws, ho, y, ds, Φ, rfl, _, _, _, _, al, ⟨xs, d, c, rfl, _⟩, _⟩ := h
    simp [al.len]
  · obtain ⟨M, p, ws, ho, y, ds, Φ, rfl, hp, hm, hy, ex, al, ⟨xs, d, c, rfl, hd, h0, h1, hc, hb, k⟩, q⟩ := h
    refine ⟨_, (pss_one (ps_ret (pe_ix (show IxR _ (rIx K) from ix_seq) (pv 1) (pe_call G_lw_take (hr.mono (by decide)) (by rfl) T.m_lw_take T.F_lw_take.kp T.b_lw_take .nil pass0 (pa_cons (pv 0) (pa_cons (pe_callB (show CallR _ (.builtin "len") (G.rLen K) from call_len) (by rfl) T.n_len PySem.boot_len (pa_cons (pv 1) pa_nil)) pa_nil))) (fun _ _ => rfl)))), entB (n := 0) hp hm hy ex al rfl q ?_⟩
    walk_at "ent"
    have el : lenD d = some xs.length := by rcases hd with rfl | rfl <;> rfl
    refine xs_ret <| xe_ix <| xe_var rfl <| xr_callB (fun _ => .nil) ⟨_, rfl⟩ <| xa_cons <| xe_len <| xe_var rfl ⟨_, el, xa_nil ⟨_, rfl, xs.length, c, rfl, by omega, by omega, hc, hb, fun i y' i0 i1 hy' => on_d ?_⟩⟩
    obtain ⟨v, hv⟩ := atI_some (xs := xs) i0 (by omega)
    obtain ⟨_, _, hj, _⟩ := L2.atI_get hv
    refine ⟨_, v, rfl, by rcases hd with rfl | rfl <;> exact hv, y', rfl, k v y' (List.mem_of_getElem? hj) hy'⟩
/-! ### any value, drawn -/
def deepD : Nat → D
  | 0 => .tup []
  | n + 1 => if (n : Int) % 2 = 0 then .lst [deepD n, .int 1] else .tup [deepD n]
def valL : List D := [.int 0, .int (-3), .int 1000000000, .str "", .str "a", .non, .bl true, .bl false, .lst [], .lst [.int 1, .str "a"], .tup [.str "x", .non], .tup [], .str "if", .int 2, .str "abcd", .lst [.str "x"], .str "A", deepD 7]
def F_value : FB := fun y ds Φ => ∃ c : Int, ds = [] ∧ c < 2 ^ 50 ∧ BoxD c y ∧ ∀ x y', x ∈ valL → BoxD (c + 1) y' → Φ (.d x) y'
theorem ok_value (T : Txt K mg a) (G_lw_pick : FnOk P w K mg base CX0 2 a.f_lw_pick a.fd_lw_pick ["_law_box_here", "_law_items"] (spB (ZZ K a) F_pick)) : FnOk P w K mg base CX0 3 a.f_lw_value a.fd_lw_value ["_law_box_here"] (spB (ZZ K a) F_value) := by
  refine T.F_lw_value.ok sc_lw_value (fun vs H Q E h => ?_) (fun cdv A outer s H vs Q E hr h => ?_)
  · obtain ⟨M, p, ws, ho, y, ds, Φ, rfl, _, _, _, _, al, ⟨c, rfl, _⟩, _⟩ := h
    simp [al.len]
  · obtain ⟨M, p, ws, ho, y, ds, Φ, rfl, hp, hm, hy, ex, al, ⟨c, rfl, hc, hb, k⟩, q⟩ := h
    refine ⟨_, (pss_cons (ps_set (i := 1) sc_lw_value.nd rfl (Or.inl rfl) (pe_lst (pa_cons pe_int (pa_cons (pe_un un_neg pe_int) (pa_cons (pe_op op_pow pe_int pe_int) (pa_cons pe_str (pa_cons pe_str (pa_cons pe_non (pa_cons pe_bl (pa_cons pe_bl (pa_cons (pe_lst pa_nil) (pa_cons (pe_lst (pa_cons pe_int (pa_cons pe_str pa_nil))) (pa_cons (pe_tup (pa_cons pe_str (pa_cons pe_non pa_nil))) (pa_cons (pe_tup pa_nil) (pa_cons pe_str (pa_cons pe_int (pa_cons pe_str (pa_cons (pe_lst (pa_cons pe_str pa_nil)) (pa_cons pe_str pa_nil)))))))))))))))))))
      (pss_cons (ps_set (i := 2) sc_lw_value.nd rfl (Or.inl rfl) (pe_tup pa_nil))
      (pss_cons (ps_for PassesOwn.never rfl (pi_range1 (by rfl) T.n_range (pa_cons pe_int pa_nil)) (pg_name (i := 3) sc_lw_value.nd rfl (Or.inl rfl))
      (pss_one (ps_set (i := 2) sc_lw_value.nd rfl (Or.inl rfl) (pe_ifExp (pt_cmpR op_eq (pe_op op_mod (pv 3) pe_int) pe_int (nomark _)) (pe_lst (pa_cons (pv 2) (pa_cons pe_int pa_nil))) (pe_tup (pa_cons (pv 2) pa_nil))))))
      (pss_one (ps_ret (pe_call G_lw_pick (hr.mono (by decide)) (by rfl) T.m_lw_pick T.F_lw_pick.kp T.b_lw_pick .nil pass0 (pa_cons (pv 0) (pa_cons (pe_op op_cat (pv 1) (pe_lst (pa_cons (pv 2) pa_nil))) pa_nil)))))))), entB (n := 3) hp hm hy ex al rfl q ?_⟩
    walk_at "ent"
    walk_at "xs"
    refine xs_set (by decide) <| xe_ofO <| xo_lst ?_
    walk_at "xs"
    refine xe_ofO <| xo_lst <| xa_nil ⟨by decide, _, rfl, ?_⟩
    walk_at "xs"
    refine xe_ofO <| xo_lst <| xa_cons <| xe_int <| xa_cons <| xe_str <| xa_nil ⟨by decide, _, rfl, ?_⟩
    walk_at "xs"
    refine xe_tup <| xa_cons <| xe_str <| xa_cons <| xe_non <| xa_nil ⟨by decide, ?_⟩
    walk_at "xs"
    refine xe_tup <| xa_nil ⟨by decide, ?_⟩
    walk_at "xs"
    refine xe_ofO <| xo_lst <| xa_cons <| xe_str <| xa_nil ⟨by decide, _, rfl, ?_⟩
    walk_at "xs"
    refine xe_tup <| xa_nil ⟨by decide, ?_⟩
    try dsimp only [List.set]
    refine xs_seq <| xs_for (vs := [3]) <| xi_rng1 ?_
    walk_at "xs"
    refine ⟨fun i δ => ∃ s3 : S, δ = [.own y, .d (.lst (valL.take 17)), .d (deepD i), s3], ⟨_, rfl⟩, ?_, ?_⟩
    · rintro i d δ1 hi ⟨s3, rfl⟩
      obtain ⟨hi', rfl⟩ := rng_at hi
      refine xg_name (by decide) (by decide) ?_
      refine xs_set (by decide) <| xr_if ?_
      walk_at "xs"
      refine xe_eq <| xe_I <| xe_var rfl <| xe_int ⟨_, _, rfl, rfl, by decide, xe_int ⟨_, _, rfl, rfl, rfl, _, rfl, ite_b (fun h => ?_) (fun h => ?_)⟩⟩
      · have e : deepD (i + 1) = .lst [deepD i, .int 1] := if_pos (by have := V.int.inj (of_decide_eq_true h); omega)
        rw [e]
        exact xe_ofO <| xo_lst <| xa_cons <| xe_var rfl <| xa_cons <| xe_int <| xa_nil ⟨by simp, _, rfl, _, rfl⟩
      · have e : deepD (i + 1) = .tup [deepD i] := if_neg (fun z => of_decide_eq_false h (by rw [show (0 : Int) + (i : Int) = i by omega, z]))
        rw [e]
        exact xe_tup <| xa_cons <| xe_var rfl <| xa_nil ⟨by simp, _, rfl⟩
    · rintro δ1 ⟨s3, rfl⟩
      refine xs_ret <| xr_callB (fun _ => .nil) ⟨_, rfl⟩ <| xa_cons <| xe_ofO <| xo_cat <| xe_var rfl <| xe_ofO <| xo_lst <| xa_cons <| xe_var rfl <| xa_nil ⟨by simp, _, rfl, _, _, rfl, rfl, by decide, _, rfl, xa_nil ?_⟩
      refine ⟨y, rfl, valL, _, c, rfl, .inl rfl, by decide, by decide, hc, hb, fun x y' hx hy => ⟨y', rfl, k x y' hx hy⟩⟩
/-! ### values that are no bars -/
def ok1b (d : D) : Bool := (tyD d).isSome && (match d with | .str s => decide (s.length ≤ sizeLine) | _ => true)
def okSb (d : D) : Bool := ok1b d && (match seqOf d with | some xs => decide (xs.length ≤ 3000) && xs.all ok1b | none => true)
theorem ok1_of {d : D} (h : ok1b d = true) : ok1 d := by
  unfold ok1b at h
  rw [Bool.and_eq_true, Option.isSome_iff_exists] at h
  refine ⟨h.1, fun s e => ?_⟩
  subst e
  exact of_decide_eq_true h.2
theorem okS_of {d : D} (h : okSb d = true) : okS d := by
  unfold okSb at h
  rw [Bool.and_eq_true] at h
  refine ⟨ok1_of h.1, fun xs e => ?_⟩
  have e1 : seqOf d = some xs := by rcases e with rfl | rfl <;> rfl
  have h2 := h.2
  rw [e1] at h2
  simp only [Bool.and_eq_true, decide_eq_true_eq, List.all_eq_true] at h2
  exact ⟨h2.1, fun x hx => ok1_of (h2.2 x hx)⟩
/-! ### lots -/
def F_lot : FR := fun ds Φ => ∃ (xs : List Str) (d : D), ds = [d] ∧ (d = .lst (xs.map .str) ∨ d = .tup (xs.map .str)) ∧ xs.length < 4000 ∧ (∀ x ∈ xs, PyData.strOk x = true) ∧ ∀ ys, GS.IsLot ys xs → Φ (.d (.tup (ys.map .str)))
theorem ok_lot (T : Txt K mg a) : FnOk P w K mg base CX0 1 a.f_lw_lot a.fd_lw_lot ["_law_some"] (spR (ZZ K a) F_lot) := by
  refine T.F_lw_lot.ok sc_lw_lot (fun vs H Q E h => ?_) (fun cdv A outer s H vs Q E hr h => ?_)
  · obtain ⟨M, ds, Φ, _, al, ⟨ns, d, rfl, _⟩, _⟩ := h
    exact al.len
  · obtain ⟨M, ds, Φ, ex, al, ⟨xs, d, rfl, hd, l0, ok, fin⟩, q⟩ := h
    refine ⟨_, (pss_cons (ps_set (i := 1) sc_lw_lot.nd rfl (Or.inl rfl) (pe_lst pa_nil))
      (pss_cons (ps_for PassesOwn.never rfl (pi_list (pe_callB GS.cr_sortS (by rfl) T.n_sorted (by decide +kernel) (pa_cons (pe_lc (own := [("_law_one", 3)]) (g := (gName 3)) (tt := tYes) rfl sc_lw_lot.nd (G.pi_or (pi_list (pv 0)) (pi_tupK (K := K) rfl (pv 0))) (blkOk_by (N := N_lw_lot) (sc := defScope s_lw_lot) (by decide +kernel)) (fun _ _ _ _ _ => (pg_name (i := 3) sc_lw_lot.nd rfl (Or.inl rfl))) (fun _ _ _ _ _ => pts_nil) (fun _ _ _ _ _ => (pe_callTy (T := "str") SkE.call_str_str (by rfl) T.n_str (by decide +kernel) (pa_cons (pv 3) pa_nil)))) pa_nil))) (pg_name (i := 2) sc_lw_lot.nd rfl (Or.inl rfl))
      (pss_one (ps_if (PW.pt (pw_or (pt_cmpR (op_eqD hr.units) (pv 1) (pe_lst pa_nil) (nomark _)) (pw_or1 (pt_cmpR op_ne (pe_ix (show IxR _ (rIx K) from ix_seq) (pv 1) (pe_un un_neg pe_int) (fun _ _ => rfl)) (pv 2) (nomark _))))) (pss_one (ps_expr (pe_bm PySem.F.plainAttrs_list PySem.F.slot_list_append PySem.F.type_list_append mt_append (pv 1) (pa_cons (pv 2) pa_nil)))) pss_nil)))
      (pss_one (ps_ret (pe_callTy call_tuple_of (by rfl) T.n_tuple (by decide +kernel) (pa_cons (pv 1) pa_nil)))))), entR (n := 3) ex al rfl q ?_⟩
    walk_at "ent"
    walk_at "xs"
    refine xs_setO (by decide) (xo_lst ?_)
    walk_at "xs"
    refine xs_for (vs := [2]) (xi_list (xe_ofO (xo_sort (xe_ofO (xo_fm (f := id) (p := fun _ => true) (xi_seqV rfl hd ?_))))))
    refine ⟨rfl, by simp; omega, fun d hd => ?_, ?_⟩
    · obtain ⟨x, hx, rfl⟩ := List.mem_map.mp hd
      refine xt_yes ⟨rfl, rfl, fun _ => ?_⟩
      walk_at "xs"
      exact ⟨rfl, rfl⟩
    rw [filter_tt, List.map_id]
    refine ⟨_, rfl, xs, rfl, fun ys hp hs => ⟨_, rfl, _, .inl rfl, ?_⟩⟩
    have hok : ∀ x ∈ ys, PyData.strOk x = true := fun x hx => ok x (hp.mem_iff.mp hx)
    have hl : ys.length = xs.length := hp.length_eq
    refine ⟨fun i δ => ∃ found s, δ = [.d d, .own (.lst (found.map .str)), s, .no] ∧ found.length ≤ i ∧ found.Pairwise GS.Lt ∧ ∀ z, z ∈ found ↔ z ∈ ys.take i, ⟨[], .no, rfl, by simp, .nil, by simp⟩, ?_, ?_⟩
    · rintro i d δ1 hi ⟨found, s, rfl, h0, h1, h2⟩
      obtain ⟨n, hn, rfl⟩ := List.getElem?_eq_some_iff.mp hi |>.elim fun _ _ => (by simpa using hi : ∃ n, ys[i]? = some n ∧ D.str n = d)
      have hi2 : i < ys.length := (List.getElem?_eq_some_iff.mp hn).1
      have ht : ys.take (i + 1) = ys.take i ++ [n] := by rw [List.take_add_one, hn]; rfl
      have hfo : ∀ x ∈ found, PyData.strOk x = true := fun x hx => hok x (List.mem_of_mem_take ((h2 x).mp hx))
      have hsd : ∀ z ∈ ys.take i, ¬ GS.Lt n z := fun z hz => by
        rw [← List.take_append_drop i ys] at hs
        refine (List.pairwise_append.mp hs).2.2 z hz n ?_
        rw [List.drop_eq_getElem_cons hi2, (List.getElem?_eq_some_iff.mp hn).2]
        simp
      refine xg_name (by decide) (by decide) ?_
      walk_at "xs"
      refine xe_eqO rfl (xe_ofO (xo_lst ?_))
      walk_at "xs"
      refine ⟨rfl, pla_strs _, rfl, shp_lst hfo, rfl, _, rfl, ?_⟩
      rw [show D.lst [] = D.lst (([] : List Str).map .str) from rfl, eqv_lst]
      have go : ∀ P : Po, P.N [.d d, .own (.lst ((found ++ [n]).map .str)), .d (.str n), .no] → XS (ZZ K a) [] (tDrop (tBM K "list" rAppend (tVar 1) (tCons (tVar 2) tNil))) [.d d, .own (.lst (found.map .str)), .d (.str n), .no] P := fun P hP => by
        walk_at "xs"
        refine xe_app ⟨_, rfl⟩ ?_
        walk_at "xs"
        refine ⟨by simp; omega, by simpa using hP⟩
      have new : found.getLast? ≠ some n → ∃ (f : List Str) (s : S), ([.d d, .own (.lst ((found ++ [n]).map .str)), .d (.str n), .no] : List S) = [.d d, .own (.lst (f.map .str)), s, .no] ∧ f.length ≤ i + 1 ∧ f.Pairwise GS.Lt ∧ ∀ z, z ∈ f ↔ z ∈ ys.take (i + 1) := fun hl => by
        obtain ⟨g1, g2⟩ := lot_step h1 h2 hsd fun l e z => hl (z ▸ e)
        exact ⟨found ++ [n], _, rfl, by simp; omega, g1, fun z => by rw [ht]; exact g2 z⟩
      refine ite_b (fun hc => ?_) (fun hc => ?_)
      · have : found = [] := of_decide_eq_true hc
        subst this
        exact go _ (new (by simp))
      · have hne : found ≠ [] := of_decide_eq_false hc
        have hl := List.getLast?_eq_some_getLast hne
        have hd : found.map D.str = found.dropLast.map D.str ++ [D.str (found.getLast hne)] := by
          rw [← List.map_singleton, ← List.map_append, List.dropLast_concat_getLast hne]
        walk_at "xs"
        refine xe_ne (xe_ixO ?_ ⟨_, rfl⟩)
        walk_at "xs"
        refine ⟨_, _, _, rfl, rfl, by rw [hd]; exact L2.atI_last _ _, ?_⟩
        walk_at "xs"
        refine ⟨rfl, _, rfl, ?_⟩
        refine ite_b (fun he => ?_) (fun he => ?_)
        · refine go _ (new fun z => ?_)
          rw [hl] at z
          injection z with z
          simp [z] at he
        · have z : found.getLast hne = n := by simpa using he
          refine xs_next ⟨found, _, rfl, by omega, h1, fun w => ?_⟩
          rw [ht, List.mem_append, h2 w, List.mem_singleton]
          refine ⟨.inl, fun q => q.elim id fun q => ?_⟩
          rw [q, ← z]
          exact (h2 _).mp (List.getLast_mem hne)
    · rintro δ1 ⟨found, s, rfl, h0, h1, h2⟩
      refine xs_ret (xe_tupleO rfl ?_)
      refine fin found ⟨h1, fun z => ?_⟩
      rw [h2 z, List.length_map, List.take_length]
      exact hp.mem_iff
/-! ### rules: == and their texts -/
def F_Rule_eq : FR := fun ds Φ => ∃ (r : Rl) (d : D), ds = [ruleO r, d] ∧ ((∃ q : Rl, d = ruleO q ∧ (∀ w ∈ r.2, PyData.strOk w = true) ∧ (∀ w ∈ q.2, PyData.strOk w = true) ∧ Φ (.d (.bl (decide (r = q))))) ∨ (∃ s : Str, d = .str s ∧ Φ (.d (.bl false))))
theorem ok_Rule_eq (T : Txt K mg a) : FnOk P w K mg base CX0 1 a.f_Rule_eq a.fd_Rule_eq ["self", "other"] (spR (ZZ K a) F_Rule_eq) := by
  refine T.F_Rule_eq.ok sc_Rule_eq (fun vs H Q E h => ?_) (fun cdv A outer s H vs Q E hr h => ?_)
  · obtain ⟨M, ds, Φ, _, al, ⟨r, d, rfl, _⟩, _⟩ := h
    exact al.len
  · obtain ⟨M, ds, Φ, ex, al, ⟨r, d, rfl, h⟩, q⟩ := h
    refine ⟨_, (pss_one (ps_ret (pe_and (pe_callB (show CallR _ (.builtin "isinstance") (rIsi K) from call_isi) (by rfl) T.n_isinstance (by decide +kernel) (pa_cons (pv 1) (pa_cons (pe_glob (v := .ref a.C_Rule) rfl T.m_Rule rfl) pa_nil))) (pe_and (pe_cmpR op_eq (pe_fldK (K := K) rfl (pv 0) rfl) (pe_fldK (K := K) rfl (pv 1) rfl) (nomark _)) (pe_one (pe_cmpR (op_eqD hr.units) (pe_fldK (K := K) rfl (pv 0) rfl) (pe_fldK (K := K) rfl (pv 1) rfl) (nomark _))))))), entR (n := 0) ex al rfl q ?_⟩
    walk_at "ent"
    rcases h with ⟨q2, rfl, hr1, hq1, fin⟩ | ⟨s2, rfl, fin⟩
    · refine xs_ret <| xe_andV <| xe_isiR <| xe_var rfl ⟨_, true, .obj T.isC_Rule, T.ko_Rule_Rule, _, rfl, if_tt ?_⟩
      refine xe_andV <| xe_eq <| xe_rname T <| xe_var rfl ⟨_, _, rfl, xe_rname T <| xe_var rfl ⟨_, _, rfl, _, _, rfl, rfl, rfl, _, rfl, ite_b (fun c => ?_) (fun c => ?_)⟩⟩
      · refine xe_eqD <| xe_rgone T <| xe_var rfl ⟨_, _, rfl, xe_rgone T <| xe_var rfl ⟨_, _, rfl, pla_strs _, pla_strs _, shp_tup hr1, shp_tup hq1, ?_⟩⟩
        rw [eqv_tup]
        have e : decide (r.2 = q2.2) = decide (r = q2) := by
          have c : r.1 = q2.1 := by simpa using c
          rw [decide_eq_decide, Prod.ext_iff]
          exact ⟨fun h => ⟨c, h⟩, fun h => h.2⟩
        rw [e]
        exact fin
      · have e : decide (r = q2) = false := by
          have c : ¬ r.1 = q2.1 := by simpa using c
          exact decide_eq_false fun h => c (by rw [h])
        rw [e] at fin
        exact fin
    · refine xs_ret <| xe_andV <| xe_isiR <| xe_var rfl ⟨_, false, .ty rfl, T.kt_Rule "str" (by simp), _, rfl, if_ff ?_⟩
      exact fin
def ruleT (r : Rl) : Str := if r.2 = [] then r.1 else Txt.join " " (r.1 :: "if" :: r.2)
theorem sum_le {ws : List Str} {b : Nat} (h : ∀ w ∈ ws, w.length ≤ b) : (ws.map (·.length)).sum ≤ ws.length * b := by
  induction ws with
  | nil => simp
  | cons w ws ih =>
    have h1 := h w (by simp)
    have h2 := ih fun z hz => h z (List.mem_cons_of_mem _ hz)
    simp [Nat.succ_mul]; omega
def F_lrule_text : FR := fun ds Φ => ∃ (n : Str) (ws : List Str), ds = [.tup [.str n, .tup (ws.map .str)]] ∧ ws.length ≤ 14 ∧ (∀ w ∈ n :: ws, w ∈ pool) ∧ ∀ ys, GS.IsLot ys ws → Φ (.d (.str (ruleT (n, ys))))
theorem pool_len : ∀ n ∈ pool, n.length ≤ 3 := by decide +kernel
theorem ok_lrule_text (T : Txt K mg a) (G_lw_lot : FnOk P w K mg base CX0 1 a.f_lw_lot a.fd_lw_lot ["_law_some"] (spR (ZZ K a) F_lot)) : FnOk P w K mg base CX0 2 a.f_lw_rule_text a.fd_lw_rule_text ["_law_rule"] (spR (ZZ K a) F_lrule_text) := by
  refine T.F_lw_rule_text.ok sc_lw_rule_text (fun vs H Q E h => ?_) (fun cdv A outer s H vs Q E hr h => ?_)
  · obtain ⟨M, ds, Φ, _, al, ⟨n, ws, rfl, _⟩, _⟩ := h
    exact al.len
  · obtain ⟨M, ds, Φ, ex, al, ⟨n, ws, rfl, h1, h2, fin⟩, q⟩ := h
    refine ⟨_, (pss_one (ps_ret (GX.pe_joinK (K := K) rfl pe_str (pe_op op_cat (pe_op op_cat (pe_lst (pa_cons (pe_ix (show IxR _ (rIx K) from ix_seq) (pv 0) pe_int (fun _ _ => rfl)) pa_nil)) (pe_ifExp (pt_cmpR (op_neD hr.units) (pe_ix (show IxR _ (rIx K) from ix_seq) (pv 0) pe_int (fun _ _ => rfl)) (pe_tup pa_nil) (nomark _)) (pe_lst (pa_cons pe_str pa_nil)) (pe_lst pa_nil))) (pe_callTy call_list_of (by rfl) T.n_list (by decide +kernel) (pa_cons (pe_call G_lw_lot (hr.mono (by decide)) (by rfl) T.m_lw_lot T.F_lw_lot.kp T.b_lw_lot .nil pass0 (pa_cons (pe_ix (show IxR _ (rIx K) from ix_seq) (pv 0) pe_int (fun _ _ => rfl)) pa_nil)) pa_nil)))))), entR (n := 0) ex al rfl q ?_⟩
    walk_at "ent"
    have okw : ∀ w ∈ ws, PyData.strOk w = true := fun w hw => (pool_ok w (h2 w (by simp [hw]))).2.2
    have sh0 : SeqAt.shaped (py (.tup [])) = true := shp_tup (ns := []) (by simp)
    refine xs_ret <| xe_join <| xe_str ⟨_, rfl, xe_ofO <| xo_cat <| xe_ofO <| xo_cat <| xe_ofO <| xo_lst <| xa_cons <| xe_ix <| xe_var rfl <| xe_int ⟨_, _, rfl, rfl, xa_nil ⟨by simp, _, rfl, ?_⟩⟩⟩
    refine xr_if <| xt_test <| xe_neD <| xe_ix <| xe_var rfl <| xe_int ⟨_, _, rfl, rfl, xe_tup <| xa_nil ⟨by simp, pla_strs _, rfl, shp_tup okw, sh0, _, rfl, ?_⟩⟩
    rw [show D.tup [] = .tup (([] : List Str).map .str) from rfl, eqv_tup]
    have rest : ∀ (mid : List Str), mid.length ≤ 1 → (∀ x ∈ mid, x.length ≤ 3) → (∀ ys, GS.IsLot ys ws → ruleT (n, ys) = Txt.join " " ([n] ++ mid ++ ys)) → ∀ ys : List Str, GS.IsLot ys ws → ∃ zs : List Str, (D.lst (([D.str n] ++ mid.map .str) ++ ys.map .str) = .lst (zs.map .str) ∨ D.lst (([D.str n] ++ mid.map .str) ++ ys.map .str) = .tup (zs.map .str)) ∧ (zs.map (·.length)).sum + zs.length * (" " : Str).length ≤ 16777216 ∧ Φ (.d (.str (Txt.join " " zs))) := fun mid m1 m2 m3 ys hys => by
      have ly : ys.length ≤ ws.length := nodup_len (GS.Asc.nodup hys.asc) fun x hx => (hys.mem x).mp hx
      have hz : ∀ x ∈ [n] ++ mid ++ ys, x.length ≤ 3 := fun x hx => by
        rcases List.mem_append.mp hx with q | q
        · rcases List.mem_append.mp q with q | q
          · rw [List.mem_singleton.mp q]; exact pool_len n (h2 n (by simp))
          · exact m2 x q
        · exact pool_len x (h2 x (by simp [(hys.mem x).mp q]))
      have s1 := sum_le hz
      have l2 : (" " : Str).length = 1 := by decide
      have f := fin ys hys
      rw [m3 ys hys] at f
      refine ⟨[n] ++ mid ++ ys, .inl (by simp), ?_, f⟩
      rw [l2]
      simp at s1 ⊢
      omega
    cases ws with
    | nil =>
      refine if_ff <| xe_ofO <| xo_lst <| xa_nil ⟨by simp, _, rfl, _, _, rfl, rfl, by simp, _, rfl, ?_⟩
      refine xe_ofO <| xo_list <| xr_call (fun _ => .nil) <| xa_cons <| xe_ix <| xe_var rfl <| xe_int ⟨_, _, rfl, rfl, xa_nil ⟨[], _, rfl, .inr rfl, by simp, by simp, fun ys hys => on_d ⟨_, .inr rfl, _, rfl, ?_⟩⟩⟩
      have e : ys = [] := List.eq_nil_iff_forall_not_mem.mpr fun z hz => by simpa using (hys.mem z).mp hz
      refine ⟨_, _, rfl, rfl, by subst e; simp, _, rfl, rest [] (by simp) (by simp) (fun zs hz => ?_) ys hys⟩
      have e : zs = [] := List.eq_nil_iff_forall_not_mem.mpr fun z hz2 => by simpa using (hz.mem z).mp hz2
      subst e
      exact (if_pos rfl).trans rfl
    | cons w ws =>
      refine if_tt <| xe_ofO <| xo_lst <| xa_cons <| xe_str <| xa_nil ⟨by simp, _, rfl, _, _, rfl, rfl, by simp, _, rfl, ?_⟩
      refine xe_ofO <| xo_list <| xr_call (fun _ => .nil) <| xa_cons <| xe_ix <| xe_var rfl <| xe_int ⟨_, _, rfl, rfl, xa_nil ⟨w :: ws, _, rfl, .inr rfl, by omega, okw, fun ys hys => on_d ⟨_, .inr rfl, _, rfl, ?_⟩⟩⟩
      have ly : ys.length ≤ (w :: ws).length := nodup_len (GS.Asc.nodup hys.asc) fun x hx => (hys.mem x).mp hx
      refine ⟨_, _, rfl, rfl, by simp at ly h1 ⊢; omega, _, rfl, rest ["if"] (by simp) (fun x hx => by rw [List.mem_singleton.mp hx]; decide) (fun zs hz => ?_) ys hys⟩
      have ne : zs ≠ [] := fun e => by
        have := (hz.mem w).mpr (by simp)
        rw [e] at this; cases this
      exact (if_neg ne).trans rfl
/-! ### rooms: == and their texts -/
theorem zip_inj {α β : Type} : ∀ {fs : List α} {vs us : List β}, vs.length = fs.length → us.length = fs.length → fs.zip vs = fs.zip us → vs = us
  | [], [], [], _, _, _ => rfl
  | [], _ :: _, _, h, _, _ => nomatch h
  | [], [], _ :: _, _, h, _ => nomatch h
  | f :: fs, [], _, h, _, _ => nomatch h
  | f :: fs, _ :: _, [], _, h, _ => nomatch h
  | f :: fs, v :: vs, u :: us, h, k, e => by
    simp only [List.zip_cons_cons, List.cons.injEq, Prod.mk.injEq, true_and] at e
    rw [e.1, zip_inj (by simpa using h) (by simpa using k) e.2]
theorem vstr_inj {ws us : List Str} (h : ws.map V.str = us.map V.str) : ws = us := (List.map_inj_right fun _ _ e => V.str.inj e).mp h
theorem rule_det {Z : Wd} {M H : Hp} {v : V} {r q : Rl} (e : Ex M H) (dt : GX.Det Z.K H) (a1 : At Z M v (ruleO r)) (a2 : At Z M v (ruleO q)) : r = q := by
  obtain ⟨n, ws⟩ := r
  obtain ⟨m, us⟩ := q
  unfold ruleO at a1 a2
  cases a1 with
  | @obj p dx _ vs _ k l l2 al =>
    cases a2 with
    | @obj _ dx2 _ vs2 _ k2 m1 m2 al2 =>
      rw [k] at k2
      have k3 := Option.some.inj k2
      injection k3 with _ _ k4
      have ev : vs = vs2 := zip_inj l m1 k4
      subst ev
      obtain ⟨v0, v1, rfl⟩ : ∃ v0 v1, vs = [v0, v1] := by
        match vs, l2 with
        | [v0, v1], _ => exact ⟨v0, v1, rfl⟩
      have x0 := al 0 v0 (.str n) rfl rfl
      have y0 := al2 0 v0 (.str m) rfl rfl
      have x1 := al 1 v1 (.tup (ws.map .str)) rfl rfl
      have y1 := al2 1 v1 (.tup (us.map .str)) rfl rfl
      cases x0
      cases y0
      cases x1 with
      | @tup t xs _ h1 h2 h3 =>
        cases y1 with
        | @tup _ ys _ g1 g2 g3 =>
          have e1 : xs = ws.map V.str := AtL.strs (Z := Z) (M := M) ⟨h2, h3⟩
          have e2 : ys = us.map V.str := AtL.strs (Z := Z) (M := M) ⟨g2, g3⟩
          have e3 := dt t xs ys (sqT_mono e h1) (sqT_mono e g1)
          rw [e1, e2] at e3
          rw [vstr_inj e3]
def unS : D → Str | .str s => s | _ => ""
def unR : D → Rl | .obj _ [.str n, .tup ws] => (n, ws.map unS) | _ => ("", [])
theorem unR_rule (r : Rl) : unR (ruleO r) = r := by
  show (r.1, (r.2.map D.str).map unS) = r
  rw [List.map_map, show (unS ∘ D.str) = id from rfl, List.map_id]
def F_Room_eq : FR := fun ds Φ => ∃ (os : List Rl) (ns : List Str) (d : D), ds = [roomD os ns, d] ∧ ((∃ os' ns', d = roomD os' ns' ∧ (∀ r ∈ os, ∀ w ∈ r.2, PyData.strOk w = true) ∧ (∀ r ∈ os', ∀ w ∈ r.2, PyData.strOk w = true) ∧ Φ (.d (.bl (decide (os = os'))))) ∨ (∃ s : Str, d = .str s ∧ Φ (.d (.bl false))) ∨ (∃ r : Rl, d = ruleO r ∧ Φ (.d (.bl false))))
theorem ok_Room_eq (T : Txt K mg a) (G_Rule_eq : FnOk P w K mg base CX0 1 a.f_Rule_eq a.fd_Rule_eq ["self", "other"] (spR (ZZ K a) F_Rule_eq)) : FnOk P w K mg base CX0 3 a.f_Room_eq a.fd_Room_eq ["self", "other"] (spR (ZZ K a) F_Room_eq) := by
  refine T.F_Room_eq.ok sc_Room_eq (fun vs H Q E h => ?_) (fun cdv A outer s H vs Q E hr h => ?_)
  · obtain ⟨M, ds, Φ, _, al, ⟨os, ns, d, rfl, _⟩, _⟩ := h
    exact al.len
  · obtain ⟨M, ds, Φ, ex, al, ⟨os, ns, d, rfl, h⟩, q⟩ := h
    refine ⟨_, (pss_one (ps_ret (pe_and (pe_callB (show CallR _ (.builtin "isinstance") (rIsi K) from call_isi) (by rfl) T.n_isinstance (by decide +kernel) (pa_cons (pv 1) (pa_cons (pe_glob (v := .ref a.C_Room) rfl T.m_Room rfl) pa_nil))) (pe_one (pe_cmpR (GX.op_tupOwn G_Rule_eq (hr.mono (by decide)) ⟨T.mt_Rule_eq.1, T.mt_Rule_eq.2⟩ T.b_Rule_eq pass0) (pe_fldK (K := K) rfl (pv 0) rfl) (pe_fldK (K := K) rfl (pv 1) rfl) (nomark _)))))), entR (n := 0) ex al rfl q ?_⟩
    walk_at "ent"
    rcases h with ⟨os2, ns2, rfl, h1, h2, fin⟩ | ⟨s2, rfl, fin⟩ | ⟨r2, rfl, fin⟩
    · refine xs_ret <| xe_andV <| xe_isiR <| xe_var rfl ⟨_, true, .obj T.isC_Room, T.ko_Room_Room, _, rfl, if_tt ?_⟩
      refine xe_tupOwn (c := 0) rfl <| xe_mrules T <| xe_var rfl ⟨_, _, rfl, xe_mrules T <| xe_var rfl ⟨_, _, rfl, os.map ruleO, os2.map ruleO, fun d e => decide (unR d = unR e), rfl, rfl, fun d hd => ?_, fun d hd => ?_, fun M H v d e hd he ex dt a1 a2 => ?_, fun d hd e he => ?_, fun r hr => ?_⟩⟩
      · obtain ⟨r, _, rfl⟩ := List.mem_map.mp hd
        exact ⟨_, rfl⟩
      · obtain ⟨r, _, rfl⟩ := List.mem_map.mp hd
        exact ⟨_, rfl⟩
      · obtain ⟨r, _, rfl⟩ := List.mem_map.mp hd
        obtain ⟨q, _, rfl⟩ := List.mem_map.mp he
        rw [rule_det ex dt a1 a2]
        exact decide_eq_true rfl
      · obtain ⟨r, hr, rfl⟩ := List.mem_map.mp hd
        obtain ⟨q, hq, rfl⟩ := List.mem_map.mp he
        refine ⟨r, _, rfl, .inl ⟨q, rfl, h1 r hr, h2 q hq, ?_⟩⟩
        show S.d (.bl (decide (r = q))) = .d (.bl (decide (unR (ruleO r) = unR (ruleO q))))
        rw [unR_rule, unR_rule]
      · have e : r = decide (os = os2) := by
          rw [Bool.eq_iff_iff, hr, decide_eq_true_eq]
          simp only [List.length_map]
          constructor
          · rintro ⟨l, h⟩
            refine List.ext_getElem l fun i i1 i2 => ?_
            have := h i (ruleO os[i]) (ruleO os2[i]) (by simp [i1]) (by simp [i2])
            simpa [unR_rule] using this
          · rintro rfl
            refine ⟨rfl, fun i d e g1 g2 => ?_⟩
            rw [g1] at g2
            cases g2
            exact decide_eq_true rfl
        rw [e]
        exact fin
    · refine xs_ret <| xe_andV <| xe_isiR <| xe_var rfl ⟨_, false, .ty rfl, T.kt_Room "str" (by simp), _, rfl, if_ff ?_⟩
      exact fin
    · refine xs_ret <| xe_andV <| xe_isiR <| xe_var rfl ⟨_, false, .obj T.isC_Rule, T.ko_Rule_Room, _, rfl, if_ff ?_⟩
      exact fin
def roomT (os : List Rl) : Str := Txt.join "\n" (os.map ruleT)
theorem cut_from {α : Type} {xs : List α} {b : Int} (h : 0 ≤ b) (h2 : b ≤ xs.length) : cut xs (some b) none = xs.drop b.toNat := by
  unfold cut
  have e1 : HT.sIx xs.length 0 (some b) = b.toNat := by
    show (if b < 0 then (b + (xs.length : Int)).toNat else min b.toNat xs.length) = b.toNat
    rw [if_neg (by omega)]
    omega
  have e2 : HT.sIx xs.length xs.length none = xs.length := rfl
  rw [e1, e2, List.take_of_length_le (by simp)]
open Classical in
noncomputable def lotC (ws : List Str) : List Str := if h : ∃ ys, GS.IsLot ys ws then choose h else []
theorem lotC_is {ys ws : List Str} (h : GS.IsLot ys ws) : lotC ws = ys := by
  have e : ∃ ys, GS.IsLot ys ws := ⟨ys, h⟩
  unfold lotC
  rw [dif_pos e]
  have k := Classical.choose_spec e
  exact GS.Asc.uniq k.asc h.asc fun x => (k.mem x).trans (h.mem x).symm
theorem joinL_len {y : List Nat} : ∀ {ps : List (List Nat)}, (TL.joinL y ps).length ≤ (ps.map (·.length)).sum + ps.length * y.length
  | [] => by simp [TL.joinL]
  | [p] => by simp [TL.joinL]
  | p :: q :: r => by
    have := joinL_len (y := y) (ps := q :: r)
    simp only [TL.joinL, List.length_append, List.map_cons, List.sum_cons, List.length_cons] at this ⊢
    rw [Nat.succ_mul]
    omega
theorem join_len (y : Str) (ps : List Str) : (Txt.join y ps).length ≤ (ps.map (·.length)).sum + ps.length * y.length := by
  have := joinL_len (y := TL.tl y) (ps := ps.map TL.tl)
  rw [← TL.tl_join] at this
  rw [TL.join_eq]
  have e : ∀ x : Str, x.length = (TL.tl x).length := fun x => by show x.cps.size = x.cps.toList.length; simp
  rw [e, e y]
  refine Nat.le_trans this ?_
  rw [List.map_map, List.length_map, show (fun x : Str => x.length) = ((·.length) ∘ TL.tl) from funext e]
  exact Nat.le_refl _
theorem ruleT_len {r : Rl} (h : r.2.length ≤ 14) (k : ∀ w ∈ r.1 :: r.2, w.length ≤ 3) : (ruleT r).length ≤ 100 := by
  unfold ruleT
  split
  · have := k r.1 (by simp); omega
  · have j := join_len " " (r.1 :: "if" :: r.2)
    have s1 := sum_le (b := 3) k
    have l1 : ("if" : Str).length = 2 := by decide
    have l2 : (" " : Str).length = 1 := by decide
    simp [l1, l2] at j s1
    omega
noncomputable def textP (rs : List Rl) : List Str := rs.map fun r => ruleT (r.1, lotC r.2)
noncomputable def textL (rs : List Rl) : Str := Txt.join "\n" (textP rs)
def F_ltext : FR := fun ds Φ => ∃ rs : List Rl, ds = [.lst (rs.map ruleD)] ∧ rs.length ≤ 200 ∧ (∀ r ∈ rs, r.2.length ≤ 14 ∧ (∀ w ∈ r.1 :: r.2, w ∈ pool) ∧ ∃ ys, GS.IsLot ys r.2) ∧ Φ (.d (.str (textL rs)))
theorem ok_ltext (T : Txt K mg a) (G_lw_rule_text : FnOk P w K mg base CX0 2 a.f_lw_rule_text a.fd_lw_rule_text ["_law_rule"] (spR (ZZ K a) F_lrule_text)) : FnOk P w K mg base CX0 3 a.f_lw_text a.fd_lw_text ["_law_rules_here"] (spR (ZZ K a) F_ltext) := by
  refine T.F_lw_text.ok sc_lw_text (fun vs H Q E h => ?_) (fun cdv A outer s H vs Q E hr h => ?_)
  · obtain ⟨M, ds, Φ, _, al, ⟨rs, rfl, _⟩, _⟩ := h
    exact al.len
  · obtain ⟨M, ds, Φ, ex, al, ⟨rs, rfl, h0, h1, fin⟩, q⟩ := h
    refine ⟨_, (pss_one (ps_ret (GX.pe_joinK (K := K) rfl pe_str (pe_lc (own := [("_law_rule", 1)]) (g := (gName 1)) (tt := tYes) rfl sc_lw_text.nd (pi_list (pv 0)) (blkOk_by (N := N_lw_text) (sc := defScope s_lw_text) (by decide +kernel)) (fun _ _ _ _ _ => (pg_name (i := 1) sc_lw_text.nd rfl (Or.inl rfl))) (fun _ _ _ _ _ => pts_nil) (fun _ _ _ _ _ => (pe_call G_lw_rule_text (hr.mono (by decide)) (by rfl) T.m_lw_rule_text T.F_lw_rule_text.kp T.b_lw_rule_text .nil pass0 (pa_cons (pv 1) pa_nil))))))), entR (n := 1) ex al rfl q ?_⟩
    walk_at "ent"
    have small : ∀ x ∈ textP rs, x.length ≤ 100 := fun x hx => by
      obtain ⟨r, hr, rfl⟩ := List.mem_map.mp hx
      obtain ⟨k1, k2, ys, k3⟩ := h1 r hr
      rw [lotC_is k3]
      have ly : ys.length ≤ r.2.length := nodup_len (GS.Asc.nodup k3.asc) fun x hx => (k3.mem x).mp hx
      refine ruleT_len (by show ys.length ≤ 14; omega) fun w hw => ?_
      rcases List.mem_cons.mp hw with rfl | hw
      · exact pool_len _ (k2 _ (by simp))
      · exact pool_len _ (k2 w (by simp [(k3.mem w).mp hw]))
    have sz := sum_le small
    have l2 : ("\n" : Str).length = 1 := by decide
    refine xs_ret <| xe_join <| xe_str ⟨_, rfl, xe_ofO <| xo_fg (v := 1) (g := ruleD) (f := fun r => .str (ruleT (r.1, lotC r.2))) (p := fun _ => true) <| xi_list <| xe_var rfl ⟨_, .inl rfl, rs, rfl, rfl, by omega, fun r hr => ?_, _, rfl, textP rs, .inl ?_, ?_, fin⟩⟩
    · try dsimp only [List.set]
      obtain ⟨k1, k2, _⟩ := h1 r hr
      refine xt_yes ⟨rfl, rfl, fun _ => xr_call (fun _ => .nil) <| xa_cons <| xe_var rfl <| xa_nil ⟨r.1, r.2, rfl, k1, k2, fun ys hys => on_d ⟨by rw [lotC_is hys], rfl⟩⟩⟩
    · rw [show rs.filter (fun _ => true) = rs from List.filter_eq_self.mpr fun _ _ => rfl]
      simp [Function.comp_def, textP]
    · rw [l2]
      simp [textP] at sz ⊢
      omega
/-! ### texts of rules tell the rules -/
def partsT (r : Rl) : List Str := if r.2 = [] then [r.1] else r.1 :: "if" :: r.2
structure RGood (r : Rl) : Prop where
  l : r.2.length ≤ 14
  p : ∀ w ∈ r.1 :: r.2, w ∈ pool
theorem RGood.len {r : Rl} (h : RGood r) : ∀ w ∈ r.1 :: r.2, w.length ≤ 3 := fun w hw => pool_len w (h.p w hw)
theorem RGood.str {r : Rl} (h : RGood r) : ∀ w ∈ r.2, PyData.strOk w = true := fun w hw => (pool_ok w (h.p w (by simp [hw]))).2.2
theorem ruleT_join (r : Rl) : ruleT r = Txt.join " " (partsT r) := by
  unfold ruleT partsT
  split
  · rw [TL.join_eq]; rfl
  · rfl
/-! ### texts of rooms tell the rooms -/
/-! ### the rules that are made -/
noncomputable def lotR (r : Rl) : Rl := (r.1, lotC r.2)
theorem textL_eq (rs : List Rl) : textL rs = roomT (rs.map lotR) := by unfold textL roomT textP; rw [List.map_map]; rfl
theorem lotR_good {r : Rl} (ok : ROk r) (h : GS.IsLot (lotC r.2) r.2) : RGood (lotR r) := by
  refine ⟨?_, fun w hw => ?_⟩
  · have := nodup_len (GS.Asc.nodup h.asc) fun x hx => (h.mem x).mp hx
    have := ok.l
    show (lotC r.2).length ≤ 14
    omega
  · rcases List.mem_cons.mp hw with rfl | hw
    · exact ok.n
    · exact (ok.w w ((h.mem w).mp hw)).1
theorem lot_uniq {l m ws : List Str} (h : GS.IsLot l ws) (k : GS.IsLot m ws) : l = m := GS.Asc.uniq h.asc k.asc fun x => (h.mem x).trans (k.mem x).symm
def NmOk (w : Str) : Prop := w.length ≤ sizeLine ∧ nmS w = true
theorem nm_pool {w : Str} (h : w ∈ pool) : NmOk w := ⟨(pool_ok w h).1, (pool_ok w h).2.1⟩
def F_Rule_initN : FB := fun y ds Φ => ∃ (s : Str) (ws : List Str) (g : D), y = .ins 0 [] ∧ ds = [.str s, g] ∧ (g = .lst (ws.map .str) ∨ g = .tup (ws.map .str)) ∧ NmOk s ∧ (∀ w ∈ ws, NmOk w ∧ w ≠ s) ∧ ws.length ≤ 14 ∧ ∀ lot, GS.IsLot lot ws → Φ (.d .non) (.ins 0 [("name", .str s), ("gone", .tup (lot.map .str))])
theorem ok_Rule_initN {ps : List Str} (h : FnOk P w K mg base (L2.CX P w) 3 a.f_Rule_init a.fd_Rule_init ps (spBX (ZZ K a) F_Rule_initX)) : FnOk P w K mg base CX0 3 a.f_Rule_init a.fd_Rule_init ps (spB (ZZ K a) F_Rule_initN) := calmB h fun y ds Φ ⟨s, ws, g, e1, e2, e3, h1, h2, h3, fin⟩ => by
  have nm : isNm (.str s) = true := h1.2
  have bad : badG (.str s) g = false := by
    unfold badG
    rw [hasD_strs e3, decide_eq_false fun q => (h2 s q).2 rfl]
    have : areNm g = true := areNm_iff.mpr ⟨ws, e3, fun w hw => (h2 w hw).1.2⟩
    rw [this]; rfl
  have ok1w : ∀ w, NmOk w → ok1 (.str w) := fun w hw => ⟨⟨_, rfl⟩, fun s e => by cases e; exact hw.1⟩
  refine ⟨.str s, g, e1, e2, ok1w s h1, ⟨⟨by rcases e3 with rfl | rfl <;> exact ⟨_, rfl⟩, fun s e => by rcases e3 with rfl | rfl <;> cases e⟩, fun xs hx => ?_⟩, fun c => (nomatch nm.symm.trans c), fun _ c => (nomatch bad.symm.trans c), fun s' ws' es hw _ _ lot hlot => ?_⟩
  · have e : xs = ws.map .str := by
      rcases e3 with rfl | rfl <;> rcases hx with hx | hx <;> first | exact (D.lst.inj hx).symm | exact (D.tup.inj hx).symm | cases hx
    subst e
    refine ⟨by simp; omega, fun x hx => ?_⟩
    obtain ⟨w, hw, rfl⟩ := List.mem_map.mp hx
    exact ok1w w (h2 w hw).1
  · cases es
    have : ws = ws' := by
      have inj : ∀ {l m : List Str}, l.map D.str = m.map D.str → l = m := fun h => (List.map_inj_right fun _ _ e => D.str.inj e).mp h
      rcases e3 with rfl | rfl <;> rcases hw with hw | hw <;> first | exact inj (D.lst.inj hw) | exact inj (D.tup.inj hw) | cases hw
    subst this
    exact fin lot hlot
/-! ### the law's own rooms, by their constructors -/
theorem lots_ok {rs : List Rl} (rok : ∀ r ∈ rs, ROk r) (h1 : ∀ r ∈ rs, GS.IsLot (lotC r.2) r.2) : ∀ q ∈ rs.map lotR, RGood q := fun q hq => by
  obtain ⟨r, hr, rfl⟩ := List.mem_map.mp hq
  exact lotR_good (rok r hr) (h1 r hr)
def F_madeN : FR := fun ds Φ => ∃ rs : List Rl, ds = [.lst (rs.map ruleD)] ∧ rs.length ≤ 42 ∧ (∀ r ∈ rs, ROk r) ∧ ((∀ r ∈ rs, GS.IsLot (lotC r.2) r.2) → ∀ ns, GS.IsLot ns (wantAll (rs.map lotR)) → Φ (.d (roomD (rs.map lotR) ns)))
theorem ok_madeN (T : Txt K mg a) (G_Rule_init : FnOk P w K mg base CX0 3 a.f_Rule_init a.fd_Rule_init ["self", "name", "gone"] (spB (ZZ K a) F_Rule_initN)) (G_Room_init : FnOk P w K mg base CX0 2 a.f_Room_init a.fd_Room_init ["self", "rules"] (spB (ZZ K a) F_Room_init)) : FnOk P w K mg base CX0 5 a.f_lw_made a.fd_lw_made ["_law_rules_here"] (spR (ZZ K a) F_madeN) := by
  refine T.F_lw_made.ok sc_lw_made (fun vs H Q E h => ?_) (fun cdv A outer s H vs Q E hr h => ?_)
  · obtain ⟨M, ds, Φ, _, al, ⟨rs, rfl, _⟩, _⟩ := h
    exact al.len
  · obtain ⟨M, ds, Φ, ex, al, ⟨rs, rfl, hl, rok, fin⟩, q⟩ := h
    refine ⟨_, (pss_one (ps_ret (pe_make T.mk_Room G_Room_init (hr.mono (by decide)) (by rfl) T.m_Room T.b_Room_init .nil pass0 (pa_cons (pe_lc (own := [("_law_name", 1), ("_law_wants", 2)]) (g := (gTup K 2 (gCons (gName 1) (gCons (gName 2) gNil)))) (tt := tYes) rfl sc_lw_made.nd (pi_list (pv 0)) (blkOk_by (N := N_lw_made) (sc := defScope s_lw_made) (by decide +kernel)) (fun _ _ _ _ _ => (pg_tup rfl (pgs_cons (pg_name (i := 1) sc_lw_made.nd rfl (Or.inl rfl)) (pgs_cons (pg_name (i := 2) sc_lw_made.nd rfl (Or.inl rfl)) pgs_nil)))) (fun _ _ _ _ _ => pts_nil) (fun _ _ _ _ _ => (pe_make T.mk_Rule G_Rule_init (hr.mono (by decide)) (by rfl) T.m_Rule T.b_Rule_init .nil pass0 (pa_cons (pv 1) (pa_cons (pv 2) pa_nil))))) pa_nil)))), entR (n := 2) ex al rfl q ?_⟩
    walk_at "ent"
    refine xs_ret <| xe_make (c := 1) rfl (fun _ => .nil) <| xa_cons <| xe_ofO <| xo_lc <| xi_list <| xe_var rfl ⟨_, .inl rfl, fun v hv => by simp at hv; rcases hv with rfl | rfl <;> rfl, by simp; omega, fun m acc δ => δ = [.d (.lst (rs.map ruleD)), .no, .no] ∧ acc = ((rs.take m).map lotR).map ruleO ∧ ∀ r ∈ rs.take m, GS.IsLot (lotC r.2) r.2, ⟨rfl, rfl, by simp⟩, ?_, ?_⟩
    · rintro m x acc δ1 bs hb hx ⟨rfl, rfl, h1⟩
      obtain ⟨r, hr, rfl⟩ : ∃ r, rs[m]? = some r ∧ ruleD r = x := by simpa using hx
      have ok := rok r (List.mem_of_getElem? hr)
      refine xg_tup (by rfl) (xgs_cons (xg_name (by decide) (hb _ (by decide)) (xgs_cons (xg_name (by decide) (hb _ (by decide)) (xgs_nil ?_)))))
      try dsimp only [List.set]
      refine xt_yes <| if_tt <| xe_make (c := 0) rfl (fun _ => .nil) <| xa_cons <| xe_var rfl <| xa_cons <| xe_var rfl <| xa_nil ⟨r.1, r.2, _, rfl, rfl, .inr rfl, nm_pool ok.n, fun w hw => ⟨nm_pool (ok.w w hw).1, (ok.w w hw).2⟩, ok.l, fun lot hlot => ⟨rfl, _, rfl, rfl, rfl, ?_, ?_⟩⟩
      · rw [GS.take_get hr]
        simp [ruleO, lotR, lotC_is hlot]
      · intro z hz
        rw [GS.take_get hr] at hz
        rcases List.mem_append.mp hz with hz | hz
        · exact h1 z hz
        · rw [List.mem_singleton.mp hz, lotC_is hlot]; exact hlot
    rintro acc δ1 ⟨rfl, rfl, h1⟩
    rw [List.length_map, List.take_length] at h1 ⊢
    refine ⟨_, rfl, xa_nil ⟨rs.map lotR, rfl, .inl rfl, by simp; omega, fun q hq => (lots_ok rok h1 q hq).l, fun ns hns => ⟨rfl, _, rfl, rfl, fin h1 ns hns⟩⟩⟩
/-! ### .. errors without a context -/
theorem ok_Rule_initXN (T : Txt K mg a) (G_is_name : FnOk P w K mg base CX0 1 a.f_is_name a.fd_is_name ["value"] (spR (ZZ K a) F_is_name)) (G_are_names : FnOk P w K mg base CX0 2 a.f_are_names a.fd_are_names ["value"] (spR (ZZ K a) F_are_names)) (G_lot_of : FnOk P w K mg base CX0 1 a.f_lot_of a.fd_lot_of ["names"] (spR (ZZ K a) F_lot_of)) : FnOk P w K mg base (L2N.CX P w) 3 a.f_Rule_init a.fd_Rule_init ["self", "name", "gone"] (spBX (ZZ K a) F_Rule_initX) := by
  refine T.F_Rule_init.ok sc_Rule_init (fun vs H Q E h => ?_) (fun cdv A outer s H vs Q E hr h => ?_)
  · obtain ⟨M, p, ws', ho, y, ds, Φ, Ξ, rfl, _, _, _, _, al, ⟨n, g, rfl, rfl, _⟩, _⟩ := h
    simp [al.len]
  · obtain ⟨M, p, ws', ho, y, ds, Φ, Ξ, rfl, hp, hm, hy, ex, al, ⟨n, g, rfl, rfl, hn, hg, r1, r2, fin⟩, q, qx⟩ := h
    refine ⟨_, (pss_cons (ps_if (pt_not (pt_val (pe_call G_is_name (hr.mono (by decide)) (by rfl) T.m_is_name T.F_is_name.kp T.b_is_name .nil pass0 (pa_cons (pv 1) pa_nil)))) (pss_one (GX.ps_raiseON rfl (L2N.takes_of rfl rfl rfl rfl) T.oe_InvalidRule T.ei_InvalidRule T.et_InvalidRule (ok_InvalidRule_init T) (hr.mono (by decide)) T.b_InvalidRule_init (by rfl) T.m_InvalidRule (pa_cons pe_str pa_nil))) pss_nil)
      (pss_cons (ps_if (PW.pt (pw_or (pt_not (pt_val (pe_call G_are_names (hr.mono (by decide)) (by rfl) T.m_are_names T.F_are_names.kp T.b_are_names .nil pass0 (pa_cons (pv 2) pa_nil)))) (pw_or1 (pt_cmpR (show OpR _ (compareOp .In) (rIn K false) from op_in_seq) (pv 1) (pv 2) rfl)))) (pss_one (GX.ps_raiseON rfl (L2N.takes_of rfl rfl rfl rfl) T.oe_InvalidRule T.ei_InvalidRule T.et_InvalidRule (ok_InvalidRule_init T) (hr.mono (by decide)) T.b_InvalidRule_init (by rfl) T.m_InvalidRule (pa_cons pe_str pa_nil))) pss_nil)
      (pss_cons (ps_fld (pv 0) (pv 1) rfl)
      (pss_one (ps_fld (pv 0) (pe_call G_lot_of (hr.mono (by decide)) (by rfl) T.m_lot_of T.F_lot_of.kp T.b_lot_of .nil pass0 (pa_cons (pv 2) pa_nil)) rfl))))), entBX (n := 0) hp hm hy ex al rfl q ?_⟩
    walk_at "ent"
    refine xs_seq <| xs_if <| xt_not <| xt_test <| xr_call (fun _ => .nil) <| xa_cons <| xe_var rfl <| xa_nil ⟨n, rfl, hn, on_d ⟨_, rfl, ite_b (fun c => ?_) (fun c => ?_)⟩⟩
    · have c : isNm n = false := by simpa using c
      exact xs_raise (c := 0) T.oe_InvalidRule T.en_InvalidRule <| xe_str <| xw_B qx rfl (r1 c)
    have c : isNm n = true := by simpa using c
    obtain ⟨s, rfl⟩ : ∃ s, n = .str s := by cases n with | str s => exact ⟨s, rfl⟩ | _ => cases c
    refine xs_next <| xs_seq <| xs_if <| xt_or <| xt_not <| xt_test <| xr_call (fun _ => .nil) <| xa_cons <| xe_var rfl <| xa_nil ⟨g, rfl, hg, on_d ⟨_, rfl, ite_b (fun h => ?_) (fun h => ?_)⟩⟩
    · have h : areNm g = false := by simpa using h
      exact if_tt (xs_raise (c := 0) T.oe_InvalidRule T.en_InvalidRule <| xe_str <| xw_B qx rfl (r2 c (by unfold badG; rw [h]; rfl)))
    have h : areNm g = true := by simpa using h
    obtain ⟨ws, hw, hnw⟩ := areNm_iff.mp h
    have e1 : seqOf g = some (ws.map .str) := by rcases hw with rfl | rfl <;> rfl
    have lw : ws.length ≤ 3000 := by
      have := (hg.2 (ws.map .str) hw).1
      simpa using this
    refine xt_test <| xe_inT <| xe_var rfl <| xe_var rfl ⟨s, ws, rfl, hw, _, rfl, ite_b (fun k => ?_) (fun k => ?_)⟩
    · exact xs_raise (c := 0) T.oe_InvalidRule T.en_InvalidRule <| xe_str <| xw_B qx rfl (r2 c (by unfold badG; rw [hasD_strs hw, k]; simp))
    refine xs_next <| xs_seq <| xs_fldO (c := 0) T.cl_Rule T.no_Rule_name <| xe_var rfl ⟨[], rfl, by decide, ?_⟩
    refine xs_fldO (c := 0) T.cl_Rule T.no_Rule_gone <| xr_call (fun _ => .nil) <| xa_cons <| xe_var rfl <| xa_nil ⟨ws, hw.symm.imp (fun e => by rw [e]; rfl) (fun e => by rw [e]; rfl), by omega, fun lot hlot _ => ?_⟩
    exact ⟨_, rfl, (show (0 : Nat) + 1 < 1000 by decide), _, rfl, fin s ws rfl hw c (by unfold badG; rw [hasD_strs hw, h, k]; rfl) lot hlot⟩
/-! ### lines of any words, read -/
def wrd : List Str := pool ++ (["", "if", "A", "abcd"] : List Str)
theorem wrd_nm : ∀ w ∈ wrd, isNm (.str w) = decide (w ∈ pool) := by decide +kernel
theorem wrd_blank : ∀ w ∈ wrd, 32 ∉ TL.tl w ∧ 10 ∉ TL.tl w ∧ w.length ≤ 4 ∧ PyData.strOk w = true := by decide +kernel
structure Ws (ws : List Str) : Prop where
  ne : ws ≠ []
  mem : ∀ w ∈ ws, w ∈ wrd
  len : ws.length ≤ 14
def lineT (ws : List Str) : Str := Txt.join " " ws
theorem Ws.split {ws : List Str} (h : Ws ws) : Txt.split (lineT ws) " " = ws :=
  TL.split_join (y := " ") (s := 32) (S := []) (by decide +kernel) (by decide +kernel) h.ne fun p hp => (wrd_blank p (h.mem p hp)).1
theorem Ws.short {ws : List Str} (h : Ws ws) : (lineT ws).length ≤ 80 := by
  have j := join_len " " ws
  have s1 := sum_le (b := 4) (ws := ws) fun w hw => (wrd_blank w (h.mem w hw)).2.2.1
  have l2 : (" " : Str).length = 1 := by decide
  have := h.len
  rw [l2] at j
  unfold lineT
  omega
def ruleW : List Str → Option Rl
  | [] => none
  | n :: rest => if n ∈ pool ∧ (rest = [] ∨ (rest.head? = some "if" ∧ 2 ≤ rest.length ∧ ∀ w ∈ rest.tail, w ∈ pool ∧ w ≠ n)) then some (n, rest.tail) else none
def F_read_ruleX : FRX := fun ds Φ Ξ => ∃ ws, ds = [.str (lineT ws)] ∧ Ws ws ∧ (ruleW ws = none → ∀ x, Ξ 0 x) ∧ ∀ r, ruleW ws = some r → ∀ lot, GS.IsLot lot r.2 → Φ (.d (ruleO (r.1, lot)))
theorem ok1_wrd {w : Str} (h : w ∈ wrd) : ok1 (.str w) := ⟨⟨_, rfl⟩, fun s e => by cases e; have := (wrd_blank w h).2.2.1; rw [sizeLine_eq]; omega⟩
theorem okS_wrd {ws : List Str} (h : ∀ w ∈ ws, w ∈ wrd) (l : ws.length ≤ 14) : okS (.lst (ws.map .str)) := ⟨⟨⟨_, rfl⟩, nofun⟩, fun xs e => by
  rcases e with e | e
  · cases e
    refine ⟨by simp; omega, fun x hx => ?_⟩
    obtain ⟨w, hw, rfl⟩ := List.mem_map.mp hx
    exact ok1_wrd (h w hw)
  · cases e⟩
theorem areNm_wrd {ws : List Str} (h : ∀ w ∈ ws, w ∈ wrd) : areNm (.lst (ws.map .str)) = decide (∀ w ∈ ws, w ∈ pool) := by
  rw [Bool.eq_iff_iff, areNm_iff, decide_eq_true_eq]
  constructor
  · rintro ⟨us, e, k⟩ w hw
    have e : us = ws := by
      rcases e with e | e
      · exact ((List.map_inj_right fun _ _ z => D.str.inj z).mp (D.lst.inj e)).symm
      · cases e
    subst e
    have this : isNm (.str w) = true := k w hw
    rw [wrd_nm w (h w hw)] at this
    exact of_decide_eq_true this
  · exact fun k => ⟨ws, .inl rfl, fun w hw => (wrd_nm w (h w hw)).trans (decide_eq_true (k w hw))⟩
theorem ok_read_ruleX (T : Txt K mg a) (X_Rule_init : FnOk P w K mg base (L2N.CX P w) 3 a.f_Rule_init a.fd_Rule_init ["self", "name", "gone"] (spBX (ZZ K a) F_Rule_initX)) : FnOk P w K mg base (L2N.CX P w) 5 a.f_read_rule a.fd_read_rule ["line"] (spRX (ZZ K a) F_read_ruleX) := by
  refine GX.okN T.F_read_rule sc_read_rule (fun vs H Q E h => ?_) (fun cdv A outer s H vs Q E hr h => ?_)
  · obtain ⟨M, ds, Φ, Ξ, _, al, ⟨ws, rfl, _⟩, _⟩ := h
    exact al.len
  · obtain ⟨M, ds, Φ, Ξ, ex, al, ⟨ws, rfl, h0, r1, fin⟩, q, qx⟩ := h
    obtain ⟨_, V_Rule_init_1, B_Rule_init_1⟩ := T.b1_Rule_init
    have e1 : ∀ (M : Hp), AtL (ZZ K a) M [V.ref a.e_Rule_init] [.tup []] := fun M => AtL.one (At.tup (Z := ZZ K a) (vs := []) (ds := []) (T.t_Rule_init M) rfl (fun i v d h => by simp at h))
    refine ⟨_, (pss_cons (ps_asg (pe_split (pv 0) pe_str) (GX.pg_star rfl (pgs_cons (pg_name (i := 1) sc_read_rule.nd rfl (Or.inl rfl)) (pgs_cons (pg_name (i := 2) sc_read_rule.nd rfl (Or.inl rfl)) pgs_nil))))
      (pss_cons (ps_if (pt_not (pt_truth (pv 2) (by intro _; rfl))) (pss_one (ps_ret (GX.pe_makeSD T.mk_Rule X_Rule_init (hr.mono (by decide)) (by rfl) T.m_Rule B_Rule_init_1 V_Rule_init_1 (fun σ => L2N.passAt (L2N.takes_of rfl rfl rfl rfl) σ) (pa_cons (pv 1) pa_nil)))) pss_nil)
      (pss_cons (ps_if (PW.pt (pw_or (pt_cmpR op_ne (pe_ix (show IxR _ (rIx K) from ix_seq) (pv 2) pe_int (fun _ _ => rfl)) pe_str (nomark _)) (pw_or1 (pt_cmpR op_eq (pe_callB (show CallR _ (.builtin "len") (G.rLen K) from call_len) (by rfl) T.n_len PySem.boot_len (pa_cons (pv 2) pa_nil)) pe_int (nomark _))))) (pss_one (GX.ps_raiseON rfl (L2N.takes_of rfl rfl rfl rfl) T.oe_InvalidRule T.ei_InvalidRule T.et_InvalidRule (ok_InvalidRule_init T) (hr.mono (by decide)) T.b_InvalidRule_init (by rfl) T.m_InvalidRule (pa_cons pe_str pa_nil))) pss_nil)
      (pss_one (ps_ret (GX.pe_makeSD T.mk_Rule X_Rule_init (hr.mono (by decide)) (by rfl) T.m_Rule T.b_Rule_init .nil (fun σ => L2N.passAt (L2N.takes_of rfl rfl rfl rfl) σ) (pa_cons (pv 1) (pa_cons (pe_slice (show SlR _ (rSlL K) from sl_list) (pv 2) (po_some pe_int) po_none) pa_nil)))))))), entRX (n := 2) ex al rfl q ?_⟩
    walk_at "ent"
    have ln := h0.short
    refine xs_seq <| xs_asgStar (by decide) (by decide) <| xe_ofO <| xo_split <| xe_var rfl ⟨_, rfl, xe_str ⟨_, rfl, by decide, by rw [sizeLine_eq]; omega, _, rfl, ?_⟩⟩
    rw [h0.split]
    obtain ⟨n, rest, rfl⟩ := List.exists_cons_of_ne_nil h0.ne
    have hn := h0.mem n (by simp)
    have hl := h0.len
    refine ⟨.str n, rest.map .str, rfl, by simp at hl ⊢; omega, by simp, ?_⟩
    try dsimp only [List.set]
    refine xs_freeze (i := 2) (by decide) rfl ?_
    try dsimp only [List.set]
    cases rest with
    | nil =>
      refine xs_seq <| xs_if <| xt_not <| xt_truth <| xe_var rfl ⟨nofun, _, rfl, if_nf ?_⟩
      refine xs_retX <| xrx_make (c := 0) (dds := [.tup []]) rfl e1 <| xa_cons <| xe_var rfl <| xa_nil ⟨.str n, .tup [], rfl, rfl, ok1_wrd hn, okS_of (by decide), fun c => ?_, fun c k => ?_, fun s ws e1 e2 c k lot hlot => ?_⟩
      · rw [wrd_nm n hn] at c
        exact xw_R qx (r1 (if_neg fun z => of_decide_eq_false c z.1) _)
      · have : badG (.str n) (.tup []) = false := by
          unfold badG
          rw [show hasD (.str n) (.tup []) = false from rfl]
          decide
        rw [this] at k
        cases k
      · cases e1
        have : ws = [] := by rcases e2 with e | e <;> simpa using e
        subst this
        rw [wrd_nm n hn] at c
        exact ⟨rfl, _, rfl, rfl, fin (n, []) (if_pos ⟨of_decide_eq_true c, .inl rfl⟩) lot hlot⟩
    | cons i us =>
      have ix0 : ixD (.lst ((i :: us).map .str)) 0 = some (.str i) := (L2.atI_nat (xs := (i :: us).map D.str) (j := 0) (v := .str i) rfl : atI ((i :: us).map D.str) ((0 : Nat) : Int) = _)
      refine xs_seq <| xs_if <| xt_not <| xt_truth <| xe_var rfl ⟨nofun, _, rfl, if_nt <| xs_next ?_⟩
      refine xs_seq <| xs_if <| xt_or <| xt_test <| xe_ne <| xe_ix <| xe_var rfl <| xe_int ⟨_, .str i, rfl, ix0, xe_str ⟨_, _, rfl, rfl, rfl, _, rfl, ite_b (fun c => ?_) (fun c => ?_)⟩⟩
      · have c : i ≠ "if" := fun e => by rw [e, decide_eq_true rfl] at c; cases c
        have no : ruleW (n :: i :: us) = none := if_neg fun z => by
          rcases z.2 with z | z
          · cases z
          · exact c (Option.some.inj z.1)
        exact if_tt (xs_raise (c := 0) T.oe_InvalidRule T.en_InvalidRule <| xe_str <| xw_R qx (r1 no _))
      · have c : i = "if" := by simpa using c
        subst c
        refine xt_test <| xe_eq <| xe_len <| xe_var rfl ⟨_, rfl, xe_int ⟨_, _, rfl, rfl, rfl, _, rfl, ite_b (fun c => ?_) (fun c => ?_)⟩⟩
        · have c : us = [] := by
            have := V.int.inj (of_decide_eq_true c)
            simp at this
            exact List.length_eq_zero_iff.mp (by omega)
          subst c
          have no : ruleW [n, "if"] = none := if_neg fun z => by
            rcases z.2 with z | z
            · cases z
            · exact absurd z.2.1 (by decide)
          exact xs_raise (c := 0) T.oe_InvalidRule T.en_InvalidRule <| xe_str <| xw_R qx (r1 no _)
        · have c : us ≠ [] := fun e => by subst e; exact absurd c (by decide)
          have hu : ∀ w ∈ us, w ∈ wrd := fun w hw => h0.mem w (by simp [hw])
          have l1 : us.length ≤ 12 := by simp at hl; omega
          have l0 : 0 < us.length := List.length_pos_iff.mpr c
          refine xs_next <| xs_retX <| xrx_make (c := 0) rfl (fun _ => .nil) <| xa_cons <| xe_var rfl <| xa_cons <| xe_ofO <| xo_sl <| xe_var (d := .lst ((("if" : Str) :: us).map .str)) rfl <| xp_part <| xe_int ⟨_, rfl, xp_no ⟨_, rfl, _, rfl, ?_⟩⟩
          rw [cut_from (by omega) (by simp; omega), show List.drop (Int.toNat 1) ((("if" : Str) :: us).map D.str) = us.map .str from by simp]
          have bad : badG (.str n) (.lst (us.map .str)) = !decide (∀ w ∈ us, w ∈ pool ∧ w ≠ n) := by
            unfold badG
            rw [areNm_wrd hu, hasD_strs (.inl rfl), Bool.eq_iff_iff]
            simp only [Bool.or_eq_true, Bool.not_eq_true', decide_eq_true_eq, decide_eq_false_iff_not]
            constructor
            · rintro (z | z) y
              · exact z fun w hw => (y w hw).1
              · exact (y n z).2 rfl
            · intro z
              by_cases y : n ∈ us
              · exact .inr y
              · exact .inl fun v => z fun w hw => ⟨v w hw, fun e => y (e ▸ hw)⟩
          refine xa_nil ⟨.str n, .lst (us.map .str), rfl, rfl, ok1_wrd hn, okS_wrd hu (by omega), fun c => ?_, fun c k => ?_, fun s ws e1 e2 c k lot hlot => ?_⟩
          · rw [wrd_nm n hn] at c
            exact xw_R qx (r1 (if_neg fun z => of_decide_eq_false c z.1) _)
          · rw [bad] at k
            refine xw_R qx (r1 (if_neg fun z => ?_) _)
            rcases z.2 with z | z
            · cases z
            · have k : ¬ ∀ w ∈ us, w ∈ pool ∧ w ≠ n := by simpa using k
              exact k z.2.2
          · cases e1
            have : us = ws := by
              rcases e2 with e | e
              · exact (List.map_inj_right fun _ _ z => D.str.inj z).mp (D.lst.inj e)
              · cases e
            subst this
            rw [wrd_nm n hn] at c
            have k : ∀ w ∈ us, w ∈ pool ∧ w ≠ n := by rw [bad] at k; simpa using k
            exact ⟨rfl, _, rfl, rfl, fin (n, us) (if_pos ⟨of_decide_eq_true c, .inr ⟨rfl, by simp; omega, k⟩⟩) lot hlot⟩
/-! ### texts of any lines, read -/
def textW (ls : List (List Str)) : Str := Txt.join "\n" (ls.map lineT)
theorem in_joinL {c : Nat} {y : List Nat} : ∀ {ps : List (List Nat)}, c ∈ TL.joinL y ps → c ∈ y ∨ ∃ p ∈ ps, c ∈ p
  | [], h => by simp [TL.joinL] at h
  | [p], h => .inr ⟨p, by simp, by simpa [TL.joinL] using h⟩
  | p :: q :: r, h => by
    simp only [TL.joinL, List.mem_append] at h
    rcases h with h | h | h
    · exact .inr ⟨p, by simp, h⟩
    · exact .inl h
    · exact (in_joinL (ps := q :: r) h).imp id fun ⟨z, hz, k⟩ => ⟨z, List.mem_cons_of_mem _ hz, k⟩
theorem lineT_10 {ws : List Str} (h : Ws ws) : 10 ∉ TL.tl (lineT ws) := fun c => by
  unfold lineT at c
  rw [TL.join_eq, TL.tl_join] at c
  rcases in_joinL c with c | ⟨p, hp, c⟩
  · exact absurd c (by decide +kernel)
  · obtain ⟨w, hw, rfl⟩ := List.mem_map.mp hp
    exact (wrd_blank w (h.mem w hw)).2.1 c
theorem textW_split {ls : List (List Str)} (h : ∀ ws ∈ ls, Ws ws) (ne : ls ≠ []) : Txt.split (textW ls) "\n" = ls.map lineT :=
  TL.split_join (y := "\n") (s := 10) (S := []) (by decide +kernel) (by decide +kernel) (fun e => ne (List.map_eq_nil_iff.mp e)) fun p hp => by
    obtain ⟨ws, hw, rfl⟩ := List.mem_map.mp hp
    exact lineT_10 (h ws hw)
theorem textW_len {ls : List (List Str)} (h : ∀ ws ∈ ls, Ws ws) : (textW ls).length ≤ 81 * ls.length := by
  have := join_len "\n" (ls.map lineT)
  have sz := sum_le (ws := ls.map lineT) (b := 80) fun x hx => by
    obtain ⟨ws, hw, rfl⟩ := List.mem_map.mp hx
    exact (h ws hw).short
  have l2 : ("\n" : Str).length = 1 := by decide
  unfold textW
  simp [l2] at this sz ⊢
  omega
theorem str_nil {s : Str} (h : s.length = 0) : s = "" := by
  obtain ⟨c⟩ := s
  have : c = #[] := Array.size_eq_zero_iff.mp h
  subst this
  rfl
theorem ruleW_mem {ws : List Str} {r : Rl} (h : ruleW ws = some r) : r.2.length ≤ ws.length ∧ r.1 ∈ pool ∧ ∀ w ∈ r.2, w ∈ pool ∧ w ≠ r.1 := by
  match ws, h with
  | n :: rest, h =>
    by_cases k : n ∈ pool ∧ (rest = [] ∨ (rest.head? = some "if" ∧ 2 ≤ rest.length ∧ ∀ w ∈ rest.tail, w ∈ pool ∧ w ≠ n))
    · rw [show ruleW (n :: rest) = some (n, rest.tail) from if_pos k] at h
      cases h
      refine ⟨by simp; omega, k.1, ?_⟩
      rcases k.2 with e | e
      · subst e; simp
      · exact e.2.2
    · rw [show ruleW (n :: rest) = none from if_neg k] at h
      cases h
def badW (ws : List Str) : Bool := (ruleW ws).isNone
/-- what follows of reading: a number that is refused, or a room -/
def F_readX (C : Addr) : FRX := fun ds Φ Ξ => (∃ d n, ds = [.ref C, d] ∧ tyD d = some n ∧ kitB n "str" = some false ∧ Ξ 2 (.int 0)) ∨ ∃ ls : List (List Str), ds = [.ref C, .str (textW ls)] ∧ (ls = [] ∨ textW ls ≠ "") ∧ ls.length ≤ 60 ∧ (∀ ws ∈ ls, Ws ws) ∧ (∀ i : Nat, ls.findIdx? badW = some i → Ξ 2 (.int i)) ∧
  ∀ rs : List Rl, ls.map ruleW = rs.map some → (∀ r ∈ rs, GS.IsLot (lotC r.2) r.2) → ∀ ns, GS.IsLot ns (wantAll (rs.map lotR)) → Φ (.d (roomD (rs.map lotR) ns))
theorem ok_readX (T : Txt K mg a) (X_read_rule : FnOk P w K mg base (L2N.CX P w) 5 a.f_read_rule a.fd_read_rule ["line"] (spRX (ZZ K a) F_read_ruleX)) (G_Room_init : FnOk P w K mg base CX0 2 a.f_Room_init a.fd_Room_init ["self", "rules"] (spB (ZZ K a) F_Room_init)) : FnOk P w K mg base (L2.CX P w) 6 a.f_Room_read a.fd_Room_read ["cls", "text"] (spRX (ZZ K a) (F_readX a.C_Room)) := by
  refine T.F_Room_read.okX sc_Room_read (fun vs H Q E h => ?_) (fun cdv A outer s H vs Q E hr h => ?_)
  · obtain ⟨M, ds, Φ, Ξ, _, al, h, _⟩ := h
    rcases h with ⟨d, n, rfl, _⟩ | ⟨ls, rfl, _⟩ <;> exact al.len
  · obtain ⟨M, ds, Φ, Ξ, ex, al, h, q, qx⟩ := h
    rcases h with ⟨d, n, rfl, hd, hn, r0⟩ | ⟨ls, rfl, hne, hl, hw, r1, fin⟩
    · refine ⟨_, (pss_cons (ps_if (pt_not (pt_val (pe_callB call_isi (by rfl) T.n_isinstance (by decide +kernel) (pa_cons (pv 1) (pa_cons (pe_bltn (v := .ty "str") (u := .type "str") (by rfl) T.n_str (by decide +kernel) rfl) pa_nil))))) (pss_one (GX.ps_raiseO rfl (takes_of rfl rfl rfl rfl) T.oe_InvalidText T.ei_InvalidText T.et_InvalidText (ok_InvalidText_init T) (hr.mono (by decide)) T.b_InvalidText_init (by rfl) T.m_InvalidText (pa_cons pe_int pa_nil))) pss_nil)
      (pss_cons (ps_set (i := 2) sc_Room_read.nd rfl (Or.inl rfl) (pe_ifExp (pt_truth (pv 1) (by intro _; rfl)) (pe_split (pv 1) pe_str) (pe_lst pa_nil)))
      (pss_cons (ps_set (i := 3) sc_Room_read.nd rfl (Or.inl rfl) (pe_lst pa_nil))
      (pss_cons (ps_for (passes_of rfl) rfl (pi_enum (by rfl) T.n_enumerate (pa_cons (pv 2) pa_nil)) (pg_tup rfl (pgs_cons (pg_name (i := 4) sc_Room_read.nd rfl (Or.inl rfl)) (pgs_cons (pg_name (i := 5) sc_Room_read.nd rfl (Or.inl rfl)) pgs_nil)))
      (pss_one (GX.ps_tryF rfl rfl ⟨rfl, by decide, Or.inl T.m_InvalidRule⟩ (fun hd => L2H.passesAt_of rfl hd) (takes_of rfl rfl rfl rfl) (fun W1 pn1 xe1 tk1 po1 => ⟨_, (pss_one (ps_expr (GX.pe_bmK (K := K) rfl PySem.F.plainAttrs_list PySem.F.slot_list_append PySem.F.type_list_append mt_append (pv 3) (pa_cons (pe_callSD X_read_rule (hr.mono (by decide)) (by rfl) T.m_read_rule T.F_read_rule.kp T.b_read_rule .nil (fun σ => L2N.passAt tk1 σ) (pa_cons (pv 5) pa_nil)) pa_nil)))), rfl⟩)
      (fun ax1 oe1 cx1 dx1 pm1 tk1 ho1 => (pss_one (GX.ps_raiseFN ho1 tk1 T.oe_InvalidText T.ei_InvalidText T.et_InvalidText (okH_InvalidText_init T) (L2H.roomH_mark (hr.mono (by decide)) _) T.b_InvalidText_init (by rfl) T.m_InvalidText (pa_cons (pv 4) pa_nil)))))))
      (pss_one (ps_ret (GX.pe_makeV (pv 0) T.mk_Room G_Room_init (hr.mono (by decide)) T.b_Room_init .nil pass0 (pa_cons (pv 3) pa_nil)))))))), entRX (n := 4) ex al rfl q ?_⟩
      walk_at "ent"
      exact xs_seq <| xs_if <| xt_not <| xt_test <| xe_isi <| xe_var rfl ⟨_, _, hd, hn, _, rfl, if_nf <| xs_raise (c := 2) T.oe_InvalidText T.en_InvalidText <| xe_int <| xw_R qx r0⟩
    · refine ⟨_, (pss_cons (ps_if (pt_not (pt_val (pe_callB call_isi (by rfl) T.n_isinstance (by decide +kernel) (pa_cons (pv 1) (pa_cons (pe_bltn (v := .ty "str") (u := .type "str") (by rfl) T.n_str (by decide +kernel) rfl) pa_nil))))) (pss_one (GX.ps_raiseO rfl (takes_of rfl rfl rfl rfl) T.oe_InvalidText T.ei_InvalidText T.et_InvalidText (ok_InvalidText_init T) (hr.mono (by decide)) T.b_InvalidText_init (by rfl) T.m_InvalidText (pa_cons pe_int pa_nil))) pss_nil)
      (pss_cons (ps_set (i := 2) sc_Room_read.nd rfl (Or.inl rfl) (pe_ifExp (pt_truth (pv 1) (by intro _; rfl)) (pe_split (pv 1) pe_str) (pe_lst pa_nil)))
      (pss_cons (ps_set (i := 3) sc_Room_read.nd rfl (Or.inl rfl) (pe_lst pa_nil))
      (pss_cons (ps_for (passes_of rfl) rfl (pi_enum (by rfl) T.n_enumerate (pa_cons (pv 2) pa_nil)) (pg_tup rfl (pgs_cons (pg_name (i := 4) sc_Room_read.nd rfl (Or.inl rfl)) (pgs_cons (pg_name (i := 5) sc_Room_read.nd rfl (Or.inl rfl)) pgs_nil)))
      (pss_one (GX.ps_tryF rfl rfl ⟨rfl, by decide, Or.inl T.m_InvalidRule⟩ (fun hd => L2H.passesAt_of rfl hd) (takes_of rfl rfl rfl rfl) (fun W1 pn1 xe1 tk1 po1 => ⟨_, (pss_one (ps_expr (GX.pe_bmK (K := K) rfl PySem.F.plainAttrs_list PySem.F.slot_list_append PySem.F.type_list_append mt_append (pv 3) (pa_cons (pe_callSD X_read_rule (hr.mono (by decide)) (by rfl) T.m_read_rule T.F_read_rule.kp T.b_read_rule .nil (fun σ => L2N.passAt tk1 σ) (pa_cons (pv 5) pa_nil)) pa_nil)))), rfl⟩)
      (fun ax1 oe1 cx1 dx1 pm1 tk1 ho1 => (pss_one (GX.ps_raiseFN ho1 tk1 T.oe_InvalidText T.ei_InvalidText T.et_InvalidText (okH_InvalidText_init T) (L2H.roomH_mark (hr.mono (by decide)) _) T.b_InvalidText_init (by rfl) T.m_InvalidText (pa_cons (pv 4) pa_nil)))))))
      (pss_one (ps_ret (GX.pe_makeV (pv 0) T.mk_Room G_Room_init (hr.mono (by decide)) T.b_Room_init .nil pass0 (pa_cons (pv 3) pa_nil)))))))), entRX (n := 4) ex al rfl q ?_⟩
      walk_at "ent"
      have tl := textW_len hw
      have hsz : (textW ls).length ≤ sizeLine := by rw [sizeLine_eq]; omega
      refine xs_seq <| xs_if <| xt_not <| xt_test <| xe_isi <| xe_var rfl ⟨_, _, rfl, rfl, _, rfl, if_nt <| xs_next ?_⟩
      refine xs_seq <| xs_set (by decide) <| joinE (α := List Str) (fun ts => ts = ls.map lineT) (fun ts => .lst (ts.map .str)) (fun _ => [.d (.ref a.C_Room), .d (.str (textW ls)), .no, .no, .no, .no]) (fun go => ?_) ?_
      · by_cases ne : ls = []
        · subst ne
          refine xr_if <| xt_truth <| xe_var rfl ⟨fun s e => by cases e; exact hsz, _, rfl, ?_⟩
          rw [show textW [] = "" from rfl]
          refine if_ff <| xe_ofO <| xo_lst <| xa_nil ⟨by simp, _, rfl, ?_⟩
          exact go [] rfl
        · have n0 : (textW ls).length ≠ 0 := fun e => (hne.resolve_left ne) (str_nil e)
          refine xr_if <| xt_truth <| xe_var rfl ⟨fun s e => by cases e; exact hsz, _, rfl, ?_⟩
          rw [show (decide ((textW ls).length ≤ sizeLine) && ((textW ls).length : Int) != 0) = true from by rw [decide_eq_true hsz]; simpa using n0]
          refine if_tt <| xe_ofO <| xo_split <| xe_var rfl ⟨_, rfl, xe_str ⟨_, rfl, by decide, by rw [sizeLine_eq]; omega, _, rfl, ?_⟩⟩
          rw [textW_split hw ne]
          exact go _ rfl
      · rintro ts rfl
        refine xs_seq <| xs_setO (by decide) <| xo_lst <| xa_nil ⟨by simp, by simp, ?_⟩
        try dsimp only [List.set]
        refine xs_seq <| xs_for (vs := [4, 5]) (xi_enum <| xe_var rfl ?_)
        refine ⟨_, rfl, fun m δ => ∃ (s4 s5 : S) (rs : List Rl), δ = [.d (.ref a.C_Room), .d (.str (textW ls)), .d (.lst ((ls.map lineT).map .str)), .own (.lst ((rs.map lotR).map ruleO)), s4, s5] ∧ (ls.take m).map ruleW = rs.map some ∧ ∀ r ∈ rs, GS.IsLot (lotC r.2) r.2, ⟨_, _, [], rfl, rfl, by simp⟩, ?_, ?_⟩
        · rintro m x δ1 hm ⟨s4, s5, rs, rfl, h1, h2⟩
          obtain ⟨x, hx, rfl⟩ := enumD_at hm
          obtain ⟨ws, hr, rfl⟩ : ∃ ws, ls[m]? = some ws ∧ D.str (lineT ws) = x := by simpa using hx
          have lt := (List.getElem?_eq_some_iff.mp hr).1
          have lr : rs.length ≤ m := by have := congrArg List.length h1; simp at this; omega
          refine xg_tup (by rfl) (xgs_cons (xg_name (by decide) (by decide) (xgs_cons (xg_name (by decide) (by decide) (xgs_nil ?_)))))
          try dsimp only [List.set]
          refine xs_tryO fun DD => ?_
          refine xs_dropX <| xrx_app ⟨_, rfl⟩ <| xrx_call (fun _ => .nil) <| xa_cons <| xe_var rfl <| xa_nil ⟨ws, rfl, hw ws (List.mem_of_getElem? hr), fun no x => ?_, fun r hrw lot hlot => ⟨_, rfl, by simp; omega, ?_⟩⟩
          · refine xw_only (c := 0) T.em_InvalidRule fun ax dd => ?_
            refine xs_raise (c := 2) T.oe_InvalidText T.en_InvalidText <| xe_var rfl <| xw_R qx (r1 m ?_)
            rw [List.findIdx?_eq_some_iff_getElem]
            refine ⟨lt, ?_, fun j hj => ?_⟩
            · rw [(List.getElem?_eq_some_iff.mp hr).2]; unfold badW; rw [no]; rfl
            · have e := congrArg (·[j]?) h1
              simp only [List.getElem?_map, List.getElem?_take_of_lt hj, List.getElem?_eq_getElem (Nat.lt_trans hj lt), Option.map_some] at e
              have hjr : j < rs.length := by have := congrArg List.length h1; simp at this; omega
              rw [List.getElem?_eq_getElem hjr] at e
              have e : ruleW ls[j] = some rs[j] := by simpa using e
              unfold badW
              rw [e]; simp
          · refine ⟨.d (.int m), .d (.str (lineT ws)), rs ++ [r], ?_, ?_, fun z hz => ?_⟩
            · simp [ruleO, lotR, lotC_is hlot]
            · rw [GS.take_get hr]; simp [h1, hrw]
            · rcases List.mem_append.mp hz with hz | hz
              · exact h2 z hz
              · rw [List.mem_singleton.mp hz, lotC_is hlot]; exact hlot
        · rintro δ1 ⟨s4, s5, rs, rfl, h1, h2⟩
          rw [enumD_len, List.length_map, List.length_map, List.take_length] at h1
          have lr : rs.length = ls.length := by have := congrArg List.length h1; simp at this; omega
          refine xs_freeze (i := 3) (by decide) rfl ?_
          try dsimp only [List.set]
          refine xs_ret <| xe_makeV rfl <| xe_make (c := 1) rfl (fun _ => .nil) <| xa_cons <| xe_var rfl <| xa_nil ⟨rs.map lotR, rfl, .inl rfl, by simp; omega, fun q hq => ?_, fun ns hns => ⟨rfl, _, rfl, rfl, fin rs h1 h2 ns hns⟩⟩
          obtain ⟨r, hr, rfl⟩ := List.mem_map.mp hq
          have k := nodup_len (GS.Asc.nodup (h2 r hr).asc) fun x hx => ((h2 r hr).mem x).mp hx
          obtain ⟨i, hi⟩ := List.mem_iff_getElem?.mp hr
          have hli : i < ls.length := by have := (List.getElem?_eq_some_iff.mp hi).1; omega
          have e := congrArg (·[i]?) h1
          simp only [List.getElem?_map, hi, List.getElem?_eq_getElem hli, Option.map_some] at e
          have e : ruleW ls[i] = some r := by simpa using e
          have := (ruleW_mem e).1
          have := (hw _ (List.getElem_mem hli)).len
          show (lotC r.2).length ≤ 14
          omega
/-! ### the law's reading -/
def F_told : FR := fun ds Φ => (∃ d n, ds = [d] ∧ tyD d = some n ∧ kitB n "str" = some false ∧ Φ (.d (.int 0))) ∨ ∃ ls : List (List Str), ds = [.str (textW ls)] ∧ (ls = [] ∨ textW ls ≠ "") ∧ ls.length ≤ 60 ∧ (∀ ws ∈ ls, Ws ws) ∧ (∀ i : Nat, ls.findIdx? badW = some i → Φ (.d (.int i))) ∧
  ∀ rs : List Rl, ls.map ruleW = rs.map some → (∀ r ∈ rs, GS.IsLot (lotC r.2) r.2) → ∀ ns, GS.IsLot ns (wantAll (rs.map lotR)) → Φ (.d (roomD (rs.map lotR) ns))
theorem ok_told (T : Txt K mg a) (X_Room_read : FnOk P w K mg base (L2.CX P w) 6 a.f_Room_read a.fd_Room_read ["cls", "text"] (spRX (ZZ K a) (F_readX a.C_Room))) : FnOk P w K mg base CX0 7 a.f_lw_told a.fd_lw_told ["_law_text_here"] (spR (ZZ K a) F_told) := by
  refine T.F_lw_told.ok sc_lw_told (fun vs H Q E h => ?_) (fun cdv A outer s H vs Q E hr h => ?_)
  · obtain ⟨M, ds, Φ, _, al, h, _⟩ := h
    rcases h with ⟨d, n, rfl, _⟩ | ⟨ls, rfl, _⟩ <;> exact al.len
  · obtain ⟨M, ds, Φ, ex, al, h, q⟩ := h
    rcases h with ⟨d, n, rfl, hd, hn, r0⟩ | ⟨ls, rfl, hne, hl, hw, r1, fin⟩
    · refine ⟨_, (pss_cons (ps_set (i := 1) sc_lw_told.nd rfl (Or.inl rfl) pe_non)
      (pss_cons (GX.ps_tryT (i := 2) rfl rfl sc_lw_told.nd rfl rfl ⟨rfl, by decide, Or.inl T.m_InvalidText⟩ takes0 (fun W1 pn1 xe1 tk1 po1 => (pss_one (ps_set (i := 1) sc_lw_told.nd rfl (Or.inl rfl) (GX.pe_cmethSD (pe_glob (v := .ref a.C_Room) rfl T.m_Room rfl) T.cr_Room T.cm_Room_read (FnOk.raw X_Room_read T.b_Room_read .nil) (hr.mono (by decide)) (fun σ => passAt tk1 σ) (pa_cons (pv 0) pa_nil)))))
      (fun ax1 oe1 cx1 dx1 pm1 hz1 hf1 => (pss_one (ps_set (i := 1) sc_lw_told.nd rfl (Or.inl rfl) (pe_xf T.xf_InvalidText T.en_InvalidText hz1 hf1 (pv 2))))))
      (pss_one (ps_ret (pv 1))))), entR (n := 2) ex al rfl q ?_⟩
      walk_at "ent"
      refine xs_seq <| xs_set (by decide) <| xe_non ?_
      try dsimp only [List.set]
      refine xs_seq <| xs_tryT fun D => ?_
      refine xs_setX (by decide) <| xrx_cmeth <| xa_cons <| xe_var rfl <| xa_nil <| .inl ⟨d, n, rfl, hd, hn, ?_⟩
      exact xw_as (c := 2) T.em_InvalidText (by decide) fun ax dd => xs_set (by decide) <| xe_xf <| xe_var rfl ⟨_, rfl, xs_ret <| xe_var rfl r0⟩
    · refine ⟨_, (pss_cons (ps_set (i := 1) sc_lw_told.nd rfl (Or.inl rfl) pe_non)
      (pss_cons (GX.ps_tryT (i := 2) rfl rfl sc_lw_told.nd rfl rfl ⟨rfl, by decide, Or.inl T.m_InvalidText⟩ takes0 (fun W1 pn1 xe1 tk1 po1 => (pss_one (ps_set (i := 1) sc_lw_told.nd rfl (Or.inl rfl) (GX.pe_cmethSD (pe_glob (v := .ref a.C_Room) rfl T.m_Room rfl) T.cr_Room T.cm_Room_read (FnOk.raw X_Room_read T.b_Room_read .nil) (hr.mono (by decide)) (fun σ => passAt tk1 σ) (pa_cons (pv 0) pa_nil)))))
      (fun ax1 oe1 cx1 dx1 pm1 hz1 hf1 => (pss_one (ps_set (i := 1) sc_lw_told.nd rfl (Or.inl rfl) (pe_xf T.xf_InvalidText T.en_InvalidText hz1 hf1 (pv 2))))))
      (pss_one (ps_ret (pv 1))))), entR (n := 2) ex al rfl q ?_⟩
      walk_at "ent"
      refine xs_seq <| xs_set (by decide) <| xe_non ?_
      try dsimp only [List.set]
      refine xs_seq <| xs_tryT fun D => ?_
      refine xs_setX (by decide) <| xrx_cmeth <| xa_cons <| xe_var rfl <| xa_nil <| .inr ⟨ls, rfl, hne, hl, hw, fun i hi => ?_, fun rs e1 e2 ns hns => ?_⟩
      · exact xw_as (c := 2) T.em_InvalidText (by decide) fun ax dd => xs_set (by decide) <| xe_xf <| xe_var rfl ⟨_, rfl, xs_ret <| xe_var rfl (r1 i hi)⟩
      · exact xs_ret <| xe_var rfl (fin rs e1 e2 ns hns)
/-! ### the law's names -/
theorem strOk_iff {s : Str} : PyData.strOk s = true ↔ ∀ c ∈ s.cps.toList, c < 0x110000 := by
  show s.cps.all (· < 0x110000) = true ↔ _
  rw [← Array.all_toList, List.all_eq_true]
  simp
def F_lis_name : FR := fun ds Φ => ∃ n : Str, ds = [.str n] ∧ n.length ≤ sizeLine ∧ PyData.strOk n = true ∧ Φ (.d (.bl (isNm (.str n))))
theorem ok_lis_name (T : Txt K mg a) : FnOk P w K mg base CX0 1 a.f_lw_is_name a.fd_lw_is_name ["_law_word"] (spR (ZZ K a) F_lis_name) := by
  refine T.F_lw_is_name.ok sc_lw_is_name (fun vs H Q E h => ?_) (fun cdv A outer s H vs Q E hr h => ?_)
  · obtain ⟨M, ds, Φ, _, al, ⟨n, rfl, _⟩, _⟩ := h
    exact al.len
  · obtain ⟨M, ds, Φ, ex, al, ⟨n, rfl, p1, hk, fin⟩, q⟩ := h
    refine ⟨_, (pss_cons (ps_if (PW.pt (pw_or (pt_not (pt_chain op_lt op_lt pe_int (pe_callB (show CallR _ (.builtin "len") (G.rLen K) from call_len) (by rfl) T.n_len PySem.boot_len (pa_cons (pv 0) pa_nil)) pe_int)) (pw_or1 (pt_cmpR op_eq (pv 0) pe_str (nomark _))))) (pss_one (ps_ret pe_bl)) pss_nil)
      (pss_one (ps_ret (pe_cmpR (op_eqD hr.units) (pe_lc (own := [("_law_letter", 1)]) (g := (gName 1))  rfl sc_lw_is_name.nd (pi_str (pv 0)) (blkOk_by (N := N_lw_is_name) (sc := defScope s_lw_is_name) (by decide +kernel)) (fun _ _ _ _ _ => (pg_name (i := 1) sc_lw_is_name.nd rfl (Or.inl rfl))) (fun _ _ _ _ _ => pts_one (pt_cmpR op_notIn_sign (pv 1) pe_str rfl)) (fun _ _ _ _ _ => (pv 1))) (pe_lst pa_nil) (nomark _))))), entR (n := 1) ex al rfl q ?_⟩
    walk_at "ent"
    have nm : isNm (.str n) = (!decide (n = "if") && (decide ((1 : Int) ≤ n.length) && decide ((n.length : Int) ≤ 3)) && n.cps.toList.all fun c => decide (c ∈ letters.cps.toList)) := rfl
    refine xs_seq <| xs_if <| xt_or <| xt_not <| xt_test <| xe_chain <| xe_int <| xe_len <| xe_var rfl ⟨_, if_pos p1, _, _, rfl, rfl, ite_b (fun h1 => ?_) (fun h1 => ?_)⟩
    · refine xe_int ⟨_, rfl, _, rfl, ite_b (fun h2 => ?_) (fun h2 => ?_)⟩
      · refine if_tt <| xs_ret <| xe_bl ?_
        have e : isNm (.str n) = false := by
          rw [nm]
          have : ¬ ((n.length : Int) ≤ 3) := by
            have := of_decide_eq_false (by simpa using h2 : decide ((n.length : Int) < 4) = false)
            omega
          simp [this]
        rw [← e]; exact fin
      · have h1 := of_decide_eq_true h1
        have h2 : (n.length : Int) < 4 := by simpa using h2
        refine xt_test <| xe_eq <| xe_var rfl <| xe_str ⟨_, _, rfl, rfl, rfl, _, rfl, ite_b (fun h3 => ?_) (fun h3 => ?_)⟩
        · refine xs_ret <| xe_bl ?_
          have e : isNm (.str n) = false := by
            rw [nm]
            have := V.str.inj (of_decide_eq_true h3)
            subst this
            rfl
          rw [← e]; exact fin
        · have h3 : n ≠ "if" := fun e => of_decide_eq_false h3 (by rw [e])
          have ln : n.cps.toList.length ≤ 4 := by
            have : n.cps.toList.length = n.length := by simp [Str.length]
            omega
          refine xs_next <| xs_ret <| xe_eqD <| xe_ofO <| xo_fg (g := fun c => D.str ⟨#[c]⟩) (f := fun c => D.str ⟨#[c]⟩) (p := fun c => !decide (c ∈ letters.cps.toList)) <| xi_str <| xe_var rfl ⟨n, rfl, n.cps.toList, rfl, rfl, by omega, fun c hc => ?_, _, rfl, ?_⟩
          · exact xt_test <| xe_ninS <| xe_var rfl <| xe_str ⟨c, letters, rfl, rfl, _, rfl, rfl, rfl, fun _ => xe_var rfl ⟨rfl, rfl⟩⟩
          · refine xe_ofO <| xo_lst <| xa_nil ⟨by simp, _, rfl, ?_, rfl, ?_, shp_lst (ns := []) (by simp), ?_⟩
            · rw [show (n.cps.toList.filter fun c => !decide (c ∈ letters.cps.toList)).map (fun c => D.str ⟨#[c]⟩) = ((n.cps.toList.filter fun c => !decide (c ∈ letters.cps.toList)).map fun c => (⟨#[c]⟩ : Str)).map .str by simp]
              exact pla_strs _
            · refine (lay_lst (n := 0) fun x hx => ?_).shaped (by decide)
              obtain ⟨c, hc, rfl⟩ := List.mem_map.mp hx
              refine lay_str (strOk_iff.mpr fun e he => ?_)
              have he : e = c := by simpa using he
              exact he ▸ strOk_iff.mp (hk) c (List.mem_filter.mp hc).1
            · rw [eqv_nil]
              have e : isNm (.str n) = ((n.cps.toList.filter fun c => !decide (c ∈ letters.cps.toList)).map (fun c => D.str ⟨#[c]⟩)).isEmpty := by
                rw [nm, Bool.eq_iff_iff]
                simp only [h3, decide_false, Bool.not_false, Bool.true_and, Bool.and_eq_true, decide_eq_true_eq, List.isEmpty_iff, List.map_eq_nil_iff, List.filter_eq_nil_iff, Bool.not_eq_true', decide_eq_false_iff_not, Classical.not_not, List.all_eq_true]
                exact ⟨fun h => h.2, fun h => ⟨⟨by omega, by omega⟩, h⟩⟩
              rw [← e]; exact fin
    · refine ⟨_, rfl, if_nf <| if_tt <| xs_ret <| xe_bl ?_⟩
      have e : isNm (.str n) = false := by
        rw [nm]
        have : ¬ ((1 : Int) ≤ n.length) := by
          have := of_decide_eq_false h1
          omega
        simp [this]
      rw [← e]; exact fin
/-! ### the rule that a line tells, by the law -/
def ruleV : Option Rl → D | some r => ruleD r | none => .non
def F_rule_of : FR := fun ds Φ => ∃ ws, ds = [.str (lineT ws)] ∧ Ws ws ∧ Φ (.d (ruleV (ruleW ws)))
theorem ok_rule_of (T : Txt K mg a) (G_lw_is_name : FnOk P w K mg base CX0 1 a.f_lw_is_name a.fd_lw_is_name ["_law_word"] (spR (ZZ K a) F_lis_name)) : FnOk P w K mg base CX0 2 a.f_lw_rule_of a.fd_lw_rule_of ["_law_line"] (spR (ZZ K a) F_rule_of) := by
  refine T.F_lw_rule_of.ok sc_lw_rule_of (fun vs H Q E h => ?_) (fun cdv A outer s H vs Q E hr h => ?_)
  · obtain ⟨M, ds, Φ, _, al, ⟨ws, rfl, _⟩, _⟩ := h
    exact al.len
  · obtain ⟨M, ds, Φ, ex, al, ⟨ws, rfl, h0, fin⟩, q⟩ := h
    refine ⟨_, (pss_cons (ps_set (i := 1) sc_lw_rule_of.nd rfl (Or.inr rfl) (pe_split (pv 0) pe_str))
      (pss_cons (ps_set (i := 2) sc_lw_rule_of.nd rfl (Or.inl rfl) (pe_slice (show SlR _ (rSlL K) from sl_list) (pv 1) (po_some pe_int) po_none))
      (pss_cons (ps_setLc (own := [("_law_word", 4)]) (g := (gName 4))  (i := 3) rfl sc_lw_rule_of.nd rfl rfl (sw_true rfl rfl rfl (by decide +kernel)) (pi_list (pv 2)) (blkOk_by (N := N_lw_rule_of) (sc := defScope s_lw_rule_of) (by decide +kernel)) (fun _ _ _ _ _ => (pg_name (i := 4) sc_lw_rule_of.nd rfl (Or.inl rfl))) (fun _ _ _ _ _ => pts_one (PW.pt (pw_or (pt_not (pt_val (pe_call G_lw_is_name (hr.mono (by decide)) (by rfl) T.m_lw_is_name T.F_lw_is_name.kp T.b_lw_is_name .nil pass0 (pa_cons (pv 4) pa_nil)))) (pw_or1 (pt_cmpR op_eq (pv 4) (pe_ix (show IxR _ (rIx K) from ix_seq) (pv 1) pe_int (fun _ _ => rfl)) (nomark _)))))) (fun _ _ _ _ _ => (pv 4)))
      (pss_cons (ps_if (PW.pt (pw_or (pt_not (pt_val (pe_call G_lw_is_name (hr.mono (by decide)) (by rfl) T.m_lw_is_name T.F_lw_is_name.kp T.b_lw_is_name .nil pass0 (pa_cons (pe_ix (show IxR _ (rIx K) from ix_seq) (pv 1) pe_int (fun _ _ => rfl)) pa_nil)))) (pw_or1 (pt_cmpR (op_neD hr.units) (pv 3) (pe_lst pa_nil) (nomark _))))) (pss_one (ps_ret pe_non)) pss_nil)
      (pss_cons (ps_if (PW.pt (pw_and (pt_cmpR op_gt (pe_callB (show CallR _ (.builtin "len") (G.rLen K) from call_len) (by rfl) T.n_len PySem.boot_len (pa_cons (pv 1) pa_nil)) pe_int (nomark _)) (pw_and1 (PW.pt (pw_or (pt_cmpR op_ne (pe_ix (show IxR _ (rIx K) from ix_seq) (pv 1) pe_int (fun _ _ => rfl)) pe_str (nomark _)) (pw_or1 (pt_cmpR (op_eqD hr.units) (pv 2) (pe_lst pa_nil) (nomark _)))))))) (pss_one (ps_ret pe_non)) pss_nil)
      (pss_one (ps_ret (pe_tup (pa_cons (pe_ix (show IxR _ (rIx K) from ix_seq) (pv 1) pe_int (fun _ _ => rfl)) (pa_cons (pe_callTy call_tuple_of (by rfl) T.n_tuple (by decide +kernel) (pa_cons (pv 2) pa_nil)) pa_nil)))))))))), entR (n := 4) ex al rfl q ?_⟩
    walk_at "ent"
    have ln := h0.short
    refine xs_seq <| xs_set (by decide) <| xe_ofO <| xo_split <| xe_var rfl ⟨_, rfl, xe_str ⟨_, rfl, by decide, by rw [sizeLine_eq]; omega, _, rfl, ?_⟩⟩
    rw [h0.split]
    obtain ⟨n, rest, rfl⟩ := List.exists_cons_of_ne_nil h0.ne
    have hn := h0.mem n (by simp)
    have hl := h0.len
    have ix0 : ixD (.lst ((n :: rest).map .str)) 0 = some (.str n) := (L2.atI_nat (xs := (n :: rest).map D.str) (j := 0) (v := .str n) rfl : atI ((n :: rest).map D.str) ((0 : Nat) : Int) = _)
    try dsimp only [List.set]
    refine xs_seq <| xs_set (by decide) <| xe_ofO <| xo_sl <| xe_var (d := .lst ((n :: rest).map .str)) rfl <| xp_part <| xe_int ⟨_, rfl, xp_no ⟨_, rfl, _, rfl, ?_⟩⟩
    have e2 : cut ((n :: rest).map D.str) (some 2) none = rest.tail.map .str := by
      cases rest with
      | nil => rfl
      | cons i us => rw [cut_from (by omega) (by simp; omega)]; simp
    rw [e2]
    have hu : ∀ w ∈ rest.tail, w ∈ wrd := fun w hw => h0.mem w (List.mem_cons_of_mem _ (List.mem_of_mem_tail hw))
    have lu : rest.tail.length ≤ 14 := by simp at hl ⊢; omega
    have okw : ∀ w ∈ wrd, w.length ≤ sizeLine ∧ PyData.strOk w = true := fun w hw => ⟨by have := (wrd_blank w hw).2.2.1; rw [sizeLine_eq]; omega, (wrd_blank w hw).2.2.2⟩
    try dsimp only [List.set]
    refine xs_seq <| xs_set (by decide) <| xe_ofO <| xo_fg (v := 4) (g := D.str) (f := D.str) (p := fun w => !isNm (.str w) || decide (w = n)) <| xi_list <| xe_var rfl ⟨_, .inl rfl, rest.tail, rfl, rfl, by omega, fun w hw => ?_, _, rfl, ?_⟩
    · try dsimp only [List.set]
      refine xt_or <| xt_not <| xt_test <| xr_call (fun _ => .nil) <| xa_cons <| xe_var rfl <| xa_nil ⟨w, rfl, (okw w (hu w hw)).1, (okw w (hu w hw)).2, on_d ⟨_, rfl, ite_b (fun c => ?_) (fun c => ?_)⟩⟩
      · have c : isNm (.str w) = false := by simpa using c
        exact ⟨by rw [c]; rfl, rfl, fun _ => xe_var rfl ⟨rfl, rfl⟩⟩
      · have c : isNm (.str w) = true := by simpa using c
        refine xt_test <| xe_eq <| xe_var rfl <| xe_ix <| xe_var rfl <| xe_int ⟨_, .str n, rfl, ix0, _, _, rfl, rfl, rfl, _, rfl, ?_, rfl, fun _ => xe_var rfl ⟨rfl, rfl⟩⟩
        rw [c]
        simp
    · try dsimp only [List.set]
      have okn := okw n hn
      have nme : ((rest.tail.filter fun w => !isNm (.str w) || decide (w = n)).isEmpty = true) ↔ ∀ w ∈ rest.tail, w ∈ pool ∧ w ≠ n := by
        rw [List.isEmpty_iff, List.filter_eq_nil_iff]
        refine forall_congr' fun w => forall_congr' fun hw => ?_
        rw [wrd_nm w (hu w hw)]
        simp
      have no : ruleW (n :: rest) = none → Φ (.d .non) := fun e => by rw [e] at fin; exact fin
      refine xs_seq <| xs_if <| xt_or <| xt_not <| xt_test <| xr_call (fun _ => .nil) <| xa_cons <| xe_ix <| xe_var rfl <| xe_int ⟨_, .str n, rfl, ix0, xa_nil ⟨n, rfl, okn.1, okn.2, on_d ⟨_, rfl, ite_b (fun c => ?_) (fun c => ?_)⟩⟩⟩
      · have c : isNm (.str n) = false := by simpa using c
        rw [wrd_nm n hn] at c
        exact if_tt <| xs_ret <| xe_non <| no (if_neg fun z => of_decide_eq_false c z.1)
      have c : isNm (.str n) = true := by simpa using c
      rw [wrd_nm n hn] at c
      have c : n ∈ pool := of_decide_eq_true c
      refine xt_test <| xe_neD <| xe_var rfl <| xe_ofO <| xo_lst <| xa_nil ⟨by simp, _, rfl, pla_strs _, rfl, ?_, shp_lst (ns := []) (by simp), _, rfl, ?_⟩
      · refine shp_lst fun w hw => (okw w (hu w (List.mem_filter.mp hw).1)).2
      rw [eqv_nil]
      refine ite_b (fun k => ?_) (fun k => ?_)
      · have k : ¬ ∀ w ∈ rest.tail, w ∈ pool ∧ w ≠ n := fun z => by
          have := nme.mpr z
          simp [this] at k
        refine xs_ret <| xe_non <| no (if_neg fun z => ?_)
        rcases z.2 with z | z
        · subst z; exact k (by simp)
        · exact k z.2.2
      have k : ∀ w ∈ rest.tail, w ∈ pool ∧ w ≠ n := nme.mp (by simpa using k)
      refine xs_next ?_
      cases rest with
      | nil =>
        have e : ruleW [n] = some (n, []) := if_pos ⟨c, .inl rfl⟩
        rw [e] at fin
        refine xs_seq <| xs_if <| xt_and <| xt_test <| xe_B0 <| xe_len <| xe_var rfl ⟨_, rfl, xe_int ⟨_, _, rfl, rfl, _, rfl, ?_⟩⟩
        rw [show decide ((1 : Int) < (([n] : List Str).map D.str).length) = false from rfl]
        exact if_ff <| xs_next <| xs_ret <| xe_tup <| xa_cons <| xe_ix <| xe_var rfl <| xe_int ⟨_, .str n, rfl, ix0, xa_cons <| xe_tuple <| xe_var rfl ⟨_, .inl rfl, xa_nil ⟨by simp, fin⟩⟩⟩
      | cons i us =>
        have ix1 : ixD (.lst ((n :: i :: us).map .str)) 1 = some (.str i) := (L2.atI_nat (xs := (n :: i :: us).map D.str) (j := 1) (v := .str i) rfl : atI ((n :: i :: us).map D.str) ((1 : Nat) : Int) = _)
        refine xs_seq <| xs_if <| xt_and <| xt_test <| xe_B0 <| xe_len <| xe_var rfl ⟨_, rfl, xe_int ⟨_, _, rfl, rfl, _, rfl, ?_⟩⟩
        rw [show decide ((1 : Int) < ((n :: i :: us).map D.str).length) = true from decide_eq_true (by simp; omega)]
        refine if_tt <| xt_or <| xt_test <| xe_ne <| xe_ix <| xe_var rfl <| xe_int ⟨_, .str i, rfl, ix1, xe_str ⟨_, _, rfl, rfl, rfl, _, rfl, ite_b (fun h => ?_) (fun h => ?_)⟩⟩
        · have h : i ≠ "if" := fun e => by rw [e, decide_eq_true rfl] at h; cases h
          refine if_tt <| xs_ret <| xe_non <| no (if_neg fun z => ?_)
          rcases z.2 with z | z
          · cases z
          · exact h (Option.some.inj z.1)
        · have h : i = "if" := by simpa using h
          subst h
          refine xt_test <| xe_eqD <| xe_var rfl <| xe_ofO <| xo_lst <| xa_nil ⟨by simp, _, rfl, pla_strs _, rfl, shp_lst fun w hw => (okw w (hu w hw)).2, shp_lst (ns := []) (by simp), _, rfl, ?_⟩
          rw [eqv_nil]
          cases us with
          | nil =>
            refine if_tt <| xs_ret <| xe_non <| no (if_neg fun z => ?_)
            rcases z.2 with z | z
            · cases z
            · exact absurd z.2.1 (by decide)
          | cons u us =>
            have e : ruleW (n :: "if" :: u :: us) = some (n, u :: us) := if_pos ⟨c, .inr ⟨rfl, by simp, k⟩⟩
            rw [e] at fin
            refine if_ff <| xs_next <| xs_ret <| xe_tup <| xa_cons <| xe_ix <| xe_var rfl <| xe_int ⟨_, .str n, rfl, ix0, xa_cons <| xe_tuple <| xe_var rfl ⟨_, .inl rfl, xa_nil ⟨by simp, fin⟩⟩⟩
/-! ### the rules of a text, by the law -/
def F_due : FR := fun ds Φ => ∃ ls : List (List Str), ds = [.str (textW ls)] ∧ (ls = [] ∨ textW ls ≠ "") ∧ ls.length ≤ 60 ∧ (∀ ws ∈ ls, Ws ws) ∧ (∀ i : Nat, ls.findIdx? badW = some i → Φ (.d (.int i))) ∧ ∀ rs : List Rl, ls.map ruleW = rs.map some → Φ (.d (.lst (rs.map ruleD)))
theorem ok_due (T : Txt K mg a) (G_lw_rule_of : FnOk P w K mg base CX0 2 a.f_lw_rule_of a.fd_lw_rule_of ["_law_line"] (spR (ZZ K a) F_rule_of)) : FnOk P w K mg base CX0 3 a.f_lw_due a.fd_lw_due ["_law_text_here"] (spR (ZZ K a) F_due) := by
  refine T.F_lw_due.ok sc_lw_due (fun vs H Q E h => ?_) (fun cdv A outer s H vs Q E hr h => ?_)
  · obtain ⟨M, ds, Φ, _, al, ⟨ls, rfl, _⟩, _⟩ := h
    exact al.len
  · obtain ⟨M, ds, Φ, ex, al, ⟨ls, rfl, hne, hl, hw, r1, fin⟩, q⟩ := h
    refine ⟨_, (pss_cons (ps_set (i := 1) sc_lw_due.nd rfl (Or.inl rfl) (pe_lst pa_nil))
      (pss_cons (ps_for PassesOwn.never rfl (pi_enum (by rfl) T.n_enumerate (pa_cons (pe_ifExp (pt_cmpR op_ne (pv 0) pe_str (nomark _)) (pe_split (pv 0) pe_str) (pe_lst pa_nil)) pa_nil)) (pg_tup rfl (pgs_cons (pg_name (i := 2) sc_lw_due.nd rfl (Or.inl rfl)) (pgs_cons (pg_name (i := 3) sc_lw_due.nd rfl (Or.inl rfl)) pgs_nil)))
      (pss_cons (ps_set (i := 4) sc_lw_due.nd rfl (Or.inl rfl) (pe_call G_lw_rule_of (hr.mono (by decide)) (by rfl) T.m_lw_rule_of T.F_lw_rule_of.kp T.b_lw_rule_of .nil pass0 (pa_cons (pv 3) pa_nil)))
      (pss_cons (ps_if (pt_cmpR GS.op_isX (pv 4) pe_non (nomark _)) (pss_one (ps_ret (pv 2))) pss_nil)
      (pss_one (ps_expr (pe_bm PySem.F.plainAttrs_list PySem.F.slot_list_append PySem.F.type_list_append mt_append (pv 1) (pa_cons (pv 4) pa_nil)))))))
      (pss_one (ps_ret (pv 1))))), entR (n := 4) ex al rfl q ?_⟩
    walk_at "ent"
    have tl := textW_len hw
    have hsz : (textW ls).length ≤ sizeLine := by rw [sizeLine_eq]; omega
    refine xs_seq <| xs_setO (by decide) <| xo_lst <| xa_nil ⟨by simp, by simp, ?_⟩
    try dsimp only [List.set]
    by_cases ne : ls = []
    · subst ne
      refine xs_seq <| xs_for (vs := [2, 3]) (xi_enum <| xr_if <| xt_test <| xe_ne <| xe_var rfl <| xe_str ⟨_, _, rfl, rfl, rfl, _, rfl, ?_⟩)
      rw [show textW [] = "" from rfl, decide_eq_true rfl]
      refine if_ff <| xe_ofO <| xo_lst <| xa_nil ⟨by simp, _, rfl, ?_⟩
      refine ⟨_, rfl, fun m δ => ∃ s2 s3 s4 : S, δ = [.d (.str ""), .own (.lst []), s2, s3, s4], ⟨_, _, _, rfl⟩, fun m x δ1 hm _ => by obtain ⟨x, hx, rfl⟩ := enumD_at hm; simp at hx, ?_⟩
      rintro δ1 ⟨s2, s3, s4, rfl⟩
      refine xs_freeze (i := 1) (by decide) rfl ?_
      try dsimp only [List.set]
      exact xs_ret <| xe_var rfl (fin [] rfl)
    · have nt : textW ls ≠ "" := hne.resolve_left ne
      refine xs_seq <| xs_for (vs := [2, 3]) (xi_enum <| xr_if <| xt_test <| xe_ne <| xe_var rfl <| xe_str ⟨_, _, rfl, rfl, rfl, _, rfl, ?_⟩)
      rw [decide_eq_false (fun e => nt (V.str.inj e))]
      refine if_tt <| xe_ofO <| xo_split <| xe_var rfl ⟨_, rfl, xe_str ⟨_, rfl, by decide, by rw [sizeLine_eq]; omega, _, rfl, ?_⟩⟩
      rw [textW_split hw ne]
      refine ⟨_, rfl, fun m δ => ∃ (s2 s3 s4 : S) (rs : List Rl), δ = [.d (.str (textW ls)), .own (.lst (rs.map ruleD)), s2, s3, s4] ∧ (ls.take m).map ruleW = rs.map some, ⟨_, _, _, [], rfl, rfl⟩, ?_, ?_⟩
      · rintro m x δ1 hm ⟨s2, s3, s4, rs, rfl, h1⟩
        obtain ⟨x, hx, rfl⟩ := enumD_at hm
        obtain ⟨ws, hr, rfl⟩ : ∃ ws, ls[m]? = some ws ∧ D.str (lineT ws) = x := by simpa using hx
        have lt := (List.getElem?_eq_some_iff.mp hr).1
        have lr : rs.length ≤ m := by have := congrArg List.length h1; simp at this; omega
        refine xg_tup (by rfl) (xgs_cons (xg_name (by decide) (by decide) (xgs_cons (xg_name (by decide) (by decide) (xgs_nil ?_)))))
        try dsimp only [List.set]
        refine xs_seq <| xs_set (by decide) <| xr_call (fun _ => .nil) <| xa_cons <| xe_var rfl <| xa_nil ⟨ws, rfl, hw ws (List.mem_of_getElem? hr), on_d ?_⟩
        try dsimp only [List.set]
        cases e : ruleW ws with
        | none =>
          refine xs_seq <| xs_if <| xt_test <| xe_isN <| xe_var rfl ⟨true, rfl, if_tt <| xs_ret <| xe_var rfl (r1 m ?_)⟩
          rw [List.findIdx?_eq_some_iff_getElem]
          refine ⟨lt, ?_, fun j hj => ?_⟩
          · rw [(List.getElem?_eq_some_iff.mp hr).2]; unfold badW; rw [e]; rfl
          · have z := congrArg (·[j]?) h1
            simp only [List.getElem?_map, List.getElem?_take_of_lt hj, List.getElem?_eq_getElem (Nat.lt_trans hj lt), Option.map_some] at z
            have hjr : j < rs.length := by have := congrArg List.length h1; simp at this; omega
            rw [List.getElem?_eq_getElem hjr] at z
            have z : ruleW ls[j] = some rs[j] := by simpa using z
            unfold badW
            rw [z]; simp
        | some r =>
          refine xs_seq <| xs_if <| xt_test <| xe_isN <| xe_var rfl ⟨false, rfl, if_ff <| xs_next ?_⟩
          refine xs_drop <| xe_app ⟨_, rfl⟩ <| xe_var rfl ⟨_, rfl, by simp; omega, ?_⟩
          refine ⟨.d (.int m), .d (.str (lineT ws)), .d (ruleV (some r)), rs ++ [r], ?_, ?_⟩
          · simp [ruleV]
          · rw [GS.take_get hr]; simp [h1, e]
      · rintro δ1 ⟨s2, s3, s4, rs, rfl, h1⟩
        rw [enumD_len, List.length_map, List.length_map, List.take_length] at h1
        refine xs_freeze (i := 1) (by decide) rfl ?_
        try dsimp only [List.set]
        exact xs_ret <| xe_var rfl (fin rs h1)
/-! ### lines with one thing otherwise -/
structure WsL (k : Nat) (ws : List Str) : Prop where
  ne : ws ≠ []
  mem : ∀ w ∈ ws, w ∈ wrd
  len : ws.length ≤ k
theorem WsL.ws {k : Nat} {ws : List Str} (h : WsL k ws) (l : k ≤ 14) : Ws ws := ⟨h.ne, h.mem, by have := h.len; omega⟩
theorem WsL.le {k m : Nat} {ws : List Str} (h : WsL k ws) (l : k ≤ m) : WsL m ws := ⟨h.ne, h.mem, by have := h.len; omega⟩
def linesD (ls : List (List Str)) : D := .lst ((ls.map lineT).map .str)
def oddW : List (List Str) := [[""], ["a", "if"], ["a", "if", "a"], ["if"], ["a", "b"], ["a", "", "if", "b"]]
theorem oddW_ok : ∀ ws ∈ oddW, WsL 4 ws := by
  have h : (oddW.all fun ws => decide (ws ≠ []) && decide (ws.length ≤ 4) && ws.all fun w => decide (w ∈ wrd)) = true := by decide +kernel
  intro ws hw
  have h := List.all_eq_true.mp h ws hw
  simp only [Bool.and_eq_true, decide_eq_true_eq, List.all_eq_true] at h
  exact ⟨h.1.1, h.2, h.1.2⟩
theorem oddW_t : oddW.map lineT = (["", "a if", "a if a", "if", "a b", "a  if b"] : List Str) := by decide +kernel
def F_bent : FB := fun y ds Φ => ∃ (ls : List (List Str)) (k : Nat) (c : Int), ds = [linesD ls] ∧ ls ≠ [] ∧ ls.length ≤ 60 ∧ (∀ ws ∈ ls, WsL k ws) ∧ 4 ≤ k ∧ k ≤ 13 ∧ 0 ≤ c ∧ c + 10 < 2 ^ 50 ∧ BoxD c y ∧ ∀ (ls' : List (List Str)) y', ls'.length ≤ ls.length → (∀ ws ∈ ls', WsL (k + 1) ws) → BoxD (c + 4) y' → Φ (.d (linesD ls')) y'
theorem lines_cut {ls : List (List Str)} {n : Nat} {m : List (List Str)} (h : n < ls.length) : cut ((ls.map lineT).map D.str) none (some (n : Int)) ++ (m.map lineT).map D.str ++ cut ((ls.map lineT).map D.str) (some ((n : Int) + 1)) none = ((ls.take n ++ m ++ ls.drop (n + 1)).map lineT).map D.str := by
  rw [cut_to (by omega), cut_from (by omega) (by simp; omega)]
  rw [show ((n : Int)).toNat = n by omega, show ((n : Int) + 1).toNat = n + 1 by omega]
  simp [List.map_take, List.map_drop]
theorem lines_in {ls m : List (List Str)} {n k : Nat} (h : ∀ ws ∈ ls, WsL k ws) (g : ∀ ws ∈ m, WsL (k + 1) ws) : ∀ ws ∈ ls.take n ++ m ++ ls.drop (n + 1), WsL (k + 1) ws := fun ws hw => by
  rcases List.mem_append.mp hw with hw | hw
  · rcases List.mem_append.mp hw with hw | hw
    · exact (h ws (List.mem_of_mem_take hw)).le (by omega)
    · exact g ws hw
  · exact (h ws (List.mem_of_mem_drop hw)).le (by omega)
theorem cut_fromN {α : Type} {xs : List α} {b : Nat} : cut xs (some (b : Int)) none = xs.drop b := by
  unfold cut
  have e1 : HT.sIx xs.length 0 (some (b : Int)) = min b xs.length := by
    show (if (b : Int) < 0 then ((b : Int) + (xs.length : Int)).toNat else min (b : Int).toNat xs.length) = min b xs.length
    rw [if_neg (by omega), Int.toNat_natCast]
  have e2 : HT.sIx xs.length xs.length none = xs.length := rfl
  rw [e1, e2, List.take_of_length_le (by simp)]
  by_cases h : b ≤ xs.length
  · rw [Nat.min_eq_left h]
  · rw [Nat.min_eq_right (by omega), List.drop_of_length_le (by omega), List.drop_of_length_le (by omega)]
theorem one_len : 1 = (" " : Str).length := by decide
theorem ok_bent (T : Txt K mg a) (G_lw_take : FnOk P w K mg base CX0 1 a.f_lw_take a.fd_lw_take ["_law_box_here", "_law_bound"] (spB (ZZ K a) F_take)) (G_lw_pick : FnOk P w K mg base CX0 2 a.f_lw_pick a.fd_lw_pick ["_law_box_here", "_law_items"] (spB (ZZ K a) F_pick)) : FnOk P w K mg base CX0 3 a.f_lw_bent a.fd_lw_bent ["_law_box_here", "_law_lines"] (spB (ZZ K a) F_bent) := by
  refine T.F_lw_bent.ok sc_lw_bent (fun vs H Q E h => ?_) (fun cdv A outer s H vs Q E hr h => ?_)
  · obtain ⟨M, p, ws, ho, y, ds, Φ, rfl, _, _, _, _, al, ⟨ls, k, c, rfl, _⟩, _⟩ := h
    simp [al.len]
  · obtain ⟨M, p, ws, ho, y, ds, Φ, rfl, hp, hm, hy, ex, al, ⟨ls, k, c, rfl, hne, hl, hw, k4, k13, c0, c1, hb, fin⟩, q⟩ := h
    refine ⟨_, (pss_cons (ps_par (i := 2) (j := 3) (by rfl) sc_lw_bent.nd rfl rfl (by decide) rfl rfl (pa_cons (pe_call G_lw_take (hr.mono (by decide)) (by rfl) T.m_lw_take T.F_lw_take.kp T.b_lw_take .nil pass0 (pa_cons (pv 0) (pa_cons pe_int pa_nil))) (pa_cons (pe_call G_lw_take (hr.mono (by decide)) (by rfl) T.m_lw_take T.F_lw_take.kp T.b_lw_take .nil pass0 (pa_cons (pv 0) (pa_cons (pe_callB (show CallR _ (.builtin "len") (G.rLen K) from call_len) (by rfl) T.n_len PySem.boot_len (pa_cons (pv 1) pa_nil)) pa_nil))) pa_nil)) (by rfl))
      (pss_cons (ps_if (pt_cmpR op_eq (pv 2) pe_int (nomark _)) (pss_one (ps_ret (pe_op op_cat (pe_slice (show SlR _ (rSlL K) from sl_list) (pv 1) po_none (po_some (pv 3))) (pe_slice (show SlR _ (rSlL K) from sl_list) (pv 1) (po_some (pe_op op_add (pv 3) pe_int)) po_none)))) pss_nil)
      (pss_cons (ps_if (pt_cmpR op_eq (pv 2) pe_int (nomark _)) (pss_cons (ps_set (i := 4) sc_lw_bent.nd rfl (Or.inl rfl) (pe_op op_cat (pv 1) (pe_lst (pa_cons pe_str (pa_cons pe_str (pa_cons pe_str (pa_cons pe_str (pa_cons pe_str (pa_cons pe_str pa_nil)))))))))
      (pss_one (ps_ret (pe_op op_cat (pe_op op_cat (pe_slice (show SlR _ (rSlL K) from sl_list) (pv 1) po_none (po_some (pv 3))) (pe_lst (pa_cons (pe_call G_lw_pick (hr.mono (by decide)) (by rfl) T.m_lw_pick T.F_lw_pick.kp T.b_lw_pick .nil pass0 (pa_cons (pv 0) (pa_cons (pv 4) pa_nil))) pa_nil))) (pe_slice (show SlR _ (rSlL K) from sl_list) (pv 1) (po_some (pe_op op_add (pv 3) pe_int)) po_none))))) pss_nil)
      (pss_cons (ps_set (i := 5) sc_lw_bent.nd rfl (Or.inl rfl) (pe_split (pe_ix (show IxR _ (rIx K) from ix_seq) (pv 1) (pv 3) (fun _ _ => rfl)) pe_str))
      (pss_cons (ps_set (i := 6) sc_lw_bent.nd rfl (Or.inl rfl) (pe_call G_lw_take (hr.mono (by decide)) (by rfl) T.m_lw_take T.F_lw_take.kp T.b_lw_take .nil pass0 (pa_cons (pv 0) (pa_cons (pe_op op_add (pe_callB (show CallR _ (.builtin "len") (G.rLen K) from call_len) (by rfl) T.n_len PySem.boot_len (pa_cons (pv 5) pa_nil)) pe_int) pa_nil))))
      (pss_cons (ps_set (i := 7) sc_lw_bent.nd rfl (Or.inl rfl) (pe_ifExp (pt_cmpR op_gt (pv 2) pe_int (nomark _)) (pe_lst (pa_cons (pe_call G_lw_pick (hr.mono (by decide)) (by rfl) T.m_lw_pick T.F_lw_pick.kp T.b_lw_pick .nil pass0 (pa_cons (pv 0) (pa_cons (pe_lst (pa_cons pe_str (pa_cons pe_str (pa_cons (pe_ix (show IxR _ (rIx K) from ix_seq) (pv 5) pe_int (fun _ _ => rfl)) (pa_cons pe_str (pa_cons pe_str pa_nil)))))) pa_nil))) pa_nil)) (pe_lst pa_nil)))
      (pss_cons (ps_set (i := 5) sc_lw_bent.nd rfl (Or.inl rfl) (pe_op op_cat (pe_op op_cat (pe_slice (show SlR _ (rSlL K) from sl_list) (pv 5) po_none (po_some (pv 6))) (pv 7)) (pe_slice (show SlR _ (rSlL K) from sl_list) (pv 5) (po_some (pe_op op_add (pv 6) (pe_callTy call_int1 (by rfl) T.n_int (by decide +kernel) (pa_cons (pe_cmpR op_lt (pv 2) pe_int (nomark _)) pa_nil)))) po_none)))
      (pss_one (ps_ret (pe_op op_cat (pe_op op_cat (pe_slice (show SlR _ (rSlL K) from sl_list) (pv 1) po_none (po_some (pv 3))) (pe_lst (pa_cons (GX.pe_joinK (K := K) rfl pe_str (pv 5)) pa_nil))) (pe_slice (show SlR _ (rSlL K) from sl_list) (pv 1) (po_some (pe_op op_add (pv 3) pe_int)) po_none))))))))))), entB (n := 6) hp hm hy ex al rfl q ?_⟩
    walk_at "ent"
    have lp : 0 < ls.length := List.length_pos_iff.mpr hne
    unfold linesD
    refine xs_seq <| xs_par (by decide) (by decide) <| xr_callB (fun _ => .nil) ⟨_, rfl⟩ <| xa_cons <| xe_int <| xa_nil ⟨y, rfl, 5, c, rfl, by decide, by decide, by omega, hb, fun f y1 f0 f1 hb1 => on_d ?_⟩
    refine xr_callB (fun _ => .nil) ⟨_, rfl⟩ <| xa_cons <| xe_len <| xe_var rfl ⟨_, rfl, xa_nil ⟨y1, rfl, ls.length, c + 1, by simp, by omega, by omega, by omega, hb1, fun n y2 n0 n1 hb2 => on_d ?_⟩⟩
    obtain ⟨n, rfl⟩ : ∃ m : Nat, n = m := ⟨n.toNat, by omega⟩
    have nl : n < ls.length := by omega
    try dsimp only [List.set]
    have cl1 : (cut ((ls.map lineT).map D.str) none (some (n : Int))).length ≤ 60 := by have := cut_len (xs := (ls.map lineT).map D.str) (lo := none) (hi := some (n : Int)); simp at this ⊢; omega
    have cl2 : (cut ((ls.map lineT).map D.str) (some ((n : Int) + 1)) none).length ≤ 60 := by have := cut_len (xs := (ls.map lineT).map D.str) (lo := some ((n : Int) + 1)) (hi := none); simp at this ⊢; omega
    refine xs_seq <| xs_if <| xt_test <| xe_eq <| xe_var rfl <| xe_int ⟨_, _, rfl, rfl, rfl, _, rfl, ite_b (fun h => ?_) (fun h => ?_)⟩
    · refine xs_ret <| xe_ofO <| xo_cat <| xe_ofO <| xo_sl <| xe_var rfl <| xp_no <| xp_part <| xe_var rfl ⟨_, rfl, _, rfl, _, rfl, xe_ofO <| xo_sl <| xe_var rfl <| xp_part <| xe_I0 <| xe_var rfl <| xe_int ⟨_, _, rfl, rfl, _, rfl, xp_no ⟨_, rfl, _, rfl, _, _, rfl, rfl, ?_, _, rfl, ?_⟩⟩⟩
      · simp at cl1 cl2 ⊢; omega
      · have e := lines_cut (m := []) nl
        simp only [List.map_nil, List.append_nil] at e
        rw [e]
        exact ⟨y2, rfl, fin (ls.take n ++ ls.drop (n + 1)) y2 (by simp; omega) (by have := lines_in (m := []) (n := n) hw (by simp); simpa using this) (hb2.le (by omega))⟩
    refine xs_next <| xs_seq <| xs_if <| xt_test <| xe_eq <| xe_var rfl <| xe_int ⟨_, _, rfl, rfl, rfl, _, rfl, ite_b (fun h => ?_) (fun h => ?_)⟩
    · refine xs_seq <| xs_set (by decide) <| xe_ofO <| xo_cat <| xe_var rfl <| xe_ofO <| xo_lst <| xa_cons <| xe_str <| xa_cons <| xe_str <| xa_cons <| xe_str <| xa_cons <| xe_str <| xa_cons <| xe_str <| xa_cons <| xe_str <| xa_nil ⟨by simp, _, rfl, _, _, rfl, rfl, by simp; omega, _, rfl, ?_⟩
      have e6 : (ls.map lineT).map D.str ++ [.str "", .str "a if", .str "a if a", .str "if", .str "a b", .str "a  if b"] = ((ls ++ oddW).map lineT).map .str := by rw [List.map_append, oddW_t, List.map_append]; rfl
      rw [e6]
      try dsimp only [List.set]
      refine xs_ret <| xe_ofO <| xo_cat <| xe_ofO <| xo_cat <| xe_ofO <| xo_sl <| xe_var rfl <| xp_no <| xp_part <| xe_var rfl ⟨_, rfl, _, rfl, _, rfl, xe_ofO <| xo_lst <| xa_cons <| xr_callB (fun _ => .nil) ⟨_, rfl⟩ <| xa_cons <| xe_var rfl <| xa_nil ⟨y2, rfl, ((ls ++ oddW).map lineT).map .str, _, c + 2, rfl, .inl rfl, by simp; omega, by simp [oddW]; omega, by omega, hb2.le (by omega), fun x y3 hx hb3 => on_d ?_⟩⟩
      obtain ⟨t, ht, rfl⟩ := List.mem_map.mp hx
      clear hx
      obtain ⟨ws, hx, rfl⟩ := List.mem_map.mp ht
      have hx : WsL (k + 1) ws := by
        rcases List.mem_append.mp hx with hx | hx
        · exact (hw ws hx).le (by omega)
        · exact (oddW_ok ws hx).le (by omega)
      refine xa_nil ⟨by simp, _, rfl, _, _, rfl, rfl, by simp at cl1 ⊢; omega, _, rfl, xe_ofO <| xo_sl <| xe_var rfl <| xp_part <| xe_I0 <| xe_var rfl <| xe_int ⟨_, _, rfl, rfl, _, rfl, xp_no ⟨_, rfl, _, rfl, _, _, rfl, rfl, by simp at cl1 cl2 ⊢; omega, _, rfl, ?_⟩⟩⟩
      rw [show ([.str (lineT ws)] : List D) = ([ws].map lineT).map .str from rfl, lines_cut nl]
      exact ⟨y3, rfl, fin _ y3 (by simp; omega) (lines_in hw fun v hv => by rw [List.mem_singleton.mp hv]; exact hx) (hb3.le (by omega))⟩
    refine xs_next ?_
    have hn : ls[n] ∈ ls := List.getElem_mem nl
    have wn := hw _ hn
    have w0 := wn.ws (by omega)
    generalize hv : ls[n] = vs at wn w0
    have ixn : ixD (.lst ((ls.map lineT).map .str)) n = some (.str (lineT vs)) := L2.atI_nat (xs := (ls.map lineT).map D.str) (j := n) (v := .str (lineT vs)) (by simp [nl, hv])
    have ln := w0.short
    refine xs_seq <| xs_set (by decide) <| xe_ofO <| xo_split <| xe_ix <| xe_var rfl <| xe_var rfl ⟨_, _, rfl, ixn, _, rfl, xe_str ⟨_, rfl, by decide, by rw [sizeLine_eq]; omega, _, rfl, ?_⟩⟩
    rw [w0.split]
    have vl := wn.len
    have vp : 0 < vs.length := List.length_pos_iff.mpr wn.ne
    try dsimp only [List.set]
    refine xs_seq <| xs_set (by decide) <| xr_callB (fun _ => .nil) ⟨_, rfl⟩ <| xa_cons <| xe_I0 <| xe_len <| xe_var rfl ⟨_, rfl, xe_int ⟨_, _, rfl, rfl, xa_nil ⟨y2, rfl, vs.length + 1, c + 2, by simp, by omega, by omega, by omega, hb2.le (by omega), fun s y3 s0 s1 hb3 => on_d ?_⟩⟩⟩
    obtain ⟨s, rfl⟩ : ∃ m : Nat, s = m := ⟨s.toNat, by omega⟩
    have sl : s ≤ vs.length := by omega
    try dsimp only [List.set]
    obtain ⟨v0, hv0⟩ : ∃ v0, vs[0]? = some v0 := ⟨vs[0], by simp [vp]⟩
    have m0 : v0 ∈ wrd := wn.mem _ (List.mem_of_getElem? hv0)
    have ix0 : ixD (.lst (vs.map .str)) 0 = some (.str v0) := (L2.atI_nat (xs := vs.map D.str) (j := 0) (v := .str v0) (by simp [hv0]) : atI (vs.map D.str) ((0 : Nat) : Int) = _)
    refine xs_seq <| xs_set (by decide) <| joinE (α := List Str × OD) (fun m => m.1.length ≤ 1 ∧ (∀ w ∈ m.1, w ∈ wrd) ∧ (m.1 = [] → f ≤ 2) ∧ BoxD (c + 4) m.2) (fun m => .lst (m.1.map .str)) (fun m => [.own m.2, .d (linesD ls), .d (.int f), .d (.int n), .no, .d (.lst (vs.map .str)), .d (.int s), .no]) (fun go => ?_) ?_
    · refine xr_if <| xt_test <| xe_B0 <| xe_var rfl <| xe_int ⟨_, _, rfl, rfl, _, rfl, ite_b (fun h2 => ?_) (fun h2 => ?_)⟩
      · refine xe_ofO <| xo_lst <| xa_cons <| xr_callB (fun _ => .nil) ⟨_, rfl⟩ <| xa_cons <| xe_ofO <| xo_lst <| xa_cons <| xe_str <| xa_cons <| xe_str <| xa_cons <| xe_ix <| xe_var rfl <| xe_int ⟨_, _, rfl, ix0, xa_cons <| xe_str <| xa_cons <| xe_str <| xa_nil ⟨by simp, _, rfl, xa_nil ⟨y3, rfl, ([("" : Str), "if", v0, "A", "abcd"] : List Str).map .str, _, c + 3, rfl, .inl rfl, by simp, by simp, by omega, hb3.le (by omega), fun x y4 hx hb4 => on_d ?_⟩⟩⟩
        obtain ⟨u, hu, rfl⟩ := List.mem_map.mp hx
        refine xa_nil ⟨by simp, _, rfl, go ([u], y4) ⟨by simp, fun w hw => ?_, by simp, hb4.le (by omega)⟩⟩
        rw [List.mem_singleton.mp hw]
        simp only [List.mem_cons, List.not_mem_nil, or_false] at hu
        rcases hu with rfl | rfl | rfl | rfl | rfl
        · decide +kernel
        · decide +kernel
        · exact m0
        · decide +kernel
        · decide +kernel
      · refine xe_ofO <| xo_lst <| xa_nil ⟨by simp, _, rfl, go ([], y3) ⟨by simp, by simp, fun _ => ?_, hb3.le (by omega)⟩⟩
        have := of_decide_eq_false h2
        omega
    · rintro ⟨m, y4⟩ ⟨m1, mw, mf, hb4⟩
      dsimp only at m1 mw mf hb4 ⊢
      unfold linesD
      have cv1 : (cut (vs.map D.str) none (some (s : Int))).length ≤ 13 := by have := cut_len (xs := vs.map D.str) (lo := none) (hi := some (s : Int)); simp at this ⊢; omega
      have fi : (if decide (f < 4) = true then (1 : Int) else 0) = ((if f < 4 then 1 else 0 : Nat) : Int) := by by_cases h : f < 4 <;> simp [h]
      generalize hg : (if f < 4 then 1 else 0 : Nat) = g at fi
      have cv2 : (cut (vs.map D.str) (some ((s : Int) + g)) none).length ≤ 13 := by have := cut_len (xs := vs.map D.str) (lo := some ((s : Int) + g)) (hi := none); simp at this ⊢; omega
      refine xs_seq <| xs_set (by decide) <| xe_ofO <| xo_cat <| xe_ofO <| xo_cat <| xe_ofO <| xo_sl <| xe_var rfl <| xp_no <| xp_part <| xe_var rfl ⟨_, rfl, _, rfl, _, rfl, xe_var rfl ⟨_, _, rfl, rfl, by simp at cv1 ⊢; omega, _, rfl, ?_⟩⟩
      refine xe_ofO <| xo_sl <| xe_var rfl <| xp_part <| xe_I0 <| xe_var rfl <| xe_callIntC <| xe_B0 <| xe_var rfl <| xe_int ⟨_, _, rfl, rfl, _, rfl, ?_⟩
      rw [fi]
      refine ⟨_, _, rfl, rfl, _, rfl, xp_no ⟨_, rfl, _, rfl, _, _, rfl, rfl, by simp at cv1 cv2 ⊢; omega, _, rfl, ?_⟩⟩
      have e : cut (vs.map D.str) none (some (s : Int)) ++ m.map D.str ++ cut (vs.map D.str) (some ((s : Int) + g)) none = (vs.take s ++ m ++ vs.drop (s + g)).map .str := by
        rw [cut_to (by omega)]
        rw [show ((s : Int) + g) = ((s + g : Nat) : Int) by omega, cut_fromN, show ((s : Int)).toNat = s by omega]
        simp [List.map_take, List.map_drop]
      rw [e]
      have ml : (vs.take s ++ m ++ vs.drop (s + g)).length ≤ k + 1 := by simp; omega
      have mm : ∀ w ∈ vs.take s ++ m ++ vs.drop (s + g), w ∈ wrd := fun w hw => by
        rcases List.mem_append.mp hw with hw | hw
        · rcases List.mem_append.mp hw with hw | hw
          · exact wn.mem w (List.mem_of_mem_take hw)
          · exact mw w hw
        · exact wn.mem w (List.mem_of_mem_drop hw)
      generalize vs.take s ++ m ++ vs.drop (s + g) = us at ml mm
      obtain ⟨us', ue, hus⟩ : ∃ us', WsL (k + 1) us' ∧ lineT us = lineT us' := by
        by_cases z : us = []
        · subst z
          exact ⟨[""], ⟨by simp, fun w hw => by rw [List.mem_singleton.mp hw]; decide +kernel, by simp⟩, by decide +kernel⟩
        · exact ⟨us, ⟨z, mm, ml⟩, rfl⟩
      have sz := sum_le (b := 4) (ws := us) fun w hw => (wrd_blank w (mm w hw)).2.2.1
      try dsimp only [List.set]
      refine xs_ret <| xe_ofO <| xo_cat <| xe_ofO <| xo_cat <| xe_ofO <| xo_sl <| xe_var rfl <| xp_no <| xp_part <| xe_var rfl ⟨_, rfl, _, rfl, _, rfl, xe_ofO <| xo_lst <| xa_cons <| xe_join <| xe_str ⟨_, rfl, xe_var rfl ⟨us, .inl rfl, one_len ▸ by omega, xa_nil ⟨by simp, _, rfl, _, _, rfl, rfl, by simp at cl1 ⊢; omega, _, rfl, ?_⟩⟩⟩⟩
      refine xe_ofO <| xo_sl <| xe_var rfl <| xp_part <| xe_I0 <| xe_var rfl <| xe_int ⟨_, _, rfl, rfl, _, rfl, xp_no ⟨_, rfl, _, rfl, _, _, rfl, rfl, by simp at cl1 cl2 ⊢; omega, _, rfl, ?_⟩⟩
      rw [show ([.str (Txt.join " " us)] : List D) = ([us'].map lineT).map .str from by show [D.str (lineT us)] = [D.str (lineT us')]; rw [hus], lines_cut nl]
      exact ⟨y4, rfl, fin _ y4 (by simp; omega) (lines_in hw fun v hv => by rw [List.mem_singleton.mp hv]; exact ue) hb4⟩
/-! ### the names of rules, ascending -/
def F_people6 : FR := fun ds Φ => ∃ rs : List Rl, ds = [.lst (rs.map ruleD)] ∧ rs.length ≤ 60 ∧ (∀ r ∈ rs, ROk r) ∧ ∀ ys : List Str, ys.length ≤ 1000 → Φ (.d (.tup (ys.map .str)))
theorem ok_people6 (T : Txt K mg a) : FnOk P w K mg base CX0 2 a.f_lw_people a.fd_lw_people ["_law_rules_here"] (spR (ZZ K a) F_people6) := by
  refine T.F_lw_people.ok sc_lw_people (fun vs H Q E h => ?_) (fun cdv A outer s H vs Q E hr h => ?_)
  · obtain ⟨M, ds, Φ, _, al, ⟨rs, rfl, _⟩, _⟩ := h
    exact al.len
  · obtain ⟨M, ds, Φ, ex, al, ⟨rs, rfl, hl, hrs, fin⟩, q⟩ := h
    refine ⟨_, (pss_cons (ps_set (i := 1) sc_lw_people.nd rfl (Or.inl rfl) (pe_lst pa_nil))
      (pss_cons (ps_for PassesOwn.never rfl (pi_list (pv 0)) (pg_tup rfl (pgs_cons (pg_name (i := 2) sc_lw_people.nd rfl (Or.inl rfl)) (pgs_cons (pg_name (i := 3) sc_lw_people.nd rfl (Or.inl rfl)) pgs_nil)))
      (pss_one (ps_set (i := 1) sc_lw_people.nd rfl (Or.inl rfl) (pe_op op_cat (pe_op op_cat (pv 1) (pe_lst (pa_cons (pv 2) pa_nil))) (pe_callTy call_list_of (by rfl) T.n_list (by decide +kernel) (pa_cons (pv 3) pa_nil))))))
      (pss_one (ps_ret (pe_callTy call_tuple_of (by rfl) T.n_tuple (by decide +kernel) (pa_cons (pe_callB (GS.cr_sortSet rfl) (by rfl) T.n_sorted (by decide +kernel) (pa_cons (pe_callTy (GS.cr_set rfl) (by rfl) T.n_set (by decide +kernel) (pa_cons (pe_lc (own := [("_law_one", 4)]) (g := (gName 4)) (tt := tYes) rfl sc_lw_people.nd (pi_list (pv 1)) (blkOk_by (N := N_lw_people) (sc := defScope s_lw_people) (by decide +kernel)) (fun _ _ _ _ _ => (pg_name (i := 4) sc_lw_people.nd rfl (Or.inl rfl))) (fun _ _ _ _ _ => pts_nil) (fun _ _ _ _ _ => (pe_callTy (T := "str") SkE.call_str_str (by rfl) T.n_str (by decide +kernel) (pa_cons (pv 4) pa_nil)))) pa_nil)) pa_nil)) pa_nil)))))), entR (n := 4) ex al rfl q ?_⟩
    walk_at "ent"
    refine xs_seq <| xs_set (by decide) <| xe_ofO <| xo_lst <| xa_nil ⟨by simp, _, rfl, ?_⟩
    try dsimp only [List.set]
    refine xs_seq <| xs_for (vs := [2, 3]) (xi_list <| xe_var rfl ?_)
    refine ⟨_, .inl rfl, fun i δ => ∃ (zs : List Str) (s2 s3 : S), δ = [.d (.lst (rs.map ruleD)), .d (.lst (zs.map .str)), s2, s3, .no] ∧ zs.length ≤ 15 * i ∧ ∀ z ∈ zs, z ∈ pool, ⟨[], _, _, rfl, by simp, by simp⟩, ?_, ?_⟩
    · rintro i x δ1 hx ⟨zs, s2, s3, rfl, h1, h2⟩
      obtain ⟨r, hr, rfl⟩ : ∃ r, rs[i]? = some r ∧ ruleD r = x := by simpa using hx
      have ok := hrs r (List.mem_of_getElem? hr)
      have okl := ok.l
      have hi2 : i < rs.length := (List.getElem?_eq_some_iff.mp hr).1
      refine xg_tup (by rfl) (xgs_cons (xg_name (by decide) (by decide) (xgs_cons (xg_name (by decide) (by decide) (xgs_nil ?_)))))
      try dsimp only [List.set]
      refine xs_set (by decide) <| xe_ofO <| xo_cat <| xe_ofO <| xo_cat <| xe_var rfl <| xe_ofO <| xo_lst <| xa_cons <| xe_var rfl <| xa_nil ⟨by simp, _, rfl, _, _, rfl, rfl, by simp; omega, _, rfl, xe_ofO <| xo_list <| xe_var rfl ⟨_, .inr rfl, _, rfl, _, _, rfl, rfl, by simp; omega, _, rfl, zs ++ r.1 :: r.2, .d (.str r.1), .d (.tup (r.2.map .str)), by simp, by simp; omega, ?_⟩⟩
      intro z hz
      rcases List.mem_append.mp hz with q | q
      · exact h2 z q
      · rcases List.mem_cons.mp q with rfl | q
        · exact ok.n
        · exact (ok.w z q).1
    · rintro δ1 ⟨zs, s2, s3, rfl, h1, h2⟩
      rw [List.length_map] at h1
      refine xs_ret <| xe_tuple <| xe_ofO <| xo_lot rfl <| xe_ofO <| xo_fm (f := id) (p := fun _ => true) <| xi_list <| xe_var rfl ⟨_, .inl rfl, rfl, by simp; omega, fun d hd => ?_, ?_⟩
      · obtain ⟨x, hx, rfl⟩ := List.mem_map.mp hd
        refine xt_yes ⟨rfl, rfl, fun _ => ?_⟩
        walk_at "xs"
        exact ⟨rfl, rfl⟩
      rw [filter_tt, List.map_id]
      exact ⟨_, rfl, zs, .inl rfl, by omega, fun ys hy hl => ⟨_, rfl, _, .inl rfl, fin ys (by omega)⟩⟩
/-! ### the text of good rules, and what reads it -/
theorem textL_W (rs : List Rl) : textL rs = textW ((rs.map lotR).map partsT) := by
  rw [textL_eq]
  unfold roomT textW
  congr 1
  rw [List.map_map (l := rs.map lotR)]
  exact List.map_congr_left fun r _ => ruleT_join r
theorem ruleW_parts {r : Rl} (h : ROk r) : ruleW (partsT r) = some r := by
  obtain ⟨n, ws⟩ := r
  unfold partsT
  cases ws with
  | nil => exact if_pos ⟨h.n, .inl rfl⟩
  | cons w ws => exact if_pos ⟨h.n, .inr ⟨rfl, by simp, h.w⟩⟩
theorem ROk.lot {r : Rl} (h : ROk r) (k : GS.IsLot (lotC r.2) r.2) : ROk (lotR r) := by
  refine ⟨h.n, fun w hw => h.w w ((k.mem w).mp hw), ?_⟩
  have := nodup_len (GS.Asc.nodup k.asc) fun x hx => (k.mem x).mp hx
  have := h.l
  show (lotC r.2).length ≤ 14
  omega
theorem parts_WsL {r : Rl} (h : ROk r) : WsL (r.2.length + 2) (partsT r) := by
  have n0 : r.1 ∈ wrd := List.mem_append_left _ h.n
  unfold partsT
  split
  · exact ⟨by simp, fun w hw => by rw [List.mem_singleton.mp hw]; exact n0, by simp⟩
  · refine ⟨by simp, fun w hw => ?_, by simp⟩
    rcases List.mem_cons.mp hw with rfl | hw
    · exact n0
    · rcases List.mem_cons.mp hw with rfl | hw
      · decide +kernel
      · exact List.mem_append_left _ (h.w w hw).1
/-- lines that tell a room, read -/
def F_readC (C : Addr) : FR := fun ds Φ => ∃ (ls : List (List Str)) (rs : List Rl), ds = [.ref C, .str (textW ls)] ∧ (ls = [] ∨ textW ls ≠ "") ∧ ls.length ≤ 60 ∧ (∀ ws ∈ ls, Ws ws) ∧ ls.map ruleW = rs.map some ∧ ((∀ r ∈ rs, GS.IsLot (lotC r.2) r.2) → ∀ ns, GS.IsLot ns (wantAll (rs.map lotR)) → Φ (.d (roomD (rs.map lotR) ns)))
theorem no_bad {ls : List (List Str)} {rs : List Rl} (h : ls.map ruleW = rs.map some) : ls.findIdx? badW = none := by
  rw [List.findIdx?_eq_none_iff]
  intro ws hw
  have : ruleW ws ∈ rs.map some := h ▸ List.mem_map.mpr ⟨ws, hw, rfl⟩
  obtain ⟨r, _, e⟩ := List.mem_map.mp this
  unfold badW
  rw [← e]; rfl
theorem ok_readC {pp : List Str} (h : FnOk P w K mg base (L2.CX P w) 6 a.f_Room_read a.fd_Room_read pp (spRX (ZZ K a) (F_readX a.C_Room))) : FnOk P w K mg base CX0 6 a.f_Room_read a.fd_Room_read pp (spR (ZZ K a) (F_readC a.C_Room)) := calmR h fun ds Φ ⟨ls, rs, e, hne, hl, hw, h1, fin⟩ => .inr ⟨ls, e, hne, hl, hw, fun i hi => (nomatch (no_bad h1).symm.trans hi), fun rs' h2 h3 ns hns => by
  have : rs' = rs := (List.map_inj_right fun _ _ e => Option.some.inj e).mp (h2.symm.trans h1)
  subst this
  exact fin h3 ns hns⟩
/-! ### the law -/
theorem xe_isiTyR {Z : Wd} {δ : List S} {te : TE} {Φ : D → List S → Prop} {m : String} (h : XE Z te δ fun d δ1 => ∃ t b, TyD Z d t ∧ PySem.W.kitOne Z.K t (.type m) = some b ∧ Φ (.bl b) δ1) : XE Z (tCB (rIsi Z.K) (tCons te (tCons (tC (.ty m)) tNil))) δ Φ := XE.mk fun B W M H σ Q I q =>
  h.run I fun M1 H1 δ1 x a h1 e1 I1 at1 => by
    obtain ⟨t, b, e, k, f⟩ := h1
    exact ⟨x, .ty m, t, .type m, b, rfl, .ty m, at1.tyR I1.ex e, k, q M1 H1 δ1 _ _ f e1 I1 .bl⟩
def F_law : FR := fun ds Φ => ∃ ns : List Int, ds = [.scr ns] ∧ ns.length ≤ 63 ∧ Φ (.d (.bl true))
theorem textW_nil {ls : List (List Str)} (h : ∀ ws ∈ ls, Ws ws) (ne : ls ≠ []) (e : textW ls = "") : ls = ([[""]] : List (List Str)) := by
  have k := textW_split h ne
  rw [e, show Txt.split ("" : Str) "\n" = [("" : Str)] from by decide +kernel] at k
  match ls, k with
  | [ws], k =>
    have z := (List.cons.inj k).1
    have w := (h ws (by simp)).split
    rw [← z, show Txt.split ("" : Str) " " = [("" : Str)] from by decide +kernel] at w
    rw [← w]
  | [], _ => exact absurd rfl ne
  | _ :: _ :: _, k => cases (List.cons.inj k).2
theorem norm_lines {ls : List (List Str)} (h : ∀ ws ∈ ls, Ws ws) : ∃ ls', textW ls = textW ls' ∧ (ls' = [] ∨ textW ls' ≠ "") ∧ ls'.length ≤ ls.length ∧ ∀ ws ∈ ls', Ws ws := by
  by_cases e : textW ls = ""
  · exact ⟨[], e, .inl rfl, by simp, by simp⟩
  · exact ⟨ls, rfl, .inr e, Nat.le_refl _, h⟩
theorem lines_size {ls : List (List Str)} (h : ∀ ws ∈ ls, Ws ws) (l : ls.length ≤ 60) : ((ls.map lineT).map (·.length)).sum + (ls.map lineT).length * ("\n" : Str).length ≤ 16777216 := by
  have sz := sum_le (ws := ls.map lineT) (b := 80) fun x hx => by
    obtain ⟨ws, hw, rfl⟩ := List.mem_map.mp hx
    exact (h ws hw).short
  have l2 : ("\n" : Str).length = 1 := by decide
  simp [l2] at sz ⊢
  omega
theorem rules_of {ls : List (List Str)} (h : ls.findIdx? badW = none) : ∃ rs : List Rl, ls.map ruleW = rs.map some := by
  induction ls with
  | nil => exact ⟨[], rfl⟩
  | cons ws ls ih =>
    rw [List.findIdx?_eq_none_iff] at h
    obtain ⟨rs, e⟩ := ih (by rw [List.findIdx?_eq_none_iff]; exact fun x hx => h x (by simp [hx]))
    have hb := h ws (by simp)
    unfold badW at hb
    cases k : ruleW ws with
    | none => rw [k] at hb; cases hb
    | some r => exact ⟨r :: rs, by simp [k, e]⟩
theorem rules_ok {ls : List (List Str)} {rs : List Rl} (h : ∀ ws ∈ ls, Ws ws) (e : ls.map ruleW = rs.map some) : ∀ r ∈ rs, ROk r := fun r hr => by
  have : some r ∈ ls.map ruleW := e ▸ List.mem_map.mpr ⟨r, hr, rfl⟩
  obtain ⟨ws, hw, k⟩ := List.mem_map.mp this
  have m := ruleW_mem k
  exact ⟨m.2.1, m.2.2, by have := (h ws hw).len; omega⟩
theorem lotR_lotR {r : Rl} (h : GS.IsLot (lotC r.2) r.2) (k : GS.IsLot (lotC (lotR r).2) (lotR r).2) : lotR (lotR r) = lotR r := by
  have e : lotC (lotR r).2 = (lotR r).2 := lot_uniq k ⟨h.asc, fun _ => Iff.rfl⟩
  show ((lotR r).1, lotC (lotR r).2) = lotR r
  rw [e]
theorem lots_str {rs : List Rl} (rok : ∀ r ∈ rs, ROk r) (hl : ∀ r ∈ rs, GS.IsLot (lotC r.2) r.2) : ∀ q ∈ rs.map lotR, ∀ w ∈ q.2, PyData.strOk w = true := fun q hq => (lots_ok rok hl q hq).str
theorem val_kind : ∀ v ∈ valL, (∃ n, tyD v = some n ∧ kitB n "str" = some false) ∨ ∃ s, v = .str s := by
  intro v hv
  simp only [valL, List.mem_cons, List.not_mem_nil, or_false] at hv
  rcases hv with rfl | rfl | rfl | rfl | rfl | rfl | rfl | rfl | rfl | rfl | rfl | rfl | rfl | rfl | rfl | rfl | rfl | rfl <;> first | exact .inr ⟨_, rfl⟩ | exact .inl ⟨_, rfl, rfl⟩
theorem Ws_dec {ls : List (List Str)} (h : (ls.all fun ws => decide (ws ≠ []) && decide (ws.length ≤ 14) && ws.all fun w => decide (w ∈ wrd)) = true) : ∀ ws ∈ ls, Ws ws := fun ws hw => by
  have h := List.all_eq_true.mp h ws hw
  simp only [Bool.and_eq_true, decide_eq_true_eq, List.all_eq_true] at h
  exact ⟨h.1.1, h.2, h.1.2⟩
theorem ROk7.lot {r : Rl} (h : ROk7 r) (k : GS.IsLot (lotC r.2) r.2) : ROk7 (lotR r) := by
  refine ⟨h.ok.lot k, ?_⟩
  have := nodup_len (GS.Asc.nodup k.asc) fun x hx => (k.mem x).mp hx
  have := h.l7
  show (lotC r.2).length ≤ 7
  omega
theorem parts_L {qs : List Rl} (h : ∀ r ∈ qs, ROk7 r) : ∀ ws ∈ qs.map partsT, WsL 9 ws := fun ws hw => by
  obtain ⟨r, hr, rfl⟩ := List.mem_map.mp hw
  exact (parts_WsL (h r hr).ok).le (by have := (h r hr).l7; omega)
theorem parts_rules {qs : List Rl} (h : ∀ r ∈ qs, ROk r) : (qs.map partsT).map ruleW = qs.map some := by
  rw [List.map_map]
  exact List.map_congr_left fun r hr => ruleW_parts (h r hr)
theorem parts_ne {qs : List Rl} (h : ∀ r ∈ qs, ROk7 r) : qs.map partsT = [] ∨ textW (qs.map partsT) ≠ "" := by
  by_cases z : qs.map partsT = []
  · exact .inl z
  · refine .inr fun e => ?_
    have k := textW_nil (fun ws hw => (parts_L h ws hw).ws (by omega)) z e
    match qs, k, h with
    | r :: qs, k, h =>
      have n := (h r (by simp)).ok.n
      have k1 : partsT r = ([""] : List Str) := (List.cons.inj k).1
      have k2 : (partsT r).head? = some r.1 := by unfold partsT; split <;> rfl
      rw [k1] at k2
      have k3 : r.1 = "" := (Option.some.inj k2).symm
      rw [k3] at n
      exact absurd n (by decide +kernel)
theorem lineT_ok {ws : List Str} (h : Ws ws) : PyData.strOk (lineT ws) = true := by
  rw [strOk_iff]
  intro c hc
  have hc : c ∈ TL.tl (lineT ws) := hc
  unfold lineT at hc
  rw [TL.join_eq, TL.tl_join] at hc
  rcases in_joinL hc with k | ⟨p, hp, k⟩
  · exact (strOk_iff (s := (" " : Str))).mp (by decide +kernel) c k
  · obtain ⟨w, hw, rfl⟩ := List.mem_map.mp hp
    exact strOk_iff.mp (wrd_blank w (h.mem w hw)).2.2.2 c k
theorem linesD_one : linesD ([[""]] : List (List Str)) = .lst [.str ""] := by
  unfold linesD
  rw [show ([[""]] : List (List Str)).map lineT = ([""] : List Str) from by decide +kernel]
  rfl
theorem small_log {i : Nat} (h : i < 1000) : ((i : Int)).natAbs.log2 < 1920 := by
  rw [Int.natAbs_natCast]
  by_cases z : i = 0
  · subst z; decide
  · exact Nat.lt_of_le_of_lt (Nat.log2_le_self i) (by omega)
theorem rep1 : repD (.int ((1 : Nat) : Int)) = ("1" : Str) := by decide +kernel
theorem rep0 : repD (.int 0) = ("0" : Str) := by decide +kernel
theorem rep0' : repD (.int ((0 : Nat) : Int)) = ("0" : Str) := by decide +kernel
theorem ok_law (T : Txt K mg a) (G_lw_box : FnOk P w K mg base CX0 1 a.f_lw_box a.fd_lw_box ["_law_script", "_law_k", "_law_own"] (spR (ZZ K a) F_box)) (G_lw_take : FnOk P w K mg base CX0 1 a.f_lw_take a.fd_lw_take ["_law_box_here", "_law_bound"] (spB (ZZ K a) F_take)) (G_lw_rules : FnOk P w K mg base CX0 4 a.f_lw_rules a.fd_lw_rules ["_law_box_here", "_law_most"] (spB (ZZ K a) F_rules)) (G_lw_made : FnOk P w K mg base CX0 5 a.f_lw_made a.fd_lw_made ["_law_rules_here"] (spR (ZZ K a) F_madeN))
    (G_lw_text : FnOk P w K mg base CX0 3 a.f_lw_text a.fd_lw_text ["_law_rules_here"] (spR (ZZ K a) F_ltext)) (G_Room_read : FnOk P w K mg base CX0 6 a.f_Room_read a.fd_Room_read ["cls", "text"] (spR (ZZ K a) (F_readC a.C_Room))) (G_lw_bent : FnOk P w K mg base CX0 3 a.f_lw_bent a.fd_lw_bent ["_law_box_here", "_law_lines"] (spB (ZZ K a) F_bent)) (G_lw_due : FnOk P w K mg base CX0 3 a.f_lw_due a.fd_lw_due ["_law_text_here"] (spR (ZZ K a) F_due)) (G_lw_people : FnOk P w K mg base CX0 2 a.f_lw_people a.fd_lw_people ["_law_rules_here"] (spR (ZZ K a) F_people6)) (G_lw_told : FnOk P w K mg base CX0 7 a.f_lw_told a.fd_lw_told ["_law_text_here"] (spR (ZZ K a) F_told)) (G_lw_value : FnOk P w K mg base CX0 3 a.f_lw_value a.fd_lw_value ["_law_box_here"] (spB (ZZ K a) F_value))
    (G_Rule_init : FnOk P w K mg base CX0 3 a.f_Rule_init a.fd_Rule_init ["self", "name", "gone"] (spB (ZZ K a) F_Rule_initN)) (G_Room_init : FnOk P w K mg base CX0 2 a.f_Room_init a.fd_Room_init ["self", "rules"] (spB (ZZ K a) F_Room_init)) (G_Room_eq : FnOk P w K mg base CX0 3 a.f_Room_eq a.fd_Room_eq ["self", "other"] (spR (ZZ K a) F_Room_eq)) : FnOk P w K mg base CX0 9 a.f_lw_main a.fd_lw_main ["_law_script"] (spR (ZZ K a) F_law) := by
  refine T.F_lw_main.ok sc_lw_main (fun vs H Q E h => ?_) (fun cdv A outer s H vs Q E hr h => ?_)
  · obtain ⟨M, ds, Φ, _, al, ⟨ns, rfl, _⟩, _⟩ := h
    exact al.len
  · obtain ⟨M, ds, Φ, ex, al, ⟨scr, rfl, hl, fin⟩, q⟩ := h
    obtain ⟨_, V_Room_init_1, B_Room_init_1⟩ := T.b1_Room_init
    have nfm : PySem.W.notFirst K a.C_Room (.ref a.C_Room) = true := by unfold PySem.W.notFirst; simp
    have e0 : ∀ (M : Hp), AtL (ZZ K a) M [V.ref a.e_Room_init] [.tup []] := fun M => AtL.one (At.tup (Z := ZZ K a) (vs := []) (ds := []) (T.t_Room_init M) rfl (fun i v d h => by simp at h))
    refine ⟨_, (pss_cons (ps_for PassesOwn.never rfl (pi_range1 (by rfl) T.n_range (pa_cons (pe_callB (call_max2 rfl) (by rfl) T.n_max (by decide +kernel) (pa_cons pe_int (pa_cons (pe_callB (call_min2 rfl) (by rfl) T.n_min (by decide +kernel) (pa_cons pe_int (pa_cons (pe_callB (show CallR _ (.builtin "len") (G.rLen K) from call_len) (by rfl) T.n_len PySem.boot_len (pa_cons (pv 0) pa_nil)) pa_nil))) pa_nil))) pa_nil)) (pg_name (i := 1) sc_lw_main.nd rfl (Or.inl rfl))
      (pss_cons (ps_set (i := 2) sc_lw_main.nd rfl (Or.inl rfl) (pe_call G_lw_box (hr.mono (by decide)) (by rfl) T.m_lw_box T.F_lw_box.kp T.b_lw_box .nil pass0 (pa_cons (pv 0) (pa_cons (pv 1) (pa_cons pe_int pa_nil)))))
      (pss_cons (ps_for PassesOwn.never rfl (pi_range1 (by rfl) T.n_range (pa_cons pe_int pa_nil)) (pg_name (i := 3) sc_lw_main.nd rfl (Or.inl rfl))
      (pss_cons (ps_set (i := 4) sc_lw_main.nd rfl (Or.inl rfl) (pe_call G_lw_rules (hr.mono (by decide)) (by rfl) T.m_lw_rules T.F_lw_rules.kp T.b_lw_rules .nil pass0 (pa_cons (pv 2) (pa_cons pe_int pa_nil))))
      (pss_cons (ps_setLc (own := [("_law_name", 11), ("_law_wants", 12)]) (g := (gTup K 2 (gCons (gName 11) (gCons (gName 12) gNil)))) (tt := tYes) (i := 5) rfl sc_lw_main.nd rfl rfl (sw_true rfl rfl rfl (by decide +kernel)) (pi_list (pv 4)) (blkOk_by (N := N_lw_main) (sc := defScope s_lw_main) (by decide +kernel)) (fun _ _ _ _ _ => (pg_tup rfl (pgs_cons (pg_name (i := 11) sc_lw_main.nd rfl (Or.inl rfl)) (pgs_cons (pg_name (i := 12) sc_lw_main.nd rfl (Or.inl rfl)) pgs_nil)))) (fun _ _ _ _ _ => pts_nil) (fun _ _ _ _ _ => (GX.pe_joinK (K := K) rfl pe_str (pe_op op_cat (pe_op op_cat (pe_lst (pa_cons (pv 11) pa_nil)) (pe_op op_rep (pe_lst (pa_cons pe_str pa_nil)) (pe_callTy (T := "int") call_int1 (by rfl) T.n_int (by decide +kernel) (pa_cons (pe_cmpR (show OpR _ (compareOp .NotEq) (rNeD K) from op_neD hr.units) (pv 12) (pe_tup pa_nil) (nomark _)) pa_nil)))) (pe_callTy (T := "list") (call_list_ofK (K := K) rfl) (by rfl) T.n_list (by decide +kernel) (pa_cons (pv 12) pa_nil))))))
      (pss_cons (ps_if (PW.pt (pw_or (pt_cmpR (GX.op_ownNe G_Room_eq (hr.mono (by decide)) ⟨T.mt_Room_eq.1, T.mt_Room_eq.2⟩ T.nn_Room T.b_Room_eq pass0) (ClX.pe_cmeth (pe_glob (v := .ref a.C_Room) rfl T.m_Room rfl) T.cr_Room T.cm_Room_read (FnOk.raw G_Room_read T.b_Room_read .nil) (hr.mono (by decide)) pass0 (pa_cons (GX.pe_joinK (K := K) rfl pe_str (pv 5)) pa_nil)) (pe_call G_lw_made (hr.mono (by decide)) (by rfl) T.m_lw_made T.F_lw_made.kp T.b_lw_made .nil pass0 (pa_cons (pv 4) pa_nil)) (nomark _)) (pw_or1 (pt_cmpR (GX.op_ownNe G_Room_eq (hr.mono (by decide)) ⟨T.mt_Room_eq.1, T.mt_Room_eq.2⟩ T.nn_Room T.b_Room_eq pass0) (ClX.pe_cmeth (pe_glob (v := .ref a.C_Room) rfl T.m_Room rfl) T.cr_Room T.cm_Room_read (FnOk.raw G_Room_read T.b_Room_read .nil) (hr.mono (by decide)) pass0 (pa_cons (pe_call G_lw_text (hr.mono (by decide)) (by rfl) T.m_lw_text T.F_lw_text.kp T.b_lw_text .nil pass0 (pa_cons (pv 4) pa_nil)) pa_nil)) (pe_call G_lw_made (hr.mono (by decide)) (by rfl) T.m_lw_made T.F_lw_made.kp T.b_lw_made .nil pass0 (pa_cons (pv 4) pa_nil)) (nomark _))))) (pss_one (ps_ret pe_bl)) pss_nil)
      (pss_cons (ps_for PassesOwn.never rfl (pi_range1 (by rfl) T.n_range (pa_cons (pe_op op_add pe_int (pe_call G_lw_take (hr.mono (by decide)) (by rfl) T.m_lw_take T.F_lw_take.kp T.b_lw_take .nil pass0 (pa_cons (pv 2) (pa_cons pe_int pa_nil)))) pa_nil)) (pg_name (i := 6) sc_lw_main.nd rfl (Or.inl rfl))
      (pss_one (ps_set (i := 5) sc_lw_main.nd rfl (Or.inl rfl) (pe_ifExp (pt_cmpR (op_neD hr.units) (pv 5) (pe_lst pa_nil) (nomark _)) (pe_call G_lw_bent (hr.mono (by decide)) (by rfl) T.m_lw_bent T.F_lw_bent.kp T.b_lw_bent .nil pass0 (pa_cons (pv 2) (pa_cons (pv 5) pa_nil))) (pe_lst (pa_cons pe_str pa_nil))))))
      (pss_cons (ps_set (i := 7) sc_lw_main.nd rfl (Or.inl rfl) (GX.pe_joinK (K := K) rfl pe_str (pv 5)))
      (pss_cons (ps_set (i := 8) sc_lw_main.nd rfl (Or.inl rfl) (pe_call G_lw_due (hr.mono (by decide)) (by rfl) T.m_lw_due T.F_lw_due.kp T.b_lw_due .nil pass0 (pa_cons (pv 7) pa_nil)))
      (pss_cons (ps_if (PW.pt (pw_and (pt_val (pe_callB call_isi (by rfl) T.n_isinstance (by decide +kernel) (pa_cons (pv 8) (pa_cons (pe_bltn (v := .ty "list") (u := .type "list") (by rfl) T.n_list (by decide +kernel) rfl) pa_nil)))) (pw_and1 (pt_cmpR op_gt (pe_callB (show CallR _ (.builtin "len") (G.rLen K) from call_len) (by rfl) T.n_len PySem.boot_len (pa_cons (pe_call G_lw_people (hr.mono (by decide)) (by rfl) T.m_lw_people T.F_lw_people.kp T.b_lw_people .nil pass0 (pa_cons (pv 8) pa_nil)) pa_nil)) pe_int (nomark _))))) (pss_one ps_continue) pss_nil)
      (pss_cons (ps_set (i := 9) sc_lw_main.nd rfl (Or.inl rfl) (pe_call G_lw_told (hr.mono (by decide)) (by rfl) T.m_lw_told T.F_lw_told.kp T.b_lw_told .nil pass0 (pa_cons (pv 7) pa_nil)))
      (pss_cons (ps_if (PW.pt (pw_and (pt_val (pe_callB call_isi (by rfl) T.n_isinstance (by decide +kernel) (pa_cons (pv 8) (pa_cons (pe_bltn (v := .ty "int") (u := .type "int") (by rfl) T.n_int (by decide +kernel) rfl) pa_nil)))) (pw_and1 (pt_cmpR op_ne (pe_callB GX.cr_repI (by rfl) T.n_repr (by decide +kernel) (pa_cons (pv 9) pa_nil)) (pe_callB GX.cr_repI (by rfl) T.n_repr (by decide +kernel) (pa_cons (pv 8) pa_nil)) (nomark _))))) (pss_one (ps_ret pe_bl)) pss_nil)
      (pss_one (ps_if (PW.pt (pw_and (pt_val (pe_callB call_isi (by rfl) T.n_isinstance (by decide +kernel) (pa_cons (pv 8) (pa_cons (pe_bltn (v := .ty "list") (u := .type "list") (by rfl) T.n_list (by decide +kernel) rfl) pa_nil)))) (pw_and1 (PW.pt (pw_or (pt_val (pe_callB call_isi (by rfl) T.n_isinstance (by decide +kernel) (pa_cons (pv 9) (pa_cons (pe_bltn (v := .ty "int") (u := .type "int") (by rfl) T.n_int (by decide +kernel) rfl) pa_nil)))) (pw_or1 (pt_cmpR (GX.op_ownNe G_Room_eq (hr.mono (by decide)) ⟨T.mt_Room_eq.1, T.mt_Room_eq.2⟩ T.nn_Room T.b_Room_eq pass0) (pv 9) (pe_call G_lw_made (hr.mono (by decide)) (by rfl) T.m_lw_made T.F_lw_made.kp T.b_lw_made .nil pass0 (pa_cons (pv 8) pa_nil)) (nomark _)))))))) (pss_one (ps_ret pe_bl)) pss_nil))))))))))))
      (pss_cons (ps_set (i := 10) sc_lw_main.nd rfl (Or.inl rfl) (pe_call G_lw_value (hr.mono (by decide)) (by rfl) T.m_lw_value T.F_lw_value.kp T.b_lw_value .nil pass0 (pa_cons (pv 2) pa_nil)))
      (pss_one (ps_if (PW.pt (pw_or (PW.pt (pw_and (pt_not (pt_val (pe_callB call_isi (by rfl) T.n_isinstance (by decide +kernel) (pa_cons (pv 10) (pa_cons (pe_bltn (v := .ty "str") (u := .type "str") (by rfl) T.n_str (by decide +kernel) rfl) pa_nil))))) (pw_and1 (pt_cmpR op_ne (pe_callB GX.cr_repI (by rfl) T.n_repr (by decide +kernel) (pa_cons (pe_call G_lw_told (hr.mono (by decide)) (by rfl) T.m_lw_told T.F_lw_told.kp T.b_lw_told .nil pass0 (pa_cons (pv 10) pa_nil)) pa_nil)) pe_str (nomark _))))) (pw_or1 (pt_cmpR op_ne (pe_callB GX.cr_repI (by rfl) T.n_repr (by decide +kernel) (pa_cons (pe_call G_lw_told (hr.mono (by decide)) (by rfl) T.m_lw_told T.F_lw_told.kp T.b_lw_told .nil pass0 (pa_cons pe_str pa_nil)) pa_nil)) pe_str (nomark _))))) (pss_one (ps_ret pe_bl)) pss_nil))))))
      (pss_cons (ps_if (pt_cmpR (GX.op_ownNe G_Room_eq (hr.mono (by decide)) ⟨T.mt_Room_eq.1, T.mt_Room_eq.2⟩ T.nn_Room T.b_Room_eq pass0) (ClX.pe_cmeth (pe_glob (v := .ref a.C_Room) rfl T.m_Room rfl) T.cr_Room T.cm_Room_read (FnOk.raw G_Room_read T.b_Room_read .nil) (hr.mono (by decide)) pass0 (pa_cons pe_str pa_nil)) (pe_make T.mk_Room G_Room_init (hr.mono (by decide)) (by rfl) T.m_Room T.b_Room_init .nil pass0 (pa_cons (pe_lst (pa_cons (pe_make T.mk_Rule G_Rule_init (hr.mono (by decide)) (by rfl) T.m_Rule T.b_Rule_init .nil pass0 (pa_cons pe_str (pa_cons (pe_lst (pa_cons pe_str pa_nil)) pa_nil))) pa_nil)) pa_nil)) (nomark _)) (pss_one (ps_ret pe_bl)) pss_nil)
      (pss_one (ps_ret (pe_and (pe_cmpR (GX.op_ownEq G_Room_eq (hr.mono (by decide)) ⟨T.mt_Room_eq.1, T.mt_Room_eq.2⟩ T.b_Room_eq pass0) (ClX.pe_cmeth (pe_glob (v := .ref a.C_Room) rfl T.m_Room rfl) T.cr_Room T.cm_Room_read (FnOk.raw G_Room_read T.b_Room_read .nil) (hr.mono (by decide)) pass0 (pa_cons pe_str pa_nil)) (pe_make0 T.mk_Room G_Room_init (hr.mono (by decide)) (by rfl) T.m_Room B_Room_init_1 V_Room_init_1 pass0) (nomark _)) (pe_one (pe_cmpR op_eq (pe_callB GX.cr_repI (by rfl) T.n_repr (by decide +kernel) (pa_cons (pe_call G_lw_told (hr.mono (by decide)) (by rfl) T.m_lw_told T.F_lw_told.kp T.b_lw_told .nil pass0 (pa_cons pe_str pa_nil)) pa_nil)) pe_str (nomark _)))))))), entR (n := 12) ex al rfl q ?_⟩
    walk_at "ent"
    refine xs_seq <| xs_for (vs := [1]) (xi_rng1 ?_)
    walk_at "xs"
    refine ⟨fun i δ => ∃ s1 s2 s3 s4 s5 s6 s7 s8 s9 s10 : S, δ = [.d (.scr scr), s1, s2, s3, s4, s5, s6, s7, s8, s9, s10, .no, .no], ⟨_, _, _, _, _, _, _, _, _, _, rfl⟩, ?_, ?_⟩
    · rintro i d δ1 hi ⟨s1, s2, s3, s4, s5, s6, s7, s8, s9, s10, rfl⟩
      obtain ⟨hi', rfl⟩ := rng_at hi
      have hi3 : i < 3 := by
        refine Nat.lt_of_lt_of_le hi' ?_
        split
        · split <;> omega
        · omega
      refine xg_name (by decide) (by decide) ?_
      refine xs_seq (xs_setO (by decide) (xr_call (fun _ => .nil) ?_))
      walk_at "xs"
      refine ⟨scr, 0 + (i : Int), 6, rfl, by omega, by omega, by omega, by omega, fun y hy => on_o ⟨by simp, ?_⟩⟩
      try dsimp only [List.set]
      refine xs_seq <| xs_for (vs := [3]) (xi_rng1 ?_)
      walk_at "xs"
      refine ⟨fun j δ => ∃ (y : OD) (s3 s4 s5 s6 s7 s8 s9 : S), δ = [.d (.scr scr), .d (.int (0 + i)), .own y, s3, s4, s5, s6, s7, s8, s9, s10, .no, .no] ∧ BoxD (4100 * j) y, ⟨_, _, _, _, _, _, _, _, rfl, hy.le (by omega)⟩, ?_, ?_⟩
      · rintro j d δ1 hj ⟨y, s3, s4, s5, s6, s7, s8, s9, rfl, hy⟩
        obtain ⟨hj', rfl⟩ := rng_at hj
        have hj8 : j < 8 := hj'
        refine xg_name (by decide) (by decide) ?_
        try dsimp only [List.set]
        refine xs_seq <| xs_setO (by decide) <| xr_callB (fun _ => .nil) ⟨_, rfl⟩ <| xa_cons <| xe_int <| xa_nil ⟨y, rfl, 4100 * j, rfl, by omega, by omega, hy, fun rs y1 rok7 rl hy1 => on_o ⟨by simp, ?_⟩⟩
        try dsimp only [List.set]
        have rok : ∀ r ∈ rs, ROk r := fun r hr => (rok7 r hr).ok
        refine xs_freeze (i := 4) (by decide) rfl ?_
        try dsimp only [List.set]
        refine xs_seq <| xs_set (by decide) <| xe_ofO <| xo_lc <| xi_list <| xe_var rfl ⟨_, .inl rfl, fun v hv => by simp at hv; rcases hv with rfl | rfl <;> rfl, by simp; omega, fun m acc δ => δ = [.d (.scr scr), .d (.int (0 + i)), .own y1, .d (.int (0 + j)), .d (.lst (rs.map ruleD)), s5, s6, s7, s8, s9, s10, .no, .no] ∧ acc = (((rs.take m).map partsT).map lineT).map .str, ⟨rfl, rfl⟩, ?_, ?_⟩
        · rintro m x acc δ1 bs hb hx ⟨rfl, rfl⟩
          obtain ⟨r, hr, rfl⟩ : ∃ r, rs[m]? = some r ∧ ruleD r = x := by simpa using hx
          have ok := rok r (List.mem_of_getElem? hr)
          have ol := ok.l
          have oks : ∀ w ∈ r.2, PyData.strOk w = true := fun w hw => (pool_ok w (ok.w w hw).1).2.2
          have pl := (parts_WsL ok).len
          have sz := sum_le (b := 4) (ws := partsT r) fun w hw => (wrd_blank w ((parts_WsL ok).mem w hw)).2.2.1
          refine xg_tup (by rfl) (xgs_cons (xg_name (by decide) (hb _ (by decide)) (xgs_cons (xg_name (by decide) (hb _ (by decide)) (xgs_nil ?_)))))
          try dsimp only [List.set]
          refine xt_yes <| if_tt <| xe_join <| xe_str ⟨_, rfl, xe_ofO <| xo_cat <| xe_ofO <| xo_cat <| xe_ofO <| xo_lst <| xa_cons <| xe_var rfl <| xa_nil ⟨by simp, _, rfl, xe_ofO <| xo_rep <| xe_ofO <| xo_lst <| xa_cons <| xe_str <| xa_nil ⟨by simp, _, rfl, xe_callIntB <| xe_neD <| xe_var rfl <| xe_tup <| xa_nil ⟨by simp, pla_strs _, rfl, shp_tup oks, shp_tup (ns := []) (by simp), _, rfl, ?_⟩⟩⟩⟩
          rw [show D.tup [] = .tup (([] : List Str).map .str) from rfl, eqv_tup, show (if (!decide (r.2 = [])) = true then (1 : Int) else 0) = ((if r.2 = [] then 0 else 1 : Nat) : Int) from by by_cases h : r.2 = [] <;> simp [h]]
          refine ⟨_, _, rfl, rfl, by split <;> decide, by simp, _, rfl, _, _, rfl, rfl, by simp; split <;> omega, _, rfl, xe_ofO <| xo_list <| xe_var rfl ⟨_, .inr rfl, _, rfl, _, _, rfl, rfl, by simp; split <;> omega, _, rfl, partsT r, .inl ?_, ?_, ?_, ?_⟩⟩
          · unfold partsT
            by_cases h : r.2 = []
            · simp [h]
            · simp [h]
          · have l2 : (" " : Str).length = 1 := by decide
            rw [l2]; omega
          · rfl
          · rw [GS.take_get hr]; simp; rfl
        rintro acc δ1 ⟨rfl, rfl⟩
        rw [List.length_map, List.take_length]
        have wl9 := parts_L rok7
        have wsr : ∀ ws ∈ rs.map partsT, Ws ws := fun ws hw => (wl9 ws hw).ws (by omega)
        refine ⟨_, rfl, ?_⟩
        try dsimp only [List.set]
        -- read what was made
        refine xs_seq <| xs_if <| xt_or <| xt_test <| xe_ownNe (c := 1) rfl <| xr_cmeth <| xa_cons <| xe_join <| xe_str ⟨_, rfl, xe_var rfl ⟨(rs.map partsT).map lineT, .inl rfl, lines_size wsr (by simp; omega), xa_nil ⟨rs.map partsT, rs, rfl, parts_ne rok7, by simp; omega, wsr, parts_rules rok, fun hl1 ns hns => on_d ?_⟩⟩⟩
        refine xr_call (fun _ => .nil) <| xa_cons <| xe_var rfl <| xa_nil ⟨rs, rfl, rl, rok, fun _ ns2 hns2 => on_d ⟨_, rfl, ⟨_, .obj T.isC_Room, nfm⟩, rs.map lotR, ns, _, rfl, .inl ⟨rs.map lotR, ns2, rfl, lots_str rok hl1, lots_str rok hl1, _, rfl, _, rfl, ?_⟩⟩⟩
        rw [decide_eq_true rfl]
        have rok7' : ∀ r ∈ rs.map lotR, ROk7 r := fun q hq => by
          obtain ⟨r, hr, rfl⟩ := List.mem_map.mp hq
          exact (rok7 r hr).lot (hl1 r hr)
        have rok' : ∀ r ∈ rs.map lotR, ROk r := fun r hr => (rok7' r hr).ok
        have wsr' : ∀ ws ∈ (rs.map lotR).map partsT, Ws ws := fun ws hw => (parts_L rok7' ws hw).ws (by omega)
        refine if_ff <| xt_test <| xe_ownNe (c := 1) rfl <| xr_cmeth <| xa_cons <| xr_call (fun _ => .nil) <| xa_cons <| xe_var rfl <| xa_nil ⟨rs, rfl, by omega, fun r hr => ⟨(rok r hr).l, fun w hw => ?_, _, hl1 r hr⟩, on_d <| xa_nil ⟨(rs.map lotR).map partsT, rs.map lotR, by rw [textL_W], parts_ne rok7', by simp; omega, wsr', parts_rules rok', fun hl3 ns3 hns3 => on_d ?_⟩⟩
        · rcases List.mem_cons.mp hw with rfl | hw
          · exact (rok r hr).n
          · exact ((rok r hr).w w hw).1
        have tw : (rs.map lotR).map lotR = rs.map lotR := by
          rw [List.map_map]
          exact List.map_congr_left fun r hr => lotR_lotR (hl1 r hr) (hl3 _ (List.mem_map.mpr ⟨r, hr, rfl⟩))
        rw [tw]
        refine xr_call (fun _ => .nil) <| xa_cons <| xe_var rfl <| xa_nil ⟨rs, rfl, rl, rok, fun _ ns4 hns4 => on_d ⟨_, rfl, ⟨_, .obj T.isC_Room, nfm⟩, rs.map lotR, ns3, _, rfl, .inl ⟨rs.map lotR, ns4, rfl, lots_str rok hl1, lots_str rok hl1, _, rfl, _, rfl, ?_⟩⟩⟩
        rw [decide_eq_true rfl]
        refine if_ff <| xs_next ?_
        -- lines with some things otherwise
        refine xs_seq <| xs_for (vs := [6]) (xi_rng1 <| xe_I0 <| xe_int <| xr_callB (fun _ => .nil) ⟨_, rfl⟩ <| xa_cons <| xe_int <| xa_nil ⟨y1, rfl, 3, 4100 * j + 4000, rfl, by decide, by decide, by omega, hy1, fun e y2 e0 e1 hy2 => on_d ⟨_, _, rfl, rfl, _, rfl, by omega, by omega, ?_⟩⟩)
        refine ⟨fun m δ => ∃ (y : OD) (ls : List (List Str)) (s6 : S), δ = [.d (.scr scr), .d (.int (0 + i)), .own y, .d (.int (0 + j)), .d (.lst (rs.map ruleD)), .d (linesD ls), s6, s7, s8, s9, s10, .no, .no] ∧ ls.length ≤ 42 ∧ (∀ ws ∈ ls, WsL (9 + m) ws) ∧ BoxD (4100 * j + 4001 + 4 * m) y, ⟨_, rs.map partsT, _, rfl, by simp; omega, wl9, hy2.le (by omega)⟩, ?_, ?_⟩
        · rintro m d δ1 hm ⟨y, ls, s6, rfl, h1, h2, h3⟩
          obtain ⟨hm', rfl⟩ := rng_at hm
          have hm3 : m < 3 := by omega
          refine xg_name (by decide) (by decide) ?_
          try dsimp only [List.set]
          refine xs_set (by decide) <| xr_if <| xt_test <| xe_neD <| xe_var rfl <| xe_ofO <| xo_lst <| xa_nil ⟨by simp, _, rfl, pla_strs _, rfl, shp_lst fun w hw => ?_, shp_lst (ns := []) (by simp), _, rfl, ?_⟩
          · obtain ⟨ws, hws, rfl⟩ := List.mem_map.mp hw
            exact lineT_ok ((h2 ws hws).ws (by omega))
          rw [show linesD ls = .lst ((ls.map lineT).map .str) from rfl, eqv_nil]
          by_cases z : ls = []
          · subst z
            refine if_ff <| xe_ofO <| xo_lst <| xa_cons <| xe_str <| xa_nil ⟨by simp, _, rfl, y, [[""]], .d (.int (0 + m)), ?_, by simp, fun ws hw => ?_, h3.le (by omega)⟩
            · rw [linesD_one]; rfl
            · rw [List.mem_singleton.mp hw]
              exact ⟨by simp, fun w hw => by rw [List.mem_singleton.mp hw]; decide +kernel, by simp; omega⟩
          · have : (!((ls.map lineT).map D.str).isEmpty) = true := by cases ls with | nil => exact absurd rfl z | cons _ _ => rfl
            rw [this]
            refine if_tt <| xr_callB (fun _ => .nil) ⟨_, rfl⟩ <| xa_cons <| xe_var rfl <| xa_nil ⟨y, rfl, ls, 9 + m, 4100 * j + 4001 + 4 * m, rfl, z, by omega, h2, by omega, by omega, by omega, by omega, h3, fun ls' y' l' w' hy' => on_d ⟨y', ls', .d (.int (0 + m)), rfl, by omega, w', hy'.le (by omega)⟩⟩
        rintro δ1 ⟨y3, ls, s6, rfl, h1, h2, h3⟩
        rw [rng_len] at h2 h3
        have hy3 : BoxD (4100 * j + 4020) y3 := h3.le (by omega)
        have hw : ∀ ws ∈ ls, Ws ws := fun ws hws => (h2 ws hws).ws (by omega)
        clear h2 h3
        refine xs_seq <| xs_set (by decide) <| xe_join <| xe_str ⟨_, rfl, xe_var rfl ⟨ls.map lineT, .inl rfl, lines_size hw (by omega), ?_⟩⟩
        rw [show Txt.join "\n" (ls.map lineT) = textW ls from rfl]
        obtain ⟨ls', et, hne, hl', hw'⟩ := norm_lines hw
        rw [et]
        have hl' : ls'.length ≤ 42 := by omega
        clear et
        try dsimp only [List.set]
        have again : ∀ (y : OD) (s3 s4 s5 s6 s7 s8 s9 : S), BoxD (4100 * j + 4020) y → ∃ (y' : OD) (s3' s4' s5' s6' s7' s8' s9' : S), ([.d (.scr scr), .d (.int (0 + i)), .own y, s3, s4, s5, s6, s7, s8, s9, s10, .no, .no] : List S) = [.d (.scr scr), .d (.int (0 + i)), .own y', s3', s4', s5', s6', s7', s8', s9', s10, .no, .no] ∧ BoxD (4100 * ((j + 1 : Nat) : Int)) y' := fun y s3 s4 s5 s6 s7 s8 s9 h => ⟨_, _, _, _, _, _, _, _, rfl, h.le (by omega)⟩
        cases hf : ls'.findIdx? badW with
        | some i' =>
          have li : i' < ls'.length := by
            have := List.findIdx?_eq_some_iff_getElem.mp hf
            exact this.1
          have sm : ∃ z : Int, (D.int i') = .int z ∧ z.natAbs.log2 < 1920 := ⟨i', rfl, small_log (by omega)⟩
          refine xs_seq <| xs_set (by decide) <| xr_call (fun _ => .nil) <| xa_cons <| xe_var rfl <| xa_nil ⟨ls', rfl, hne, by omega, hw', fun z hz => on_d ?_, fun rs' h => nomatch (no_bad h).symm.trans hf⟩
          obtain rfl : i' = z := Option.some.inj (hf.symm.trans hz)
          try dsimp only [List.set]
          refine xs_seq <| xs_if <| xt_and <| xt_test <| xe_isi <| xe_var rfl ⟨_, _, rfl, rfl, _, rfl, if_ff <| xs_next ?_⟩
          refine xs_seq <| xs_set (by decide) <| xr_call (fun _ => .nil) <| xa_cons <| xe_var rfl <| xa_nil <| .inr ⟨ls', rfl, hne, by omega, hw', fun z hz => on_d ?_, fun rs' h => nomatch (no_bad h).symm.trans hf⟩
          obtain rfl : i' = z := Option.some.inj (hf.symm.trans hz)
          try dsimp only [List.set]
          refine xs_seq <| xs_if <| xt_and <| xt_test <| xe_isi <| xe_var rfl ⟨_, _, rfl, rfl, _, rfl, if_tt ?_⟩
          refine xt_test <| xe_ne <| xe_repI <| xe_var rfl ⟨.inl sm, xe_repI <| xe_var rfl ⟨.inl sm, _, _, rfl, rfl, rfl, false, by rw [decide_eq_true rfl]; rfl, if_ff <| xs_next ?_⟩⟩
          exact xs_if <| xt_and <| xt_test <| xe_isi <| xe_var rfl ⟨_, _, rfl, rfl, _, rfl, if_ff <| xs_next (again _ _ _ _ _ _ _ _ hy3)⟩
        | none =>
          obtain ⟨qs, hq⟩ := rules_of hf
          have qok := rules_ok hw' hq
          have ql : qs.length = ls'.length := by have := congrArg List.length hq; simp at this; omega
          refine xs_seq <| xs_set (by decide) <| xr_call (fun _ => .nil) <| xa_cons <| xe_var rfl <| xa_nil ⟨ls', rfl, hne, by omega, hw', fun z hz => (nomatch hf.symm.trans hz), fun rs' h => on_d ?_⟩
          obtain rfl : qs = rs' := (List.map_inj_right fun _ _ e => Option.some.inj e).mp (hq.symm.trans h)
          try dsimp only [List.set]
          refine xs_seq <| xs_if <| xt_and <| xt_test <| xe_isi <| xe_var rfl ⟨_, _, rfl, rfl, _, rfl, if_tt ?_⟩
          refine xt_test <| xe_B0 <| xe_len <| xr_call (fun _ => .nil) <| xa_cons <| xe_var rfl <| xa_nil ⟨qs, rfl, by omega, qok, fun ys yl => on_d ⟨_, rfl, xe_int ⟨_, _, rfl, rfl, _, rfl, ite_b (fun _ => ?_) (fun _ => xs_next ?_)⟩⟩⟩
          · exact xs_cont (again _ _ _ _ _ _ _ _ hy3)
          refine xs_seq <| xs_set (by decide) <| xr_call (fun _ => .nil) <| xa_cons <| xe_var rfl <| xa_nil <| .inr ⟨ls', rfl, hne, by omega, hw', fun z hz => (nomatch hf.symm.trans hz), fun rs' h hl1 ns hns => on_d ?_⟩
          obtain rfl : qs = rs' := (List.map_inj_right fun _ _ e => Option.some.inj e).mp (hq.symm.trans h)
          try dsimp only [List.set]
          refine xs_seq <| xs_if <| xt_and <| xt_test <| xe_isi <| xe_var rfl ⟨_, _, rfl, rfl, _, rfl, if_ff <| xs_next ?_⟩
          refine xs_if <| xt_and <| xt_test <| xe_isi <| xe_var rfl ⟨_, _, rfl, rfl, _, rfl, if_tt ?_⟩
          refine xt_or <| xt_test <| xe_isiTyR <| xe_var rfl ⟨_, _, .obj T.isC_Room, T.ku_Room_int, _, rfl, if_ff ?_⟩
          refine xt_test <| xe_ownNe (c := 1) rfl <| xe_var rfl <| xr_call (fun _ => .nil) <| xa_cons <| xe_var rfl <| xa_nil ⟨qs, rfl, by omega, qok, fun _ ns2 hns2 => on_d ⟨_, rfl, ⟨_, .obj T.isC_Room, nfm⟩, qs.map lotR, ns, _, rfl, .inl ⟨qs.map lotR, ns2, rfl, lots_str qok hl1, lots_str qok hl1, _, rfl, _, rfl, ?_⟩⟩⟩
          rw [decide_eq_true rfl]
          exact if_ff <| xs_next (again _ _ _ _ _ _ _ _ hy3)
      · rintro δ1 ⟨y, s3, s4, s5, s6, s7, s8, s9, rfl, hy⟩
        rw [rng_len] at hy
        refine xs_seq <| xs_set (by decide) <| xr_callB (fun _ => .nil) ⟨_, rfl⟩ <| xa_nil ⟨y, rfl, 32800, rfl, by decide, hy.le (by omega), fun v y6 hv hy6 => on_d ?_⟩
        try dsimp only [List.set]
        have an : textW [["a"], [""]] = "a\n" := by decide +kernel
        have anw : ∀ ws ∈ ([["a"], [""]] : List (List Str)), Ws ws := Ws_dec (by decide +kernel)
        have anb : ([["a"], [""]] : List (List Str)).findIdx? badW = some 1 := by decide +kernel
        rcases val_kind v hv with ⟨n, hn, hk⟩ | ⟨s, rfl⟩
        · refine xs_if <| xt_or <| xt_and <| xt_not <| xt_test <| xe_isi <| xe_var rfl ⟨_, _, hn, hk, _, rfl, if_nf ?_⟩
          refine xt_test <| xe_ne <| xe_repI <| xr_call (fun _ => .nil) <| xa_cons <| xe_var rfl <| xa_nil <| .inl ⟨v, n, rfl, hn, hk, on_d ⟨.inl ⟨0, rfl, by decide⟩, xe_str ⟨_, _, rfl, rfl, rfl, false, by rw [rep0, decide_eq_true rfl]; rfl, if_ff ?_⟩⟩⟩
          refine xt_test <| xe_ne <| xe_repI <| xr_call (fun _ => .nil) <| xa_cons <| xe_str <| xa_nil <| .inr ⟨[["a"], [""]], by rw [an]; rfl, .inr (by rw [an]; decide), by decide, anw, fun z hz => on_d ?_, fun rs' h => nomatch (no_bad h).symm.trans anb⟩
          obtain rfl : 1 = z := Option.some.inj (anb.symm.trans hz)
          exact ⟨.inl ⟨1, rfl, by decide⟩, xe_str ⟨_, _, rfl, rfl, rfl, false, by rw [rep1, decide_eq_true rfl]; rfl, if_ff <| xs_next ⟨_, _, _, _, _, _, _, _, _, _, rfl⟩⟩⟩
        · refine xs_if <| xt_or <| xt_and <| xt_not <| xt_test <| xe_isi <| xe_var rfl ⟨_, _, rfl, rfl, _, rfl, if_nt <| if_ff ?_⟩
          refine xt_test <| xe_ne <| xe_repI <| xr_call (fun _ => .nil) <| xa_cons <| xe_str <| xa_nil <| .inr ⟨[["a"], [""]], by rw [an]; rfl, .inr (by rw [an]; decide), by decide, anw, fun z hz => on_d ?_, fun rs' h => nomatch (no_bad h).symm.trans anb⟩
          obtain rfl : 1 = z := Option.some.inj (anb.symm.trans hz)
          exact ⟨.inl ⟨1, rfl, by decide⟩, xe_str ⟨_, _, rfl, rfl, rfl, false, by rw [rep1, decide_eq_true rfl]; rfl, if_ff <| xs_next ⟨_, _, _, _, _, _, _, _, _, _, rfl⟩⟩⟩
    · rintro δ1 ⟨s1, s2, s3, s4, s5, s6, s7, s8, s9, s10, rfl⟩
      have b1 : textW [["a", "if", "b", "b"]] = "a if b b" := by decide +kernel
      have b1w : ∀ ws ∈ ([["a", "if", "b", "b"]] : List (List Str)), Ws ws := Ws_dec (by decide +kernel)
      have b1r : ([["a", "if", "b", "b"]] : List (List Str)).map ruleW = ([("a", ["b", "b"])] : List Rl).map some := by decide +kernel
      have b2 : textW [["", ""]] = " " := by decide +kernel
      have b2w : ∀ ws ∈ ([["", ""]] : List (List Str)), Ws ws := Ws_dec (by decide +kernel)
      have b2b : ([["", ""]] : List (List Str)).findIdx? badW = some 0 := by decide +kernel
      refine xs_seq <| xs_if <| xt_test <| xe_ownNe (c := 1) rfl <| xr_cmeth <| xa_cons <| xe_str <| xa_nil ⟨[["a", "if", "b", "b"]], [("a", ["b", "b"])], by rw [b1], .inr (by rw [b1]; decide), by decide, b1w, b1r, fun hl1 ns hns => on_d ?_⟩
      have lb : ∀ {l ws : List Str}, GS.IsLot l ws → (∀ x, x ∈ ws ↔ x = "b") → l = (["b"] : List Str) := fun h k => GS.Asc.uniq h.asc (by simp) fun x => by rw [h.mem, k, List.mem_singleton]
      have eb : ([("a", ["b", "b"])] : List Rl).map lotR = ([("a", ["b"])] : List Rl) := by
        have := hl1 ("a", ["b", "b"]) (by simp)
        have e : lotC (["b", "b"] : List Str) = (["b"] : List Str) := lb this (by simp)
        show [(("a" : Str), lotC (["b", "b"] : List Str))] = _
        rw [e]
      rw [eb]
      refine xe_make (c := 1) rfl (fun _ => .nil) <| xa_cons <| xe_ofO <| xo_lst <| xa_cons <| xe_make (c := 0) rfl (fun _ => .nil) <| xa_cons <| xe_str <| xa_cons <| xe_ofO <| xo_lst <| xa_cons <| xe_str <| xa_nil ⟨by simp, _, rfl, xa_nil ⟨"a", ["b"], _, rfl, rfl, .inl rfl, nm_pool (by decide), fun w hw => by rw [List.mem_singleton.mp hw]; exact ⟨nm_pool (by decide), by decide⟩, by simp, fun lot hlot => ⟨rfl, _, rfl, rfl, ?_⟩⟩⟩
      obtain rfl := lb hlot (by simp)
      refine xa_nil ⟨by simp, _, rfl, xa_nil ⟨[("a", ["b"])], rfl, .inl rfl, by simp, by simp, fun ns2 hns2 => ⟨rfl, _, rfl, rfl, ?_⟩⟩⟩
      have st : ∀ r ∈ ([("a", ["b"])] : List Rl), ∀ w ∈ r.2, PyData.strOk w = true := by decide +kernel
      refine ⟨_, rfl, ⟨_, .obj T.isC_Room, nfm⟩, [("a", ["b"])], ns, _, rfl, .inl ⟨[("a", ["b"])], ns2, rfl, st, st, _, rfl, _, rfl, ?_⟩⟩
      rw [decide_eq_true rfl]
      refine if_ff <| xs_next ?_
      refine xs_ret <| xe_andV <| xe_ownEq (c := 1) rfl <| xr_cmeth <| xa_cons <| xe_str <| xa_nil ⟨[], [], rfl, .inl rfl, by decide, by simp, rfl, fun _ ns3 hns3 => on_d ?_⟩
      refine xe_make (c := 1) (dds := [.tup []]) rfl e0 <| xa_nil ⟨[], rfl, .inr rfl, by decide, by simp, fun ns0 hns0 => ⟨rfl, _, rfl, rfl, ?_⟩⟩
      refine ⟨_, rfl, ⟨_, .obj T.isC_Room, nfm⟩, [], ns3, _, rfl, .inl ⟨[], ns0, rfl, by simp, by simp, _, rfl, _, rfl, ?_⟩⟩
      refine if_tt ?_
      refine xe_eq <| xe_repI <| xr_call (fun _ => .nil) <| xa_cons <| xe_str <| xa_nil <| .inr ⟨[["", ""]], by rw [b2]; rfl, .inr (by rw [b2]; decide), by decide, b2w, fun z hz => on_d ?_, fun rs' h => nomatch (no_bad h).symm.trans b2b⟩
      obtain rfl : 0 = z := Option.some.inj (b2b.symm.trans hz)
      refine ⟨.inl ⟨0, rfl, by decide⟩, xe_str ⟨_, _, rfl, rfl, rfl, ?_⟩⟩
      rw [rep0', decide_eq_true rfl]
      exact fin
def spLaw (K : PySem.W.Frag) : Sp := fun vs H Q _ => ∃ (p : Addr) (ns : List Int), vs = [.ref p] ∧ SqL K H p (ns.map V.int) ∧ ns.length ≤ 63 ∧ ∀ H', Q (.bl true) H'
theorem law_of {k : Nat} (h : FnOk P w K mg base CX0 k a.f_lw_main a.fd_lw_main ["_law_script"] (spR (ZZ K a) F_law)) : FnOk P w K mg base CX0 k a.f_lw_main a.fd_lw_main ["_law_script"] (spLaw K) := by
  refine FnOk.imp h fun vs H Q E h => ?_
  obtain ⟨p, ns, rfl, hs, hl, q⟩ := h
  refine ⟨H, [.scr ns], fun s => s = .d (.bl true), Ex.rfl', AtL.one (At.scr hs), ⟨ns, rfl, hl, rfl⟩, fun M' H' v s hs _ _ _ _ r => ?_⟩
  subst hs
  cases (r : At (ZZ K a) M' v (.bl true))
  exact q H'
theorem ok_main (T : Txt K mg a) : FnOk P w K mg base CX0 9 a.f_lw_main a.fd_lw_main ["_law_script"] (spLaw K) := by
  have t := ok_take (P := P) (w := w) (base := base) T
  have m := ok_mixed T t
  have n := ok_names T m
  have pk := ok_pick T t
  have i1 := ok_is_name (P := P) (w := w) (base := base) T
  have i2 := ok_is_sequence (P := P) (w := w) (base := base) T
  have i3 := ok_are_names T i1 i2
  have l2 := ok_lot_of (P := P) (w := w) (base := base) T
  have ro := ok_Room_init T i2 l2
  have rn := ok_Rule_initN (ok_Rule_initX T i1 i3 l2)
  have rd := ok_readX T (ok_read_ruleX T (ok_Rule_initXN T i1 i3 l2)) ro
  have tx := ok_ltext T (ok_lrule_text T (ok_lot (P := P) (w := w) (base := base) T))
  exact law_of (ok_law T (ok_box T) t (ok_rules T t m n) (ok_madeN T rn ro) tx (ok_readC rd) (ok_bent T t pk) (ok_due T (ok_rule_of T (ok_lis_name T))) (ok_people6 T) (ok_told T rd) (ok_value T pk) rn ro (ok_Room_eq T (ok_Rule_eq T)))
end
theorem all_mk {l : PySem.W.OpenLaw} {w : World} {K : PySem.W.Frag} {h : Heap} {mg : Str → Option Value} {fa : Addr} (X : K.In h) (G : h.Ns mainGlobals mg) (hfa : mg "law" = some (.ref fa))
    {C_Rule : Addr}
    {C_Room : Addr}
    {C_InvalidRule R0_InvalidRule : Addr} {nm_InvalidRule q_InvalidRule : Str} {N_InvalidRule : Addr} {bs_InvalidRule : List Value} {sn_InvalidRule : List Str} {sub_InvalidRule : List Value} {ab_InvalidRule : Bool} {col_InvalidRule : Option Bool} {dd_InvalidRule : Option Addr} {m0_InvalidRule m1_InvalidRule m2_InvalidRule m3_InvalidRule m5_InvalidRule : Option Value}
    {C_InvalidText R0_InvalidText : Addr} {nm_InvalidText q_InvalidText : Str} {N_InvalidText : Addr} {bs_InvalidText : List Value} {sn_InvalidText : List Str} {sub_InvalidText : List Value} {ab_InvalidText : Bool} {col_InvalidText : Option Bool} {dd_InvalidText : Option Addr} {m0_InvalidText m1_InvalidText m2_InvalidText m3_InvalidText m5_InvalidText : Option Value}
    {f_is_name : Addr} {od_is_name an_is_name : Option Addr} {sl_is_name : Array (Option Value)} {oc_is_name kV_is_name dc_is_name pm_is_name cd_is_name ct_is_name : Value}
    {f_is_sequence : Addr} {od_is_sequence an_is_sequence : Option Addr} {sl_is_sequence : Array (Option Value)} {oc_is_sequence kV_is_sequence dc_is_sequence pm_is_sequence cd_is_sequence ct_is_sequence : Value}
    {f_are_names : Addr} {od_are_names an_are_names : Option Addr} {sl_are_names : Array (Option Value)} {oc_are_names kV_are_names dc_are_names pm_are_names cd_are_names ct_are_names : Value}
    {f_lot_of : Addr} {od_lot_of an_lot_of : Option Addr} {sl_lot_of : Array (Option Value)} {oc_lot_of kV_lot_of dc_lot_of pm_lot_of cd_lot_of ct_lot_of : Value}
    {f_InvalidRule_init : Addr} {od_InvalidRule_init an_InvalidRule_init : Option Addr} {sl_InvalidRule_init : Array (Option Value)} {oc_InvalidRule_init kV_InvalidRule_init dc_InvalidRule_init pm_InvalidRule_init cd_InvalidRule_init ct_InvalidRule_init : Value}
    {f_InvalidText_init : Addr} {od_InvalidText_init an_InvalidText_init : Option Addr} {sl_InvalidText_init : Array (Option Value)} {oc_InvalidText_init kV_InvalidText_init dc_InvalidText_init pm_InvalidText_init cd_InvalidText_init ct_InvalidText_init : Value}
    {f_Rule_init : Addr} {od_Rule_init an_Rule_init : Option Addr} {sl_Rule_init : Array (Option Value)} {oc_Rule_init kV_Rule_init dc_Rule_init pm_Rule_init cd_Rule_init ct_Rule_init : Value}
    {T_Rule_init e_Rule_init : Addr} {oT_Rule_init : Value} {dT_Rule_init dE_Rule_init : Option Addr} {nT_Rule_init nE_Rule_init : Nat} {sT_Rule_init sE_Rule_init : Array (Option Value)}
    {f_Rule_eq : Addr} {od_Rule_eq an_Rule_eq : Option Addr} {sl_Rule_eq : Array (Option Value)} {oc_Rule_eq kV_Rule_eq dc_Rule_eq pm_Rule_eq cd_Rule_eq ct_Rule_eq : Value}
    {f_read_rule : Addr} {od_read_rule an_read_rule : Option Addr} {sl_read_rule : Array (Option Value)} {oc_read_rule kV_read_rule dc_read_rule pm_read_rule cd_read_rule ct_read_rule : Value}
    {f_Room_init : Addr} {od_Room_init an_Room_init : Option Addr} {sl_Room_init : Array (Option Value)} {oc_Room_init kV_Room_init dc_Room_init pm_Room_init cd_Room_init ct_Room_init : Value}
    {T_Room_init e_Room_init : Addr} {oT_Room_init : Value} {dT_Room_init dE_Room_init : Option Addr} {nT_Room_init nE_Room_init : Nat} {sT_Room_init sE_Room_init : Array (Option Value)}
    {f_Room_read : Addr} {od_Room_read an_Room_read : Option Addr} {sl_Room_read : Array (Option Value)} {oc_Room_read kV_Room_read dc_Room_read pm_Room_read cd_Room_read ct_Room_read : Value}
    {p_Room_read : Addr} {pr_Room_read : List Value}
    {f_Room_eq : Addr} {od_Room_eq an_Room_eq : Option Addr} {sl_Room_eq : Array (Option Value)} {oc_Room_eq kV_Room_eq dc_Room_eq pm_Room_eq cd_Room_eq ct_Room_eq : Value}
    {f_lw_box : Addr} {od_lw_box an_lw_box : Option Addr} {sl_lw_box : Array (Option Value)} {oc_lw_box kV_lw_box dc_lw_box pm_lw_box cd_lw_box ct_lw_box : Value}
    {f_lw_take : Addr} {od_lw_take an_lw_take : Option Addr} {sl_lw_take : Array (Option Value)} {oc_lw_take kV_lw_take dc_lw_take pm_lw_take cd_lw_take ct_lw_take : Value}
    {f_lw_pick : Addr} {od_lw_pick an_lw_pick : Option Addr} {sl_lw_pick : Array (Option Value)} {oc_lw_pick kV_lw_pick dc_lw_pick pm_lw_pick cd_lw_pick ct_lw_pick : Value}
    {f_lw_mixed : Addr} {od_lw_mixed an_lw_mixed : Option Addr} {sl_lw_mixed : Array (Option Value)} {oc_lw_mixed kV_lw_mixed dc_lw_mixed pm_lw_mixed cd_lw_mixed ct_lw_mixed : Value}
    {f_lw_value : Addr} {od_lw_value an_lw_value : Option Addr} {sl_lw_value : Array (Option Value)} {oc_lw_value kV_lw_value dc_lw_value pm_lw_value cd_lw_value ct_lw_value : Value}
    {f_lw_names : Addr} {od_lw_names an_lw_names : Option Addr} {sl_lw_names : Array (Option Value)} {oc_lw_names kV_lw_names dc_lw_names pm_lw_names cd_lw_names ct_lw_names : Value}
    {f_lw_rules : Addr} {od_lw_rules an_lw_rules : Option Addr} {sl_lw_rules : Array (Option Value)} {oc_lw_rules kV_lw_rules dc_lw_rules pm_lw_rules cd_lw_rules ct_lw_rules : Value}
    {f_lw_lot : Addr} {od_lw_lot an_lw_lot : Option Addr} {sl_lw_lot : Array (Option Value)} {oc_lw_lot kV_lw_lot dc_lw_lot pm_lw_lot cd_lw_lot ct_lw_lot : Value}
    {f_lw_made : Addr} {od_lw_made an_lw_made : Option Addr} {sl_lw_made : Array (Option Value)} {oc_lw_made kV_lw_made dc_lw_made pm_lw_made cd_lw_made ct_lw_made : Value}
    {f_lw_rule_text : Addr} {od_lw_rule_text an_lw_rule_text : Option Addr} {sl_lw_rule_text : Array (Option Value)} {oc_lw_rule_text kV_lw_rule_text dc_lw_rule_text pm_lw_rule_text cd_lw_rule_text ct_lw_rule_text : Value}
    {f_lw_text : Addr} {od_lw_text an_lw_text : Option Addr} {sl_lw_text : Array (Option Value)} {oc_lw_text kV_lw_text dc_lw_text pm_lw_text cd_lw_text ct_lw_text : Value}
    {f_lw_is_name : Addr} {od_lw_is_name an_lw_is_name : Option Addr} {sl_lw_is_name : Array (Option Value)} {oc_lw_is_name kV_lw_is_name dc_lw_is_name pm_lw_is_name cd_lw_is_name ct_lw_is_name : Value}
    {f_lw_rule_of : Addr} {od_lw_rule_of an_lw_rule_of : Option Addr} {sl_lw_rule_of : Array (Option Value)} {oc_lw_rule_of kV_lw_rule_of dc_lw_rule_of pm_lw_rule_of cd_lw_rule_of ct_lw_rule_of : Value}
    {f_lw_due : Addr} {od_lw_due an_lw_due : Option Addr} {sl_lw_due : Array (Option Value)} {oc_lw_due kV_lw_due dc_lw_due pm_lw_due cd_lw_due ct_lw_due : Value}
    {f_lw_told : Addr} {od_lw_told an_lw_told : Option Addr} {sl_lw_told : Array (Option Value)} {oc_lw_told kV_lw_told dc_lw_told pm_lw_told cd_lw_told ct_lw_told : Value}
    {f_lw_bent : Addr} {od_lw_bent an_lw_bent : Option Addr} {sl_lw_bent : Array (Option Value)} {oc_lw_bent kV_lw_bent dc_lw_bent pm_lw_bent cd_lw_bent ct_lw_bent : Value}
    {f_lw_people : Addr} {od_lw_people an_lw_people : Option Addr} {sl_lw_people : Array (Option Value)} {oc_lw_people kV_lw_people dc_lw_people pm_lw_people cd_lw_people ct_lw_people : Value}
    {f_lw_main : Addr} {od_lw_main an_lw_main : Option Addr} {sl_lw_main : Array (Option Value)} {oc_lw_main kV_lw_main dc_lw_main pm_lw_main cd_lw_main ct_lw_main : Value}
    {tk_LETTERS : Tok}
    (aC_Rule : PySem.W.nsIn K mainGlobals "Rule" = some (some (.ref C_Rule)))
    (pg_Rule : PySem.W.plainGet K C_Rule Str.empty = true)
    (hd_Rule : PySem.W.hasDictIn K C_Rule = true)
    (po_Rule : PySem.W.plainOver K C_Rule = true)
    (sa_Rule : PySem.W.findIn K (.ref C_Rule) "__setattr__" = some (some (.builtin "object.__setattr__")))
    (mk_Rule : PySem.W.makesIn K C_Rule = true)
    (kc_Rule : PySem.W.keepIn K (.ref C_Rule) = true)
    (no_Rule_name : PySem.W.findIn K (.ref C_Rule) "name" = some none)
    (no_Rule_gone : PySem.W.findIn K (.ref C_Rule) "gone" = some none)
    (ha_Rule : PySem.W.findIn K (.ref C_Rule) "__class__" = some (some (.builtin "object.__class__")))
    (hn_Rule : PySem.W.specialIn K (.builtin "object.__class__") "__get__" = some (some (.builtin "getset_descriptor.__get__")))
    (htk_Rule : PySem.W.takesIn K (.builtin "object.__class__") = some true)
    (hm_Rule : PySem.W.mroIn K C_Rule (.type "object") = some true)
    (nd_Rule : PySem.W.findIn K (.ref C_Rule) "__ne__" = some (some (.builtin "object.__ne__")))
    (sx_Rule : PySem.W.subIn K (.type "str") (.ref C_Rule) = some false)
    (aC_Room : PySem.W.nsIn K mainGlobals "Room" = some (some (.ref C_Room)))
    (pg_Room : PySem.W.plainGet K C_Room Str.empty = true)
    (hd_Room : PySem.W.hasDictIn K C_Room = true)
    (po_Room : PySem.W.plainOver K C_Room = true)
    (sa_Room : PySem.W.findIn K (.ref C_Room) "__setattr__" = some (some (.builtin "object.__setattr__")))
    (mk_Room : PySem.W.makesIn K C_Room = true)
    (kc_Room : PySem.W.keepIn K (.ref C_Room) = true)
    (no_Room_rules : PySem.W.findIn K (.ref C_Room) "rules" = some none)
    (no_Room_names : PySem.W.findIn K (.ref C_Room) "names" = some none)
    (ha_Room : PySem.W.findIn K (.ref C_Room) "__class__" = some (some (.builtin "object.__class__")))
    (hn_Room : PySem.W.specialIn K (.builtin "object.__class__") "__get__" = some (some (.builtin "getset_descriptor.__get__")))
    (htk_Room : PySem.W.takesIn K (.builtin "object.__class__") = some true)
    (hm_Room : PySem.W.mroIn K C_Room (.type "object") = some true)
    (nd_Room : PySem.W.findIn K (.ref C_Room) "__ne__" = some (some (.builtin "object.__ne__")))
    (sx_Room : PySem.W.subIn K (.type "str") (.ref C_Room) = some false)
    (aC_InvalidRule : PySem.W.nsIn K mainGlobals "InvalidRule" = some (some (.ref C_InvalidRule)))
    (xL_InvalidRule : K.lookup C_InvalidRule = some (excClassObj nm_InvalidRule q_InvalidRule C_InvalidRule N_InvalidRule bs_InvalidRule [.ref R0_InvalidRule, .type "ValueError", .type "Exception", .type "BaseException", .type "object"] true sn_InvalidRule sub_InvalidRule ab_InvalidRule col_InvalidRule dd_InvalidRule m0_InvalidRule m1_InvalidRule m2_InvalidRule m3_InvalidRule m5_InvalidRule "ValueError.__new__"))
    (aC_InvalidText : PySem.W.nsIn K mainGlobals "InvalidText" = some (some (.ref C_InvalidText)))
    (xL_InvalidText : K.lookup C_InvalidText = some (excClassObj nm_InvalidText q_InvalidText C_InvalidText N_InvalidText bs_InvalidText [.ref R0_InvalidText, .type "ValueError", .type "Exception", .type "BaseException", .type "object"] true sn_InvalidText sub_InvalidText ab_InvalidText col_InvalidText dd_InvalidText m0_InvalidText m1_InvalidText m2_InvalidText m3_InvalidText m5_InvalidText "ValueError.__new__"))
    (sb_NoneType_Room : PySem.W.subIn K (.type "NoneType") (.ref C_Room) = some false)
    (sb_bool_Room : PySem.W.subIn K (.type "bool") (.ref C_Room) = some false)
    (sb_int_Room : PySem.W.subIn K (.type "int") (.ref C_Room) = some false)
    (sb_str_Room : PySem.W.subIn K (.type "str") (.ref C_Room) = some false)
    (sb_list_Room : PySem.W.subIn K (.type "list") (.ref C_Room) = some false)
    (sb_tuple_Room : PySem.W.subIn K (.type "tuple") (.ref C_Room) = some false)
    (so_Rule_Room : PySem.W.subIn K (.ref C_Rule) (.ref C_Room) = some false)
    (so_Room_Room : PySem.W.subIn K (.ref C_Room) (.ref C_Room) = some true)
    (sb_NoneType_Rule : PySem.W.subIn K (.type "NoneType") (.ref C_Rule) = some false)
    (sb_bool_Rule : PySem.W.subIn K (.type "bool") (.ref C_Rule) = some false)
    (sb_int_Rule : PySem.W.subIn K (.type "int") (.ref C_Rule) = some false)
    (sb_str_Rule : PySem.W.subIn K (.type "str") (.ref C_Rule) = some false)
    (sb_list_Rule : PySem.W.subIn K (.type "list") (.ref C_Rule) = some false)
    (sb_tuple_Rule : PySem.W.subIn K (.type "tuple") (.ref C_Rule) = some false)
    (so_Rule_Rule : PySem.W.subIn K (.ref C_Rule) (.ref C_Rule) = some true)
    (so_Room_Rule : PySem.W.subIn K (.ref C_Room) (.ref C_Rule) = some false)
    (sl_Rule_int : PySem.W.subIn K (.ref C_Rule) (.type "int") = some false)
    (sl_Room_int : PySem.W.subIn K (.ref C_Room) (.type "int") = some false)
    (iL_Room : PySem.W.isClsIn K C_Room = true)
    (tL_Room : PySem.W.typeIn K (.ref C_Room) = some (.type "type"))
    (iL_Rule : PySem.W.isClsIn K C_Rule = true)
    (tL_Rule : PySem.W.typeIn K (.ref C_Rule) = some (.type "type"))
    (a_is_name : PySem.W.nsIn K mainGlobals "is_name" = some (some (.ref f_is_name)))
    (l_is_name : K.lookup f_is_name = some ⟨oc_is_name, od_is_name, .func (PySem.W.fnOf "is_name" "is_name" (defArgs s_is_name) (defBody s_is_name) (defScope s_is_name) .none kV_is_name dc_is_name pm_is_name an_is_name cd_is_name ct_is_name), sl_is_name⟩)
    (c_is_name : PySem.W.codeIn K cd_is_name "is_name" = true)
    (k_is_name : PySem.W.keepIn K (.ref f_is_name) = true)
    (a_is_sequence : PySem.W.nsIn K mainGlobals "is_sequence" = some (some (.ref f_is_sequence)))
    (l_is_sequence : K.lookup f_is_sequence = some ⟨oc_is_sequence, od_is_sequence, .func (PySem.W.fnOf "is_sequence" "is_sequence" (defArgs s_is_sequence) (defBody s_is_sequence) (defScope s_is_sequence) .none kV_is_sequence dc_is_sequence pm_is_sequence an_is_sequence cd_is_sequence ct_is_sequence), sl_is_sequence⟩)
    (c_is_sequence : PySem.W.codeIn K cd_is_sequence "is_sequence" = true)
    (k_is_sequence : PySem.W.keepIn K (.ref f_is_sequence) = true)
    (a_are_names : PySem.W.nsIn K mainGlobals "are_names" = some (some (.ref f_are_names)))
    (l_are_names : K.lookup f_are_names = some ⟨oc_are_names, od_are_names, .func (PySem.W.fnOf "are_names" "are_names" (defArgs s_are_names) (defBody s_are_names) (defScope s_are_names) .none kV_are_names dc_are_names pm_are_names an_are_names cd_are_names ct_are_names), sl_are_names⟩)
    (c_are_names : PySem.W.codeIn K cd_are_names "are_names" = true)
    (k_are_names : PySem.W.keepIn K (.ref f_are_names) = true)
    (a_lot_of : PySem.W.nsIn K mainGlobals "lot_of" = some (some (.ref f_lot_of)))
    (l_lot_of : K.lookup f_lot_of = some ⟨oc_lot_of, od_lot_of, .func (PySem.W.fnOf "lot_of" "lot_of" (defArgs s_lot_of) (defBody s_lot_of) (defScope s_lot_of) .none kV_lot_of dc_lot_of pm_lot_of an_lot_of cd_lot_of ct_lot_of), sl_lot_of⟩)
    (c_lot_of : PySem.W.codeIn K cd_lot_of "lot_of" = true)
    (k_lot_of : PySem.W.keepIn K (.ref f_lot_of) = true)
    (a_InvalidRule_init : PySem.W.findIn K (.ref C_InvalidRule) "__init__" = some (some (.ref f_InvalidRule_init)))
    (l_InvalidRule_init : K.lookup f_InvalidRule_init = some ⟨oc_InvalidRule_init, od_InvalidRule_init, .func (PySem.W.fnOf "__init__" "InvalidRule.__init__" (defArgs s_InvalidRule_init) (defBody s_InvalidRule_init) (defScope s_InvalidRule_init) .none kV_InvalidRule_init dc_InvalidRule_init pm_InvalidRule_init an_InvalidRule_init cd_InvalidRule_init ct_InvalidRule_init), sl_InvalidRule_init⟩)
    (c_InvalidRule_init : PySem.W.codeIn K cd_InvalidRule_init "InvalidRule.__init__" = true)
    (k_InvalidRule_init : PySem.W.keepIn K (.ref f_InvalidRule_init) = true)
    (a_InvalidText_init : PySem.W.findIn K (.ref C_InvalidText) "__init__" = some (some (.ref f_InvalidText_init)))
    (l_InvalidText_init : K.lookup f_InvalidText_init = some ⟨oc_InvalidText_init, od_InvalidText_init, .func (PySem.W.fnOf "__init__" "InvalidText.__init__" (defArgs s_InvalidText_init) (defBody s_InvalidText_init) (defScope s_InvalidText_init) .none kV_InvalidText_init dc_InvalidText_init pm_InvalidText_init an_InvalidText_init cd_InvalidText_init ct_InvalidText_init), sl_InvalidText_init⟩)
    (c_InvalidText_init : PySem.W.codeIn K cd_InvalidText_init "InvalidText.__init__" = true)
    (k_InvalidText_init : PySem.W.keepIn K (.ref f_InvalidText_init) = true)
    (a_Rule_init : PySem.W.findIn K (.ref C_Rule) "__init__" = some (some (.ref f_Rule_init)))
    (i_Rule_init : PySem.W.isFn K (.ref f_Rule_init) = true)
    (l_Rule_init : K.lookup f_Rule_init = some ⟨oc_Rule_init, od_Rule_init, .func (PySem.W.fnOf "__init__" "Rule.__init__" (defArgs s_Rule_init) (defBody s_Rule_init) (defScope s_Rule_init) (.ref T_Rule_init) kV_Rule_init dc_Rule_init pm_Rule_init an_Rule_init cd_Rule_init ct_Rule_init), sl_Rule_init⟩)
    (lT_Rule_init : K.lookup T_Rule_init = some ⟨oT_Rule_init, dT_Rule_init, .seq #[.ref e_Rule_init] nT_Rule_init, sT_Rule_init⟩)
    (lE_Rule_init : K.lookup e_Rule_init = some ⟨.type "tuple", dE_Rule_init, .seq #[] nE_Rule_init, sE_Rule_init⟩)
    (c_Rule_init : PySem.W.codeIn K cd_Rule_init "Rule.__init__" = true)
    (k_Rule_init : PySem.W.keepIn K (.ref f_Rule_init) = true)
    (a_Rule_eq : PySem.W.findIn K (.ref C_Rule) "__eq__" = some (some (.ref f_Rule_eq)))
    (i_Rule_eq : PySem.W.isFn K (.ref f_Rule_eq) = true)
    (l_Rule_eq : K.lookup f_Rule_eq = some ⟨oc_Rule_eq, od_Rule_eq, .func (PySem.W.fnOf "__eq__" "Rule.__eq__" (defArgs s_Rule_eq) (defBody s_Rule_eq) (defScope s_Rule_eq) .none kV_Rule_eq dc_Rule_eq pm_Rule_eq an_Rule_eq cd_Rule_eq ct_Rule_eq), sl_Rule_eq⟩)
    (c_Rule_eq : PySem.W.codeIn K cd_Rule_eq "Rule.__eq__" = true)
    (k_Rule_eq : PySem.W.keepIn K (.ref f_Rule_eq) = true)
    (a_read_rule : PySem.W.nsIn K mainGlobals "read_rule" = some (some (.ref f_read_rule)))
    (l_read_rule : K.lookup f_read_rule = some ⟨oc_read_rule, od_read_rule, .func (PySem.W.fnOf "read_rule" "read_rule" (defArgs s_read_rule) (defBody s_read_rule) (defScope s_read_rule) .none kV_read_rule dc_read_rule pm_read_rule an_read_rule cd_read_rule ct_read_rule), sl_read_rule⟩)
    (c_read_rule : PySem.W.codeIn K cd_read_rule "read_rule" = true)
    (k_read_rule : PySem.W.keepIn K (.ref f_read_rule) = true)
    (a_Room_init : PySem.W.findIn K (.ref C_Room) "__init__" = some (some (.ref f_Room_init)))
    (i_Room_init : PySem.W.isFn K (.ref f_Room_init) = true)
    (l_Room_init : K.lookup f_Room_init = some ⟨oc_Room_init, od_Room_init, .func (PySem.W.fnOf "__init__" "Room.__init__" (defArgs s_Room_init) (defBody s_Room_init) (defScope s_Room_init) (.ref T_Room_init) kV_Room_init dc_Room_init pm_Room_init an_Room_init cd_Room_init ct_Room_init), sl_Room_init⟩)
    (lT_Room_init : K.lookup T_Room_init = some ⟨oT_Room_init, dT_Room_init, .seq #[.ref e_Room_init] nT_Room_init, sT_Room_init⟩)
    (lE_Room_init : K.lookup e_Room_init = some ⟨.type "tuple", dE_Room_init, .seq #[] nE_Room_init, sE_Room_init⟩)
    (c_Room_init : PySem.W.codeIn K cd_Room_init "Room.__init__" = true)
    (k_Room_init : PySem.W.keepIn K (.ref f_Room_init) = true)
    (cmf_Room_read : PySem.W.findCls K (.ref C_Room) (.type "type") "read" = some (.get (.builtin "classmethod.__get__") (.ref p_Room_read) .none (.ref C_Room)))
    (cmr_Room_read : PySem.W.recIn K p_Room_read "classmethod" = some (.ref f_Room_read :: pr_Room_read))
    (cmi_Room_read : PySem.W.fnIn K f_Room_read = true)
    (crd_Room : PySem.W.readsIn K C_Room (.type "type") = true)
    (cga_Room : PySem.W.specialIn K (.ref C_Room) "__getattribute__" = some (some (.builtin "type.__getattribute__")))
    (l_Room_read : K.lookup f_Room_read = some ⟨oc_Room_read, od_Room_read, .func (PySem.W.fnOf "read" "Room.read" (defArgs s_Room_read) (defBody s_Room_read) (defScope s_Room_read) .none kV_Room_read dc_Room_read pm_Room_read an_Room_read cd_Room_read ct_Room_read), sl_Room_read⟩)
    (c_Room_read : PySem.W.codeIn K cd_Room_read "Room.read" = true)
    (k_Room_read : PySem.W.keepIn K (.ref f_Room_read) = true)
    (a_Room_eq : PySem.W.findIn K (.ref C_Room) "__eq__" = some (some (.ref f_Room_eq)))
    (i_Room_eq : PySem.W.isFn K (.ref f_Room_eq) = true)
    (l_Room_eq : K.lookup f_Room_eq = some ⟨oc_Room_eq, od_Room_eq, .func (PySem.W.fnOf "__eq__" "Room.__eq__" (defArgs s_Room_eq) (defBody s_Room_eq) (defScope s_Room_eq) .none kV_Room_eq dc_Room_eq pm_Room_eq an_Room_eq cd_Room_eq ct_Room_eq), sl_Room_eq⟩)
    (c_Room_eq : PySem.W.codeIn K cd_Room_eq "Room.__eq__" = true)
    (k_Room_eq : PySem.W.keepIn K (.ref f_Room_eq) = true)
    (a_lw_box : PySem.W.nsIn K mainGlobals "_law_box" = some (some (.ref f_lw_box)))
    (l_lw_box : K.lookup f_lw_box = some ⟨oc_lw_box, od_lw_box, .func (PySem.W.fnOf "_law_box" "_law_box" (defArgs s_lw_box) (defBody s_lw_box) (defScope s_lw_box) .none kV_lw_box dc_lw_box pm_lw_box an_lw_box cd_lw_box ct_lw_box), sl_lw_box⟩)
    (c_lw_box : PySem.W.codeIn K cd_lw_box "_law_box" = true)
    (k_lw_box : PySem.W.keepIn K (.ref f_lw_box) = true)
    (a_lw_take : PySem.W.nsIn K mainGlobals "_law_take" = some (some (.ref f_lw_take)))
    (l_lw_take : K.lookup f_lw_take = some ⟨oc_lw_take, od_lw_take, .func (PySem.W.fnOf "_law_take" "_law_take" (defArgs s_lw_take) (defBody s_lw_take) (defScope s_lw_take) .none kV_lw_take dc_lw_take pm_lw_take an_lw_take cd_lw_take ct_lw_take), sl_lw_take⟩)
    (c_lw_take : PySem.W.codeIn K cd_lw_take "_law_take" = true)
    (k_lw_take : PySem.W.keepIn K (.ref f_lw_take) = true)
    (a_lw_pick : PySem.W.nsIn K mainGlobals "_law_pick" = some (some (.ref f_lw_pick)))
    (l_lw_pick : K.lookup f_lw_pick = some ⟨oc_lw_pick, od_lw_pick, .func (PySem.W.fnOf "_law_pick" "_law_pick" (defArgs s_lw_pick) (defBody s_lw_pick) (defScope s_lw_pick) .none kV_lw_pick dc_lw_pick pm_lw_pick an_lw_pick cd_lw_pick ct_lw_pick), sl_lw_pick⟩)
    (c_lw_pick : PySem.W.codeIn K cd_lw_pick "_law_pick" = true)
    (k_lw_pick : PySem.W.keepIn K (.ref f_lw_pick) = true)
    (a_lw_mixed : PySem.W.nsIn K mainGlobals "_law_mixed" = some (some (.ref f_lw_mixed)))
    (l_lw_mixed : K.lookup f_lw_mixed = some ⟨oc_lw_mixed, od_lw_mixed, .func (PySem.W.fnOf "_law_mixed" "_law_mixed" (defArgs s_lw_mixed) (defBody s_lw_mixed) (defScope s_lw_mixed) .none kV_lw_mixed dc_lw_mixed pm_lw_mixed an_lw_mixed cd_lw_mixed ct_lw_mixed), sl_lw_mixed⟩)
    (c_lw_mixed : PySem.W.codeIn K cd_lw_mixed "_law_mixed" = true)
    (k_lw_mixed : PySem.W.keepIn K (.ref f_lw_mixed) = true)
    (a_lw_value : PySem.W.nsIn K mainGlobals "_law_value" = some (some (.ref f_lw_value)))
    (l_lw_value : K.lookup f_lw_value = some ⟨oc_lw_value, od_lw_value, .func (PySem.W.fnOf "_law_value" "_law_value" (defArgs s_lw_value) (defBody s_lw_value) (defScope s_lw_value) .none kV_lw_value dc_lw_value pm_lw_value an_lw_value cd_lw_value ct_lw_value), sl_lw_value⟩)
    (c_lw_value : PySem.W.codeIn K cd_lw_value "_law_value" = true)
    (k_lw_value : PySem.W.keepIn K (.ref f_lw_value) = true)
    (a_lw_names : PySem.W.nsIn K mainGlobals "_law_names" = some (some (.ref f_lw_names)))
    (l_lw_names : K.lookup f_lw_names = some ⟨oc_lw_names, od_lw_names, .func (PySem.W.fnOf "_law_names" "_law_names" (defArgs s_lw_names) (defBody s_lw_names) (defScope s_lw_names) .none kV_lw_names dc_lw_names pm_lw_names an_lw_names cd_lw_names ct_lw_names), sl_lw_names⟩)
    (c_lw_names : PySem.W.codeIn K cd_lw_names "_law_names" = true)
    (k_lw_names : PySem.W.keepIn K (.ref f_lw_names) = true)
    (a_lw_rules : PySem.W.nsIn K mainGlobals "_law_rules" = some (some (.ref f_lw_rules)))
    (l_lw_rules : K.lookup f_lw_rules = some ⟨oc_lw_rules, od_lw_rules, .func (PySem.W.fnOf "_law_rules" "_law_rules" (defArgs s_lw_rules) (defBody s_lw_rules) (defScope s_lw_rules) .none kV_lw_rules dc_lw_rules pm_lw_rules an_lw_rules cd_lw_rules ct_lw_rules), sl_lw_rules⟩)
    (c_lw_rules : PySem.W.codeIn K cd_lw_rules "_law_rules" = true)
    (k_lw_rules : PySem.W.keepIn K (.ref f_lw_rules) = true)
    (a_lw_lot : PySem.W.nsIn K mainGlobals "_law_lot" = some (some (.ref f_lw_lot)))
    (l_lw_lot : K.lookup f_lw_lot = some ⟨oc_lw_lot, od_lw_lot, .func (PySem.W.fnOf "_law_lot" "_law_lot" (defArgs s_lw_lot) (defBody s_lw_lot) (defScope s_lw_lot) .none kV_lw_lot dc_lw_lot pm_lw_lot an_lw_lot cd_lw_lot ct_lw_lot), sl_lw_lot⟩)
    (c_lw_lot : PySem.W.codeIn K cd_lw_lot "_law_lot" = true)
    (k_lw_lot : PySem.W.keepIn K (.ref f_lw_lot) = true)
    (a_lw_made : PySem.W.nsIn K mainGlobals "_law_made" = some (some (.ref f_lw_made)))
    (l_lw_made : K.lookup f_lw_made = some ⟨oc_lw_made, od_lw_made, .func (PySem.W.fnOf "_law_made" "_law_made" (defArgs s_lw_made) (defBody s_lw_made) (defScope s_lw_made) .none kV_lw_made dc_lw_made pm_lw_made an_lw_made cd_lw_made ct_lw_made), sl_lw_made⟩)
    (c_lw_made : PySem.W.codeIn K cd_lw_made "_law_made" = true)
    (k_lw_made : PySem.W.keepIn K (.ref f_lw_made) = true)
    (a_lw_rule_text : PySem.W.nsIn K mainGlobals "_law_rule_text" = some (some (.ref f_lw_rule_text)))
    (l_lw_rule_text : K.lookup f_lw_rule_text = some ⟨oc_lw_rule_text, od_lw_rule_text, .func (PySem.W.fnOf "_law_rule_text" "_law_rule_text" (defArgs s_lw_rule_text) (defBody s_lw_rule_text) (defScope s_lw_rule_text) .none kV_lw_rule_text dc_lw_rule_text pm_lw_rule_text an_lw_rule_text cd_lw_rule_text ct_lw_rule_text), sl_lw_rule_text⟩)
    (c_lw_rule_text : PySem.W.codeIn K cd_lw_rule_text "_law_rule_text" = true)
    (k_lw_rule_text : PySem.W.keepIn K (.ref f_lw_rule_text) = true)
    (a_lw_text : PySem.W.nsIn K mainGlobals "_law_text" = some (some (.ref f_lw_text)))
    (l_lw_text : K.lookup f_lw_text = some ⟨oc_lw_text, od_lw_text, .func (PySem.W.fnOf "_law_text" "_law_text" (defArgs s_lw_text) (defBody s_lw_text) (defScope s_lw_text) .none kV_lw_text dc_lw_text pm_lw_text an_lw_text cd_lw_text ct_lw_text), sl_lw_text⟩)
    (c_lw_text : PySem.W.codeIn K cd_lw_text "_law_text" = true)
    (k_lw_text : PySem.W.keepIn K (.ref f_lw_text) = true)
    (a_lw_is_name : PySem.W.nsIn K mainGlobals "_law_is_name" = some (some (.ref f_lw_is_name)))
    (l_lw_is_name : K.lookup f_lw_is_name = some ⟨oc_lw_is_name, od_lw_is_name, .func (PySem.W.fnOf "_law_is_name" "_law_is_name" (defArgs s_lw_is_name) (defBody s_lw_is_name) (defScope s_lw_is_name) .none kV_lw_is_name dc_lw_is_name pm_lw_is_name an_lw_is_name cd_lw_is_name ct_lw_is_name), sl_lw_is_name⟩)
    (c_lw_is_name : PySem.W.codeIn K cd_lw_is_name "_law_is_name" = true)
    (k_lw_is_name : PySem.W.keepIn K (.ref f_lw_is_name) = true)
    (a_lw_rule_of : PySem.W.nsIn K mainGlobals "_law_rule_of" = some (some (.ref f_lw_rule_of)))
    (l_lw_rule_of : K.lookup f_lw_rule_of = some ⟨oc_lw_rule_of, od_lw_rule_of, .func (PySem.W.fnOf "_law_rule_of" "_law_rule_of" (defArgs s_lw_rule_of) (defBody s_lw_rule_of) (defScope s_lw_rule_of) .none kV_lw_rule_of dc_lw_rule_of pm_lw_rule_of an_lw_rule_of cd_lw_rule_of ct_lw_rule_of), sl_lw_rule_of⟩)
    (c_lw_rule_of : PySem.W.codeIn K cd_lw_rule_of "_law_rule_of" = true)
    (k_lw_rule_of : PySem.W.keepIn K (.ref f_lw_rule_of) = true)
    (a_lw_due : PySem.W.nsIn K mainGlobals "_law_due" = some (some (.ref f_lw_due)))
    (l_lw_due : K.lookup f_lw_due = some ⟨oc_lw_due, od_lw_due, .func (PySem.W.fnOf "_law_due" "_law_due" (defArgs s_lw_due) (defBody s_lw_due) (defScope s_lw_due) .none kV_lw_due dc_lw_due pm_lw_due an_lw_due cd_lw_due ct_lw_due), sl_lw_due⟩)
    (c_lw_due : PySem.W.codeIn K cd_lw_due "_law_due" = true)
    (k_lw_due : PySem.W.keepIn K (.ref f_lw_due) = true)
    (a_lw_told : PySem.W.nsIn K mainGlobals "_law_told" = some (some (.ref f_lw_told)))
    (l_lw_told : K.lookup f_lw_told = some ⟨oc_lw_told, od_lw_told, .func (PySem.W.fnOf "_law_told" "_law_told" (defArgs s_lw_told) (defBody s_lw_told) (defScope s_lw_told) .none kV_lw_told dc_lw_told pm_lw_told an_lw_told cd_lw_told ct_lw_told), sl_lw_told⟩)
    (c_lw_told : PySem.W.codeIn K cd_lw_told "_law_told" = true)
    (k_lw_told : PySem.W.keepIn K (.ref f_lw_told) = true)
    (a_lw_bent : PySem.W.nsIn K mainGlobals "_law_bent" = some (some (.ref f_lw_bent)))
    (l_lw_bent : K.lookup f_lw_bent = some ⟨oc_lw_bent, od_lw_bent, .func (PySem.W.fnOf "_law_bent" "_law_bent" (defArgs s_lw_bent) (defBody s_lw_bent) (defScope s_lw_bent) .none kV_lw_bent dc_lw_bent pm_lw_bent an_lw_bent cd_lw_bent ct_lw_bent), sl_lw_bent⟩)
    (c_lw_bent : PySem.W.codeIn K cd_lw_bent "_law_bent" = true)
    (k_lw_bent : PySem.W.keepIn K (.ref f_lw_bent) = true)
    (a_lw_people : PySem.W.nsIn K mainGlobals "_law_people" = some (some (.ref f_lw_people)))
    (l_lw_people : K.lookup f_lw_people = some ⟨oc_lw_people, od_lw_people, .func (PySem.W.fnOf "_law_people" "_law_people" (defArgs s_lw_people) (defBody s_lw_people) (defScope s_lw_people) .none kV_lw_people dc_lw_people pm_lw_people an_lw_people cd_lw_people ct_lw_people), sl_lw_people⟩)
    (c_lw_people : PySem.W.codeIn K cd_lw_people "_law_people" = true)
    (k_lw_people : PySem.W.keepIn K (.ref f_lw_people) = true)
    (a_lw_main : PySem.W.nsIn K mainGlobals "law" = some (some (.ref f_lw_main)))
    (l_lw_main : K.lookup f_lw_main = some ⟨oc_lw_main, od_lw_main, .func (PySem.W.fnOf "law" "law" (defArgs s_lw_main) (defBody s_lw_main) (defScope s_lw_main) .none kV_lw_main dc_lw_main pm_lw_main an_lw_main cd_lw_main ct_lw_main), sl_lw_main⟩)
    (c_lw_main : PySem.W.codeIn K cd_lw_main "law" = true)
    (k_lw_main : PySem.W.keepIn K (.ref f_lw_main) = true)
    (sn_Room_Rule : PySem.W.subIn K (.ref C_Room) (.ref C_Rule) = some false)
    (sn_Rule_Room : PySem.W.subIn K (.ref C_Rule) (.ref C_Room) = some false)
    (sa_InvalidRule : PySem.W.findIn K (.ref C_InvalidRule) "__setattr__" = some (some (.builtin "object.__setattr__")))
    (ga_InvalidRule : PySem.W.findIn K (.ref C_InvalidRule) "__getattribute__" = some (some (.builtin "BaseException.__getattribute__")))
    (gg_InvalidRule : PySem.W.findIn K (.ref C_InvalidRule) "__getattr__" = some none)
    (nb_InvalidRule : PySem.W.findIn K (.ref C_InvalidRule) "word" = some none)
    (tI_InvalidRule : PySem.W.typeIn K (.ref f_InvalidRule_init) = some (.type "function"))
    (kC_InvalidRule : PySem.W.keepIn K (.ref C_InvalidRule) = true)
    (eC_InvalidRule : PySem.W.subIn K (.ref C_InvalidRule) (.type "BaseException") = some true)
    (tC_InvalidRule : PySem.W.typeIn K (.ref C_InvalidRule) = some (.type "type"))
    (hC_InvalidRule : PySem.W.hasDictIn K C_InvalidRule = true)
    (sC_InvalidRule : PySem.W.subIn K (.ref C_InvalidRule) (.ref C_InvalidRule) = some true)
    (hA_InvalidRule : PySem.W.findIn K (.ref C_InvalidRule) "__class__" = some (some (.builtin "object.__class__")))
    (hN_InvalidRule : PySem.W.specialIn K (.builtin "object.__class__") "__get__" = some (some (.builtin "getset_descriptor.__get__")))
    (hT_InvalidRule : PySem.W.takesIn K (.builtin "object.__class__") = some true)
    (hM_InvalidRule : PySem.W.mroIn K C_InvalidRule (.type "object") = some true)
    (sa_InvalidText : PySem.W.findIn K (.ref C_InvalidText) "__setattr__" = some (some (.builtin "object.__setattr__")))
    (ga_InvalidText : PySem.W.findIn K (.ref C_InvalidText) "__getattribute__" = some (some (.builtin "BaseException.__getattribute__")))
    (gg_InvalidText : PySem.W.findIn K (.ref C_InvalidText) "__getattr__" = some none)
    (nb_InvalidText : PySem.W.findIn K (.ref C_InvalidText) "at" = some none)
    (tI_InvalidText : PySem.W.typeIn K (.ref f_InvalidText_init) = some (.type "function"))
    (kC_InvalidText : PySem.W.keepIn K (.ref C_InvalidText) = true)
    (eC_InvalidText : PySem.W.subIn K (.ref C_InvalidText) (.type "BaseException") = some true)
    (tC_InvalidText : PySem.W.typeIn K (.ref C_InvalidText) = some (.type "type"))
    (hC_InvalidText : PySem.W.hasDictIn K C_InvalidText = true)
    (sC_InvalidText : PySem.W.subIn K (.ref C_InvalidText) (.ref C_InvalidText) = some true)
    (hA_InvalidText : PySem.W.findIn K (.ref C_InvalidText) "__class__" = some (some (.builtin "object.__class__")))
    (hN_InvalidText : PySem.W.specialIn K (.builtin "object.__class__") "__get__" = some (some (.builtin "getset_descriptor.__get__")))
    (hT_InvalidText : PySem.W.takesIn K (.builtin "object.__class__") = some true)
    (hM_InvalidText : PySem.W.mroIn K C_InvalidText (.type "object") = some true)
    (n_abs : PySem.W.nsIn K mainGlobals "abs" = some none)
    (n_all : PySem.W.nsIn K mainGlobals "all" = some none)
    (n_enumerate : PySem.W.nsIn K mainGlobals "enumerate" = some none)
    (n_int : PySem.W.nsIn K mainGlobals "int" = some none)
    (n_isinstance : PySem.W.nsIn K mainGlobals "isinstance" = some none)
    (n_len : PySem.W.nsIn K mainGlobals "len" = some none)
    (n_list : PySem.W.nsIn K mainGlobals "list" = some none)
    (n_max : PySem.W.nsIn K mainGlobals "max" = some none)
    (n_min : PySem.W.nsIn K mainGlobals "min" = some none)
    (n_range : PySem.W.nsIn K mainGlobals "range" = some none)
    (n_repr : PySem.W.nsIn K mainGlobals "repr" = some none)
    (n_set : PySem.W.nsIn K mainGlobals "set" = some none)
    (n_sorted : PySem.W.nsIn K mainGlobals "sorted" = some none)
    (n_str : PySem.W.nsIn K mainGlobals "str" = some none)
    (n_tuple : PySem.W.nsIn K mainGlobals "tuple" = some none)
    (m_LETTERS : PySem.W.nsIn K mainGlobals "LETTERS" = some (some (.str "abcdefghijklmnopqrstuvwxyz" tk_LETTERS)))
    : ∃ a : Ads, a.f_lw_main = fa ∧ Txt K mg a ∧ (∀ (s : Shared) (v : Value), BindsTo s a.fd_lw_main ⟨[v], []⟩ [("_law_script", v)]) := by
  have e := hfa.symm.trans (PySem.W.mg_of X G a_lw_main)
  have e2 : f_lw_main = fa := by cases e; rfl
  refine ⟨⟨C_Rule, C_Room, C_InvalidRule, C_InvalidText, f_is_name, (PySem.W.fnOf "is_name" "is_name" (defArgs s_is_name) (defBody s_is_name) (defScope s_is_name) .none kV_is_name dc_is_name pm_is_name an_is_name cd_is_name ct_is_name), f_is_sequence, (PySem.W.fnOf "is_sequence" "is_sequence" (defArgs s_is_sequence) (defBody s_is_sequence) (defScope s_is_sequence) .none kV_is_sequence dc_is_sequence pm_is_sequence an_is_sequence cd_is_sequence ct_is_sequence), f_are_names, (PySem.W.fnOf "are_names" "are_names" (defArgs s_are_names) (defBody s_are_names) (defScope s_are_names) .none kV_are_names dc_are_names pm_are_names an_are_names cd_are_names ct_are_names), f_lot_of, (PySem.W.fnOf "lot_of" "lot_of" (defArgs s_lot_of) (defBody s_lot_of) (defScope s_lot_of) .none kV_lot_of dc_lot_of pm_lot_of an_lot_of cd_lot_of ct_lot_of), f_InvalidRule_init, (PySem.W.fnOf "__init__" "InvalidRule.__init__" (defArgs s_InvalidRule_init) (defBody s_InvalidRule_init) (defScope s_InvalidRule_init) .none kV_InvalidRule_init dc_InvalidRule_init pm_InvalidRule_init an_InvalidRule_init cd_InvalidRule_init ct_InvalidRule_init), f_InvalidText_init, (PySem.W.fnOf "__init__" "InvalidText.__init__" (defArgs s_InvalidText_init) (defBody s_InvalidText_init) (defScope s_InvalidText_init) .none kV_InvalidText_init dc_InvalidText_init pm_InvalidText_init an_InvalidText_init cd_InvalidText_init ct_InvalidText_init), f_Rule_init, (PySem.W.fnOf "__init__" "Rule.__init__" (defArgs s_Rule_init) (defBody s_Rule_init) (defScope s_Rule_init) (.ref T_Rule_init) kV_Rule_init dc_Rule_init pm_Rule_init an_Rule_init cd_Rule_init ct_Rule_init), e_Rule_init, f_Rule_eq, (PySem.W.fnOf "__eq__" "Rule.__eq__" (defArgs s_Rule_eq) (defBody s_Rule_eq) (defScope s_Rule_eq) .none kV_Rule_eq dc_Rule_eq pm_Rule_eq an_Rule_eq cd_Rule_eq ct_Rule_eq), f_read_rule, (PySem.W.fnOf "read_rule" "read_rule" (defArgs s_read_rule) (defBody s_read_rule) (defScope s_read_rule) .none kV_read_rule dc_read_rule pm_read_rule an_read_rule cd_read_rule ct_read_rule), f_Room_init, (PySem.W.fnOf "__init__" "Room.__init__" (defArgs s_Room_init) (defBody s_Room_init) (defScope s_Room_init) (.ref T_Room_init) kV_Room_init dc_Room_init pm_Room_init an_Room_init cd_Room_init ct_Room_init), e_Room_init, f_Room_read, (PySem.W.fnOf "read" "Room.read" (defArgs s_Room_read) (defBody s_Room_read) (defScope s_Room_read) .none kV_Room_read dc_Room_read pm_Room_read an_Room_read cd_Room_read ct_Room_read), p_Room_read, f_Room_eq, (PySem.W.fnOf "__eq__" "Room.__eq__" (defArgs s_Room_eq) (defBody s_Room_eq) (defScope s_Room_eq) .none kV_Room_eq dc_Room_eq pm_Room_eq an_Room_eq cd_Room_eq ct_Room_eq), f_lw_box, (PySem.W.fnOf "_law_box" "_law_box" (defArgs s_lw_box) (defBody s_lw_box) (defScope s_lw_box) .none kV_lw_box dc_lw_box pm_lw_box an_lw_box cd_lw_box ct_lw_box), f_lw_take, (PySem.W.fnOf "_law_take" "_law_take" (defArgs s_lw_take) (defBody s_lw_take) (defScope s_lw_take) .none kV_lw_take dc_lw_take pm_lw_take an_lw_take cd_lw_take ct_lw_take), f_lw_pick, (PySem.W.fnOf "_law_pick" "_law_pick" (defArgs s_lw_pick) (defBody s_lw_pick) (defScope s_lw_pick) .none kV_lw_pick dc_lw_pick pm_lw_pick an_lw_pick cd_lw_pick ct_lw_pick), f_lw_mixed, (PySem.W.fnOf "_law_mixed" "_law_mixed" (defArgs s_lw_mixed) (defBody s_lw_mixed) (defScope s_lw_mixed) .none kV_lw_mixed dc_lw_mixed pm_lw_mixed an_lw_mixed cd_lw_mixed ct_lw_mixed), f_lw_value, (PySem.W.fnOf "_law_value" "_law_value" (defArgs s_lw_value) (defBody s_lw_value) (defScope s_lw_value) .none kV_lw_value dc_lw_value pm_lw_value an_lw_value cd_lw_value ct_lw_value), f_lw_names, (PySem.W.fnOf "_law_names" "_law_names" (defArgs s_lw_names) (defBody s_lw_names) (defScope s_lw_names) .none kV_lw_names dc_lw_names pm_lw_names an_lw_names cd_lw_names ct_lw_names), f_lw_rules, (PySem.W.fnOf "_law_rules" "_law_rules" (defArgs s_lw_rules) (defBody s_lw_rules) (defScope s_lw_rules) .none kV_lw_rules dc_lw_rules pm_lw_rules an_lw_rules cd_lw_rules ct_lw_rules), f_lw_lot, (PySem.W.fnOf "_law_lot" "_law_lot" (defArgs s_lw_lot) (defBody s_lw_lot) (defScope s_lw_lot) .none kV_lw_lot dc_lw_lot pm_lw_lot an_lw_lot cd_lw_lot ct_lw_lot), f_lw_made, (PySem.W.fnOf "_law_made" "_law_made" (defArgs s_lw_made) (defBody s_lw_made) (defScope s_lw_made) .none kV_lw_made dc_lw_made pm_lw_made an_lw_made cd_lw_made ct_lw_made), f_lw_rule_text, (PySem.W.fnOf "_law_rule_text" "_law_rule_text" (defArgs s_lw_rule_text) (defBody s_lw_rule_text) (defScope s_lw_rule_text) .none kV_lw_rule_text dc_lw_rule_text pm_lw_rule_text an_lw_rule_text cd_lw_rule_text ct_lw_rule_text), f_lw_text, (PySem.W.fnOf "_law_text" "_law_text" (defArgs s_lw_text) (defBody s_lw_text) (defScope s_lw_text) .none kV_lw_text dc_lw_text pm_lw_text an_lw_text cd_lw_text ct_lw_text), f_lw_is_name, (PySem.W.fnOf "_law_is_name" "_law_is_name" (defArgs s_lw_is_name) (defBody s_lw_is_name) (defScope s_lw_is_name) .none kV_lw_is_name dc_lw_is_name pm_lw_is_name an_lw_is_name cd_lw_is_name ct_lw_is_name), f_lw_rule_of, (PySem.W.fnOf "_law_rule_of" "_law_rule_of" (defArgs s_lw_rule_of) (defBody s_lw_rule_of) (defScope s_lw_rule_of) .none kV_lw_rule_of dc_lw_rule_of pm_lw_rule_of an_lw_rule_of cd_lw_rule_of ct_lw_rule_of), f_lw_due, (PySem.W.fnOf "_law_due" "_law_due" (defArgs s_lw_due) (defBody s_lw_due) (defScope s_lw_due) .none kV_lw_due dc_lw_due pm_lw_due an_lw_due cd_lw_due ct_lw_due), f_lw_told, (PySem.W.fnOf "_law_told" "_law_told" (defArgs s_lw_told) (defBody s_lw_told) (defScope s_lw_told) .none kV_lw_told dc_lw_told pm_lw_told an_lw_told cd_lw_told ct_lw_told), f_lw_bent, (PySem.W.fnOf "_law_bent" "_law_bent" (defArgs s_lw_bent) (defBody s_lw_bent) (defScope s_lw_bent) .none kV_lw_bent dc_lw_bent pm_lw_bent an_lw_bent cd_lw_bent ct_lw_bent), f_lw_people, (PySem.W.fnOf "_law_people" "_law_people" (defArgs s_lw_people) (defBody s_lw_people) (defScope s_lw_people) .none kV_lw_people dc_lw_people pm_lw_people an_lw_people cd_lw_people ct_lw_people), f_lw_main, (PySem.W.fnOf "law" "law" (defArgs s_lw_main) (defBody s_lw_main) (defScope s_lw_main) .none kV_lw_main dc_lw_main pm_lw_main an_lw_main cd_lw_main ct_lw_main)⟩, e2, ?_, fun s v => .of_eq rfl⟩
  constructor
  · exact ⟨pg_Rule, hd_Rule, po_Rule, sa_Rule⟩
  · exact PySem.W.mg_of X G aC_Rule
  · exact ⟨mk_Rule, a_Rule_init, i_Rule_init, kc_Rule⟩
  · exact ⟨⟨pg_Rule, hd_Rule, po_Rule, sa_Rule⟩, ha_Rule, hn_Rule, htk_Rule, hm_Rule, by unfold PySem.W.kitOne; simp⟩
  · exact no_Rule_name
  · exact no_Rule_gone
  · exact ⟨nd_Rule, hm_Rule⟩
  · unfold PySem.W.notFirst
    rw [sx_Rule]
    simp
  · unfold PySem.W.notFirst
    rw [sn_Room_Rule]
    simp
  · exact ⟨pg_Room, hd_Room, po_Room, sa_Room⟩
  · exact PySem.W.mg_of X G aC_Room
  · exact ⟨mk_Room, a_Room_init, i_Room_init, kc_Room⟩
  · exact ⟨⟨pg_Room, hd_Room, po_Room, sa_Room⟩, ha_Room, hn_Room, htk_Room, hm_Room, by unfold PySem.W.kitOne; simp⟩
  · exact no_Room_rules
  · exact no_Room_names
  · exact ⟨nd_Room, hm_Room⟩
  · unfold PySem.W.notFirst
    rw [sx_Room]
    simp
  · unfold PySem.W.notFirst
    rw [sn_Rule_Room]
    simp
  · exact PySem.W.mg_of X G aC_InvalidRule
  · exact ⟨⟨nm_InvalidRule, q_InvalidRule, N_InvalidRule, bs_InvalidRule, _, sn_InvalidRule, sub_InvalidRule, ab_InvalidRule, col_InvalidRule, dd_InvalidRule, m0_InvalidRule, m1_InvalidRule, m2_InvalidRule, m3_InvalidRule, m5_InvalidRule, xL_InvalidRule, rfl⟩, sa_InvalidRule, eC_InvalidRule, tC_InvalidRule, kC_InvalidRule⟩
  · exact a_InvalidRule_init
  · exact tI_InvalidRule
  · exact nb_InvalidRule
  · exact ⟨ga_InvalidRule, gg_InvalidRule, eC_InvalidRule, hC_InvalidRule⟩
  · exact ⟨ga_InvalidRule, gg_InvalidRule, eC_InvalidRule, hC_InvalidRule, hA_InvalidRule, hN_InvalidRule, hT_InvalidRule, hM_InvalidRule⟩
  · exact PySem.W.exm_ref eC_InvalidRule hC_InvalidRule tC_InvalidRule sC_InvalidRule
  · exact PySem.W.mg_of X G aC_InvalidText
  · exact ⟨⟨nm_InvalidText, q_InvalidText, N_InvalidText, bs_InvalidText, _, sn_InvalidText, sub_InvalidText, ab_InvalidText, col_InvalidText, dd_InvalidText, m0_InvalidText, m1_InvalidText, m2_InvalidText, m3_InvalidText, m5_InvalidText, xL_InvalidText, rfl⟩, sa_InvalidText, eC_InvalidText, tC_InvalidText, kC_InvalidText⟩
  · exact a_InvalidText_init
  · exact tI_InvalidText
  · exact nb_InvalidText
  · exact ⟨ga_InvalidText, gg_InvalidText, eC_InvalidText, hC_InvalidText⟩
  · exact ⟨ga_InvalidText, gg_InvalidText, eC_InvalidText, hC_InvalidText, hA_InvalidText, hN_InvalidText, hT_InvalidText, hM_InvalidText⟩
  · exact PySem.W.exm_ref eC_InvalidText hC_InvalidText tC_InvalidText sC_InvalidText
  · intro n hn
    simp only [List.mem_cons, List.not_mem_nil, or_false] at hn
    rcases hn with rfl | rfl | rfl | rfl | rfl | rfl
    · exact GX.kit_tyref iL_Room tL_Room sb_NoneType_Room
    · exact GX.kit_tyref iL_Room tL_Room sb_bool_Room
    · exact GX.kit_tyref iL_Room tL_Room sb_int_Room
    · exact GX.kit_tyref iL_Room tL_Room sb_str_Room
    · exact GX.kit_tyref iL_Room tL_Room sb_list_Room
    · exact GX.kit_tyref iL_Room tL_Room sb_tuple_Room
  · exact GX.kit_ref iL_Room tL_Room so_Rule_Room so_Rule_Rule
  · exact GX.kit_ref iL_Room tL_Room so_Room_Room so_Room_Room
  · intro n hn
    simp only [List.mem_cons, List.not_mem_nil, or_false] at hn
    rcases hn with rfl | rfl | rfl | rfl | rfl | rfl
    · exact GX.kit_tyref iL_Rule tL_Rule sb_NoneType_Rule
    · exact GX.kit_tyref iL_Rule tL_Rule sb_bool_Rule
    · exact GX.kit_tyref iL_Rule tL_Rule sb_int_Rule
    · exact GX.kit_tyref iL_Rule tL_Rule sb_str_Rule
    · exact GX.kit_tyref iL_Rule tL_Rule sb_list_Rule
    · exact GX.kit_tyref iL_Rule tL_Rule sb_tuple_Rule
  · exact GX.kit_ref iL_Rule tL_Rule so_Rule_Rule so_Rule_Rule
  · exact GX.kit_ref iL_Rule tL_Rule so_Room_Rule so_Room_Room
  · exact GX.kit_refty (by decide +kernel) sl_Rule_int
  · exact GX.kit_refty (by decide +kernel) sl_Room_int
  · exact fun_mk (st := s_is_name) l_is_name c_is_name k_is_name
  · exact (fun_mk (st := s_is_name) l_is_name c_is_name k_is_name).binds (ps := ["value"]) fun _ _ _ _ _ _ us hl => match us, hl with | [_], _ => rfl
  · exact PySem.W.mg_of X G a_is_name
  · exact fun_mk (st := s_is_sequence) l_is_sequence c_is_sequence k_is_sequence
  · exact (fun_mk (st := s_is_sequence) l_is_sequence c_is_sequence k_is_sequence).binds (ps := ["value"]) fun _ _ _ _ _ _ us hl => match us, hl with | [_], _ => rfl
  · exact PySem.W.mg_of X G a_is_sequence
  · exact fun_mk (st := s_are_names) l_are_names c_are_names k_are_names
  · exact (fun_mk (st := s_are_names) l_are_names c_are_names k_are_names).binds (ps := ["value"]) fun _ _ _ _ _ _ us hl => match us, hl with | [_], _ => rfl
  · exact PySem.W.mg_of X G a_are_names
  · exact fun_mk (st := s_lot_of) l_lot_of c_lot_of k_lot_of
  · exact (fun_mk (st := s_lot_of) l_lot_of c_lot_of k_lot_of).binds (ps := ["names"]) fun _ _ _ _ _ _ us hl => match us, hl with | [_], _ => rfl
  · exact PySem.W.mg_of X G a_lot_of
  · exact fun_mk (st := s_InvalidRule_init) l_InvalidRule_init c_InvalidRule_init k_InvalidRule_init
  · exact (fun_mk (st := s_InvalidRule_init) l_InvalidRule_init c_InvalidRule_init k_InvalidRule_init).binds (ps := ["self", "word"]) fun _ _ _ _ _ _ us hl => match us, hl with | [_, _], _ => rfl
  · exact fun_mk (st := s_InvalidText_init) l_InvalidText_init c_InvalidText_init k_InvalidText_init
  · exact (fun_mk (st := s_InvalidText_init) l_InvalidText_init c_InvalidText_init k_InvalidText_init).binds (ps := ["self", "at"]) fun _ _ _ _ _ _ us hl => match us, hl with | [_, _], _ => rfl
  · exact (⟨⟨_, _, _, _, _, _, _, _, _, _, rfl, l_Rule_init, c_Rule_init, .inr ⟨by simp, _, _, [.ref e_Rule_init], _, rfl, lT_Rule_init, rfl, .cons rfl .nil⟩, .inl rfl⟩, k_Rule_init⟩ : FunD K _ _ _ _ _ [V.ref e_Rule_init] [] f_Rule_init _)
  · have F := (⟨⟨_, _, _, _, _, _, _, _, _, _, rfl, l_Rule_init, c_Rule_init, .inr ⟨by simp, _, _, [.ref e_Rule_init], _, rfl, lT_Rule_init, rfl, .cons rfl .nil⟩, .inl rfl⟩, k_Rule_init⟩ : FunD K _ _ _ _ _ [V.ref e_Rule_init] [] f_Rule_init _)
    obtain ⟨ds, v, b⟩ := F.binds1 (ps := ["self", "name", "gone"]) 3 1 (by simp) rfl (fun _ _ _ _ _ _ _ us its h1 h2 => by
      match us, h1, its, h2 with
      | [_, _, _], _, [_], _ => exact ⟨_, rfl, rfl⟩)
    cases v
    exact b
  · have F := (⟨⟨_, _, _, _, _, _, _, _, _, _, rfl, l_Rule_init, c_Rule_init, .inr ⟨by simp, _, _, [.ref e_Rule_init], _, rfl, lT_Rule_init, rfl, .cons rfl .nil⟩, .inl rfl⟩, k_Rule_init⟩ : FunD K _ _ _ _ _ [V.ref e_Rule_init] [] f_Rule_init _)
    exact F.binds1 (ps := ["self", "name", "gone"]) 2 0 (by simp) rfl (fun _ _ _ _ _ _ _ us its h1 h2 => by
      match us, h1, its, h2 with
      | [_, _], _, [_], _ => exact ⟨_, rfl, rfl⟩)
  · exact fun M => .inr ⟨_, #[], _, lE_Rule_init, rfl, rfl, Nat.zero_le _, .nil⟩
  · exact fun_mk (st := s_Rule_eq) l_Rule_eq c_Rule_eq k_Rule_eq
  · exact (fun_mk (st := s_Rule_eq) l_Rule_eq c_Rule_eq k_Rule_eq).binds (ps := ["self", "other"]) fun _ _ _ _ _ _ us hl => match us, hl with | [_, _], _ => rfl
  · exact ⟨a_Rule_eq, i_Rule_eq, k_Rule_eq⟩
  · exact fun_mk (st := s_read_rule) l_read_rule c_read_rule k_read_rule
  · exact (fun_mk (st := s_read_rule) l_read_rule c_read_rule k_read_rule).binds (ps := ["line"]) fun _ _ _ _ _ _ us hl => match us, hl with | [_], _ => rfl
  · exact PySem.W.mg_of X G a_read_rule
  · exact (⟨⟨_, _, _, _, _, _, _, _, _, _, rfl, l_Room_init, c_Room_init, .inr ⟨by simp, _, _, [.ref e_Room_init], _, rfl, lT_Room_init, rfl, .cons rfl .nil⟩, .inl rfl⟩, k_Room_init⟩ : FunD K _ _ _ _ _ [V.ref e_Room_init] [] f_Room_init _)
  · have F := (⟨⟨_, _, _, _, _, _, _, _, _, _, rfl, l_Room_init, c_Room_init, .inr ⟨by simp, _, _, [.ref e_Room_init], _, rfl, lT_Room_init, rfl, .cons rfl .nil⟩, .inl rfl⟩, k_Room_init⟩ : FunD K _ _ _ _ _ [V.ref e_Room_init] [] f_Room_init _)
    obtain ⟨ds, v, b⟩ := F.binds1 (ps := ["self", "rules"]) 2 1 (by simp) rfl (fun _ _ _ _ _ _ _ us its h1 h2 => by
      match us, h1, its, h2 with
      | [_, _], _, [_], _ => exact ⟨_, rfl, rfl⟩)
    cases v
    exact b
  · have F := (⟨⟨_, _, _, _, _, _, _, _, _, _, rfl, l_Room_init, c_Room_init, .inr ⟨by simp, _, _, [.ref e_Room_init], _, rfl, lT_Room_init, rfl, .cons rfl .nil⟩, .inl rfl⟩, k_Room_init⟩ : FunD K _ _ _ _ _ [V.ref e_Room_init] [] f_Room_init _)
    exact F.binds1 (ps := ["self", "rules"]) 1 0 (by simp) rfl (fun _ _ _ _ _ _ _ us its h1 h2 => by
      match us, h1, its, h2 with
      | [_], _, [_], _ => exact ⟨_, rfl, rfl⟩)
  · exact fun M => .inr ⟨_, #[], _, lE_Room_init, rfl, rfl, Nat.zero_le _, .nil⟩
  · exact fun_mk (st := s_Room_read) l_Room_read c_Room_read k_Room_read
  · exact (fun_mk (st := s_Room_read) l_Room_read c_Room_read k_Room_read).binds (ps := ["cls", "text"]) fun _ _ _ _ _ _ us hl => match us, hl with | [_, _], _ => rfl
  · exact ⟨cmf_Room_read, ⟨_, cmr_Room_read⟩, cmi_Room_read⟩
  · exact ⟨crd_Room, cga_Room⟩
  · exact fun_mk (st := s_Room_eq) l_Room_eq c_Room_eq k_Room_eq
  · exact (fun_mk (st := s_Room_eq) l_Room_eq c_Room_eq k_Room_eq).binds (ps := ["self", "other"]) fun _ _ _ _ _ _ us hl => match us, hl with | [_, _], _ => rfl
  · exact ⟨a_Room_eq, i_Room_eq, k_Room_eq⟩
  · exact fun_mk (st := s_lw_box) l_lw_box c_lw_box k_lw_box
  · exact (fun_mk (st := s_lw_box) l_lw_box c_lw_box k_lw_box).binds (ps := ["_law_script", "_law_k", "_law_own"]) fun _ _ _ _ _ _ us hl => match us, hl with | [_, _, _], _ => rfl
  · exact PySem.W.mg_of X G a_lw_box
  · exact fun_mk (st := s_lw_take) l_lw_take c_lw_take k_lw_take
  · exact (fun_mk (st := s_lw_take) l_lw_take c_lw_take k_lw_take).binds (ps := ["_law_box_here", "_law_bound"]) fun _ _ _ _ _ _ us hl => match us, hl with | [_, _], _ => rfl
  · exact PySem.W.mg_of X G a_lw_take
  · exact fun_mk (st := s_lw_pick) l_lw_pick c_lw_pick k_lw_pick
  · exact (fun_mk (st := s_lw_pick) l_lw_pick c_lw_pick k_lw_pick).binds (ps := ["_law_box_here", "_law_items"]) fun _ _ _ _ _ _ us hl => match us, hl with | [_, _], _ => rfl
  · exact PySem.W.mg_of X G a_lw_pick
  · exact fun_mk (st := s_lw_mixed) l_lw_mixed c_lw_mixed k_lw_mixed
  · exact (fun_mk (st := s_lw_mixed) l_lw_mixed c_lw_mixed k_lw_mixed).binds (ps := ["_law_box_here", "_law_items"]) fun _ _ _ _ _ _ us hl => match us, hl with | [_, _], _ => rfl
  · exact PySem.W.mg_of X G a_lw_mixed
  · exact fun_mk (st := s_lw_value) l_lw_value c_lw_value k_lw_value
  · exact (fun_mk (st := s_lw_value) l_lw_value c_lw_value k_lw_value).binds (ps := ["_law_box_here"]) fun _ _ _ _ _ _ us hl => match us, hl with | [_], _ => rfl
  · exact PySem.W.mg_of X G a_lw_value
  · exact fun_mk (st := s_lw_names) l_lw_names c_lw_names k_lw_names
  · exact (fun_mk (st := s_lw_names) l_lw_names c_lw_names k_lw_names).binds (ps := ["_law_box_here", "_law_bound"]) fun _ _ _ _ _ _ us hl => match us, hl with | [_, _], _ => rfl
  · exact PySem.W.mg_of X G a_lw_names
  · exact fun_mk (st := s_lw_rules) l_lw_rules c_lw_rules k_lw_rules
  · exact (fun_mk (st := s_lw_rules) l_lw_rules c_lw_rules k_lw_rules).binds (ps := ["_law_box_here", "_law_most"]) fun _ _ _ _ _ _ us hl => match us, hl with | [_, _], _ => rfl
  · exact PySem.W.mg_of X G a_lw_rules
  · exact fun_mk (st := s_lw_lot) l_lw_lot c_lw_lot k_lw_lot
  · exact (fun_mk (st := s_lw_lot) l_lw_lot c_lw_lot k_lw_lot).binds (ps := ["_law_some"]) fun _ _ _ _ _ _ us hl => match us, hl with | [_], _ => rfl
  · exact PySem.W.mg_of X G a_lw_lot
  · exact fun_mk (st := s_lw_made) l_lw_made c_lw_made k_lw_made
  · exact (fun_mk (st := s_lw_made) l_lw_made c_lw_made k_lw_made).binds (ps := ["_law_rules_here"]) fun _ _ _ _ _ _ us hl => match us, hl with | [_], _ => rfl
  · exact PySem.W.mg_of X G a_lw_made
  · exact fun_mk (st := s_lw_rule_text) l_lw_rule_text c_lw_rule_text k_lw_rule_text
  · exact (fun_mk (st := s_lw_rule_text) l_lw_rule_text c_lw_rule_text k_lw_rule_text).binds (ps := ["_law_rule"]) fun _ _ _ _ _ _ us hl => match us, hl with | [_], _ => rfl
  · exact PySem.W.mg_of X G a_lw_rule_text
  · exact fun_mk (st := s_lw_text) l_lw_text c_lw_text k_lw_text
  · exact (fun_mk (st := s_lw_text) l_lw_text c_lw_text k_lw_text).binds (ps := ["_law_rules_here"]) fun _ _ _ _ _ _ us hl => match us, hl with | [_], _ => rfl
  · exact PySem.W.mg_of X G a_lw_text
  · exact fun_mk (st := s_lw_is_name) l_lw_is_name c_lw_is_name k_lw_is_name
  · exact (fun_mk (st := s_lw_is_name) l_lw_is_name c_lw_is_name k_lw_is_name).binds (ps := ["_law_word"]) fun _ _ _ _ _ _ us hl => match us, hl with | [_], _ => rfl
  · exact PySem.W.mg_of X G a_lw_is_name
  · exact fun_mk (st := s_lw_rule_of) l_lw_rule_of c_lw_rule_of k_lw_rule_of
  · exact (fun_mk (st := s_lw_rule_of) l_lw_rule_of c_lw_rule_of k_lw_rule_of).binds (ps := ["_law_line"]) fun _ _ _ _ _ _ us hl => match us, hl with | [_], _ => rfl
  · exact PySem.W.mg_of X G a_lw_rule_of
  · exact fun_mk (st := s_lw_due) l_lw_due c_lw_due k_lw_due
  · exact (fun_mk (st := s_lw_due) l_lw_due c_lw_due k_lw_due).binds (ps := ["_law_text_here"]) fun _ _ _ _ _ _ us hl => match us, hl with | [_], _ => rfl
  · exact PySem.W.mg_of X G a_lw_due
  · exact fun_mk (st := s_lw_told) l_lw_told c_lw_told k_lw_told
  · exact (fun_mk (st := s_lw_told) l_lw_told c_lw_told k_lw_told).binds (ps := ["_law_text_here"]) fun _ _ _ _ _ _ us hl => match us, hl with | [_], _ => rfl
  · exact PySem.W.mg_of X G a_lw_told
  · exact fun_mk (st := s_lw_bent) l_lw_bent c_lw_bent k_lw_bent
  · exact (fun_mk (st := s_lw_bent) l_lw_bent c_lw_bent k_lw_bent).binds (ps := ["_law_box_here", "_law_lines"]) fun _ _ _ _ _ _ us hl => match us, hl with | [_, _], _ => rfl
  · exact PySem.W.mg_of X G a_lw_bent
  · exact fun_mk (st := s_lw_people) l_lw_people c_lw_people k_lw_people
  · exact (fun_mk (st := s_lw_people) l_lw_people c_lw_people k_lw_people).binds (ps := ["_law_rules_here"]) fun _ _ _ _ _ _ us hl => match us, hl with | [_], _ => rfl
  · exact PySem.W.mg_of X G a_lw_people
  · exact fun_mk (st := s_lw_main) l_lw_main c_lw_main k_lw_main
  · exact (fun_mk (st := s_lw_main) l_lw_main c_lw_main k_lw_main).binds (ps := ["_law_script"]) fun _ _ _ _ _ _ us hl => match us, hl with | [_], _ => rfl
  · exact PySem.W.mg_of X G a_lw_main
  · exact PySem.W.mg_none_of X G n_abs
  · exact PySem.W.mg_none_of X G n_all
  · exact PySem.W.mg_none_of X G n_enumerate
  · exact PySem.W.mg_none_of X G n_int
  · exact PySem.W.mg_none_of X G n_isinstance
  · exact PySem.W.mg_none_of X G n_len
  · exact PySem.W.mg_none_of X G n_list
  · exact PySem.W.mg_none_of X G n_max
  · exact PySem.W.mg_none_of X G n_min
  · exact PySem.W.mg_none_of X G n_range
  · exact PySem.W.mg_none_of X G n_repr
  · exact PySem.W.mg_none_of X G n_set
  · exact PySem.W.mg_none_of X G n_sorted
  · exact PySem.W.mg_none_of X G n_str
  · exact PySem.W.mg_none_of X G n_tuple
  · exact ⟨_, PySem.W.mg_of X G m_LETTERS, _, rfl⟩
theorem law_at {l : PySem.W.OpenLaw} {w : World} {K : PySem.W.Frag} {h : Heap} {mg : Str → Option Value} {fa : Addr} (X : K.In h) (G : h.Ns mainGlobals mg) (hfa : mg "law" = some (.ref fa))
    {C_Rule : Addr}
    {C_Room : Addr}
    {C_InvalidRule R0_InvalidRule : Addr} {nm_InvalidRule q_InvalidRule : Str} {N_InvalidRule : Addr} {bs_InvalidRule : List Value} {sn_InvalidRule : List Str} {sub_InvalidRule : List Value} {ab_InvalidRule : Bool} {col_InvalidRule : Option Bool} {dd_InvalidRule : Option Addr} {m0_InvalidRule m1_InvalidRule m2_InvalidRule m3_InvalidRule m5_InvalidRule : Option Value}
    {C_InvalidText R0_InvalidText : Addr} {nm_InvalidText q_InvalidText : Str} {N_InvalidText : Addr} {bs_InvalidText : List Value} {sn_InvalidText : List Str} {sub_InvalidText : List Value} {ab_InvalidText : Bool} {col_InvalidText : Option Bool} {dd_InvalidText : Option Addr} {m0_InvalidText m1_InvalidText m2_InvalidText m3_InvalidText m5_InvalidText : Option Value}
    {f_is_name : Addr} {od_is_name an_is_name : Option Addr} {sl_is_name : Array (Option Value)} {oc_is_name kV_is_name dc_is_name pm_is_name cd_is_name ct_is_name : Value}
    {f_is_sequence : Addr} {od_is_sequence an_is_sequence : Option Addr} {sl_is_sequence : Array (Option Value)} {oc_is_sequence kV_is_sequence dc_is_sequence pm_is_sequence cd_is_sequence ct_is_sequence : Value}
    {f_are_names : Addr} {od_are_names an_are_names : Option Addr} {sl_are_names : Array (Option Value)} {oc_are_names kV_are_names dc_are_names pm_are_names cd_are_names ct_are_names : Value}
    {f_lot_of : Addr} {od_lot_of an_lot_of : Option Addr} {sl_lot_of : Array (Option Value)} {oc_lot_of kV_lot_of dc_lot_of pm_lot_of cd_lot_of ct_lot_of : Value}
    {f_InvalidRule_init : Addr} {od_InvalidRule_init an_InvalidRule_init : Option Addr} {sl_InvalidRule_init : Array (Option Value)} {oc_InvalidRule_init kV_InvalidRule_init dc_InvalidRule_init pm_InvalidRule_init cd_InvalidRule_init ct_InvalidRule_init : Value}
    {f_InvalidText_init : Addr} {od_InvalidText_init an_InvalidText_init : Option Addr} {sl_InvalidText_init : Array (Option Value)} {oc_InvalidText_init kV_InvalidText_init dc_InvalidText_init pm_InvalidText_init cd_InvalidText_init ct_InvalidText_init : Value}
    {f_Rule_init : Addr} {od_Rule_init an_Rule_init : Option Addr} {sl_Rule_init : Array (Option Value)} {oc_Rule_init kV_Rule_init dc_Rule_init pm_Rule_init cd_Rule_init ct_Rule_init : Value}
    {T_Rule_init e_Rule_init : Addr} {oT_Rule_init : Value} {dT_Rule_init dE_Rule_init : Option Addr} {nT_Rule_init nE_Rule_init : Nat} {sT_Rule_init sE_Rule_init : Array (Option Value)}
    {f_Rule_eq : Addr} {od_Rule_eq an_Rule_eq : Option Addr} {sl_Rule_eq : Array (Option Value)} {oc_Rule_eq kV_Rule_eq dc_Rule_eq pm_Rule_eq cd_Rule_eq ct_Rule_eq : Value}
    {f_read_rule : Addr} {od_read_rule an_read_rule : Option Addr} {sl_read_rule : Array (Option Value)} {oc_read_rule kV_read_rule dc_read_rule pm_read_rule cd_read_rule ct_read_rule : Value}
    {f_Room_init : Addr} {od_Room_init an_Room_init : Option Addr} {sl_Room_init : Array (Option Value)} {oc_Room_init kV_Room_init dc_Room_init pm_Room_init cd_Room_init ct_Room_init : Value}
    {T_Room_init e_Room_init : Addr} {oT_Room_init : Value} {dT_Room_init dE_Room_init : Option Addr} {nT_Room_init nE_Room_init : Nat} {sT_Room_init sE_Room_init : Array (Option Value)}
    {f_Room_read : Addr} {od_Room_read an_Room_read : Option Addr} {sl_Room_read : Array (Option Value)} {oc_Room_read kV_Room_read dc_Room_read pm_Room_read cd_Room_read ct_Room_read : Value}
    {p_Room_read : Addr} {pr_Room_read : List Value}
    {f_Room_eq : Addr} {od_Room_eq an_Room_eq : Option Addr} {sl_Room_eq : Array (Option Value)} {oc_Room_eq kV_Room_eq dc_Room_eq pm_Room_eq cd_Room_eq ct_Room_eq : Value}
    {f_lw_box : Addr} {od_lw_box an_lw_box : Option Addr} {sl_lw_box : Array (Option Value)} {oc_lw_box kV_lw_box dc_lw_box pm_lw_box cd_lw_box ct_lw_box : Value}
    {f_lw_take : Addr} {od_lw_take an_lw_take : Option Addr} {sl_lw_take : Array (Option Value)} {oc_lw_take kV_lw_take dc_lw_take pm_lw_take cd_lw_take ct_lw_take : Value}
    {f_lw_pick : Addr} {od_lw_pick an_lw_pick : Option Addr} {sl_lw_pick : Array (Option Value)} {oc_lw_pick kV_lw_pick dc_lw_pick pm_lw_pick cd_lw_pick ct_lw_pick : Value}
    {f_lw_mixed : Addr} {od_lw_mixed an_lw_mixed : Option Addr} {sl_lw_mixed : Array (Option Value)} {oc_lw_mixed kV_lw_mixed dc_lw_mixed pm_lw_mixed cd_lw_mixed ct_lw_mixed : Value}
    {f_lw_value : Addr} {od_lw_value an_lw_value : Option Addr} {sl_lw_value : Array (Option Value)} {oc_lw_value kV_lw_value dc_lw_value pm_lw_value cd_lw_value ct_lw_value : Value}
    {f_lw_names : Addr} {od_lw_names an_lw_names : Option Addr} {sl_lw_names : Array (Option Value)} {oc_lw_names kV_lw_names dc_lw_names pm_lw_names cd_lw_names ct_lw_names : Value}
    {f_lw_rules : Addr} {od_lw_rules an_lw_rules : Option Addr} {sl_lw_rules : Array (Option Value)} {oc_lw_rules kV_lw_rules dc_lw_rules pm_lw_rules cd_lw_rules ct_lw_rules : Value}
    {f_lw_lot : Addr} {od_lw_lot an_lw_lot : Option Addr} {sl_lw_lot : Array (Option Value)} {oc_lw_lot kV_lw_lot dc_lw_lot pm_lw_lot cd_lw_lot ct_lw_lot : Value}
    {f_lw_made : Addr} {od_lw_made an_lw_made : Option Addr} {sl_lw_made : Array (Option Value)} {oc_lw_made kV_lw_made dc_lw_made pm_lw_made cd_lw_made ct_lw_made : Value}
    {f_lw_rule_text : Addr} {od_lw_rule_text an_lw_rule_text : Option Addr} {sl_lw_rule_text : Array (Option Value)} {oc_lw_rule_text kV_lw_rule_text dc_lw_rule_text pm_lw_rule_text cd_lw_rule_text ct_lw_rule_text : Value}
    {f_lw_text : Addr} {od_lw_text an_lw_text : Option Addr} {sl_lw_text : Array (Option Value)} {oc_lw_text kV_lw_text dc_lw_text pm_lw_text cd_lw_text ct_lw_text : Value}
    {f_lw_is_name : Addr} {od_lw_is_name an_lw_is_name : Option Addr} {sl_lw_is_name : Array (Option Value)} {oc_lw_is_name kV_lw_is_name dc_lw_is_name pm_lw_is_name cd_lw_is_name ct_lw_is_name : Value}
    {f_lw_rule_of : Addr} {od_lw_rule_of an_lw_rule_of : Option Addr} {sl_lw_rule_of : Array (Option Value)} {oc_lw_rule_of kV_lw_rule_of dc_lw_rule_of pm_lw_rule_of cd_lw_rule_of ct_lw_rule_of : Value}
    {f_lw_due : Addr} {od_lw_due an_lw_due : Option Addr} {sl_lw_due : Array (Option Value)} {oc_lw_due kV_lw_due dc_lw_due pm_lw_due cd_lw_due ct_lw_due : Value}
    {f_lw_told : Addr} {od_lw_told an_lw_told : Option Addr} {sl_lw_told : Array (Option Value)} {oc_lw_told kV_lw_told dc_lw_told pm_lw_told cd_lw_told ct_lw_told : Value}
    {f_lw_bent : Addr} {od_lw_bent an_lw_bent : Option Addr} {sl_lw_bent : Array (Option Value)} {oc_lw_bent kV_lw_bent dc_lw_bent pm_lw_bent cd_lw_bent ct_lw_bent : Value}
    {f_lw_people : Addr} {od_lw_people an_lw_people : Option Addr} {sl_lw_people : Array (Option Value)} {oc_lw_people kV_lw_people dc_lw_people pm_lw_people cd_lw_people ct_lw_people : Value}
    {f_lw_main : Addr} {od_lw_main an_lw_main : Option Addr} {sl_lw_main : Array (Option Value)} {oc_lw_main kV_lw_main dc_lw_main pm_lw_main cd_lw_main ct_lw_main : Value}
    {tk_LETTERS : Tok}
    (aC_Rule : PySem.W.nsIn K mainGlobals "Rule" = some (some (.ref C_Rule)))
    (pg_Rule : PySem.W.plainGet K C_Rule Str.empty = true)
    (hd_Rule : PySem.W.hasDictIn K C_Rule = true)
    (po_Rule : PySem.W.plainOver K C_Rule = true)
    (sa_Rule : PySem.W.findIn K (.ref C_Rule) "__setattr__" = some (some (.builtin "object.__setattr__")))
    (mk_Rule : PySem.W.makesIn K C_Rule = true)
    (kc_Rule : PySem.W.keepIn K (.ref C_Rule) = true)
    (no_Rule_name : PySem.W.findIn K (.ref C_Rule) "name" = some none)
    (no_Rule_gone : PySem.W.findIn K (.ref C_Rule) "gone" = some none)
    (ha_Rule : PySem.W.findIn K (.ref C_Rule) "__class__" = some (some (.builtin "object.__class__")))
    (hn_Rule : PySem.W.specialIn K (.builtin "object.__class__") "__get__" = some (some (.builtin "getset_descriptor.__get__")))
    (htk_Rule : PySem.W.takesIn K (.builtin "object.__class__") = some true)
    (hm_Rule : PySem.W.mroIn K C_Rule (.type "object") = some true)
    (nd_Rule : PySem.W.findIn K (.ref C_Rule) "__ne__" = some (some (.builtin "object.__ne__")))
    (sx_Rule : PySem.W.subIn K (.type "str") (.ref C_Rule) = some false)
    (aC_Room : PySem.W.nsIn K mainGlobals "Room" = some (some (.ref C_Room)))
    (pg_Room : PySem.W.plainGet K C_Room Str.empty = true)
    (hd_Room : PySem.W.hasDictIn K C_Room = true)
    (po_Room : PySem.W.plainOver K C_Room = true)
    (sa_Room : PySem.W.findIn K (.ref C_Room) "__setattr__" = some (some (.builtin "object.__setattr__")))
    (mk_Room : PySem.W.makesIn K C_Room = true)
    (kc_Room : PySem.W.keepIn K (.ref C_Room) = true)
    (no_Room_rules : PySem.W.findIn K (.ref C_Room) "rules" = some none)
    (no_Room_names : PySem.W.findIn K (.ref C_Room) "names" = some none)
    (ha_Room : PySem.W.findIn K (.ref C_Room) "__class__" = some (some (.builtin "object.__class__")))
    (hn_Room : PySem.W.specialIn K (.builtin "object.__class__") "__get__" = some (some (.builtin "getset_descriptor.__get__")))
    (htk_Room : PySem.W.takesIn K (.builtin "object.__class__") = some true)
    (hm_Room : PySem.W.mroIn K C_Room (.type "object") = some true)
    (nd_Room : PySem.W.findIn K (.ref C_Room) "__ne__" = some (some (.builtin "object.__ne__")))
    (sx_Room : PySem.W.subIn K (.type "str") (.ref C_Room) = some false)
    (aC_InvalidRule : PySem.W.nsIn K mainGlobals "InvalidRule" = some (some (.ref C_InvalidRule)))
    (xL_InvalidRule : K.lookup C_InvalidRule = some (excClassObj nm_InvalidRule q_InvalidRule C_InvalidRule N_InvalidRule bs_InvalidRule [.ref R0_InvalidRule, .type "ValueError", .type "Exception", .type "BaseException", .type "object"] true sn_InvalidRule sub_InvalidRule ab_InvalidRule col_InvalidRule dd_InvalidRule m0_InvalidRule m1_InvalidRule m2_InvalidRule m3_InvalidRule m5_InvalidRule "ValueError.__new__"))
    (aC_InvalidText : PySem.W.nsIn K mainGlobals "InvalidText" = some (some (.ref C_InvalidText)))
    (xL_InvalidText : K.lookup C_InvalidText = some (excClassObj nm_InvalidText q_InvalidText C_InvalidText N_InvalidText bs_InvalidText [.ref R0_InvalidText, .type "ValueError", .type "Exception", .type "BaseException", .type "object"] true sn_InvalidText sub_InvalidText ab_InvalidText col_InvalidText dd_InvalidText m0_InvalidText m1_InvalidText m2_InvalidText m3_InvalidText m5_InvalidText "ValueError.__new__"))
    (sb_NoneType_Room : PySem.W.subIn K (.type "NoneType") (.ref C_Room) = some false)
    (sb_bool_Room : PySem.W.subIn K (.type "bool") (.ref C_Room) = some false)
    (sb_int_Room : PySem.W.subIn K (.type "int") (.ref C_Room) = some false)
    (sb_str_Room : PySem.W.subIn K (.type "str") (.ref C_Room) = some false)
    (sb_list_Room : PySem.W.subIn K (.type "list") (.ref C_Room) = some false)
    (sb_tuple_Room : PySem.W.subIn K (.type "tuple") (.ref C_Room) = some false)
    (so_Rule_Room : PySem.W.subIn K (.ref C_Rule) (.ref C_Room) = some false)
    (so_Room_Room : PySem.W.subIn K (.ref C_Room) (.ref C_Room) = some true)
    (sb_NoneType_Rule : PySem.W.subIn K (.type "NoneType") (.ref C_Rule) = some false)
    (sb_bool_Rule : PySem.W.subIn K (.type "bool") (.ref C_Rule) = some false)
    (sb_int_Rule : PySem.W.subIn K (.type "int") (.ref C_Rule) = some false)
    (sb_str_Rule : PySem.W.subIn K (.type "str") (.ref C_Rule) = some false)
    (sb_list_Rule : PySem.W.subIn K (.type "list") (.ref C_Rule) = some false)
    (sb_tuple_Rule : PySem.W.subIn K (.type "tuple") (.ref C_Rule) = some false)
    (so_Rule_Rule : PySem.W.subIn K (.ref C_Rule) (.ref C_Rule) = some true)
    (so_Room_Rule : PySem.W.subIn K (.ref C_Room) (.ref C_Rule) = some false)
    (sl_Rule_int : PySem.W.subIn K (.ref C_Rule) (.type "int") = some false)
    (sl_Room_int : PySem.W.subIn K (.ref C_Room) (.type "int") = some false)
    (iL_Room : PySem.W.isClsIn K C_Room = true)
    (tL_Room : PySem.W.typeIn K (.ref C_Room) = some (.type "type"))
    (iL_Rule : PySem.W.isClsIn K C_Rule = true)
    (tL_Rule : PySem.W.typeIn K (.ref C_Rule) = some (.type "type"))
    (a_is_name : PySem.W.nsIn K mainGlobals "is_name" = some (some (.ref f_is_name)))
    (l_is_name : K.lookup f_is_name = some ⟨oc_is_name, od_is_name, .func (PySem.W.fnOf "is_name" "is_name" (defArgs s_is_name) (defBody s_is_name) (defScope s_is_name) .none kV_is_name dc_is_name pm_is_name an_is_name cd_is_name ct_is_name), sl_is_name⟩)
    (c_is_name : PySem.W.codeIn K cd_is_name "is_name" = true)
    (k_is_name : PySem.W.keepIn K (.ref f_is_name) = true)
    (a_is_sequence : PySem.W.nsIn K mainGlobals "is_sequence" = some (some (.ref f_is_sequence)))
    (l_is_sequence : K.lookup f_is_sequence = some ⟨oc_is_sequence, od_is_sequence, .func (PySem.W.fnOf "is_sequence" "is_sequence" (defArgs s_is_sequence) (defBody s_is_sequence) (defScope s_is_sequence) .none kV_is_sequence dc_is_sequence pm_is_sequence an_is_sequence cd_is_sequence ct_is_sequence), sl_is_sequence⟩)
    (c_is_sequence : PySem.W.codeIn K cd_is_sequence "is_sequence" = true)
    (k_is_sequence : PySem.W.keepIn K (.ref f_is_sequence) = true)
    (a_are_names : PySem.W.nsIn K mainGlobals "are_names" = some (some (.ref f_are_names)))
    (l_are_names : K.lookup f_are_names = some ⟨oc_are_names, od_are_names, .func (PySem.W.fnOf "are_names" "are_names" (defArgs s_are_names) (defBody s_are_names) (defScope s_are_names) .none kV_are_names dc_are_names pm_are_names an_are_names cd_are_names ct_are_names), sl_are_names⟩)
    (c_are_names : PySem.W.codeIn K cd_are_names "are_names" = true)
    (k_are_names : PySem.W.keepIn K (.ref f_are_names) = true)
    (a_lot_of : PySem.W.nsIn K mainGlobals "lot_of" = some (some (.ref f_lot_of)))
    (l_lot_of : K.lookup f_lot_of = some ⟨oc_lot_of, od_lot_of, .func (PySem.W.fnOf "lot_of" "lot_of" (defArgs s_lot_of) (defBody s_lot_of) (defScope s_lot_of) .none kV_lot_of dc_lot_of pm_lot_of an_lot_of cd_lot_of ct_lot_of), sl_lot_of⟩)
    (c_lot_of : PySem.W.codeIn K cd_lot_of "lot_of" = true)
    (k_lot_of : PySem.W.keepIn K (.ref f_lot_of) = true)
    (a_InvalidRule_init : PySem.W.findIn K (.ref C_InvalidRule) "__init__" = some (some (.ref f_InvalidRule_init)))
    (l_InvalidRule_init : K.lookup f_InvalidRule_init = some ⟨oc_InvalidRule_init, od_InvalidRule_init, .func (PySem.W.fnOf "__init__" "InvalidRule.__init__" (defArgs s_InvalidRule_init) (defBody s_InvalidRule_init) (defScope s_InvalidRule_init) .none kV_InvalidRule_init dc_InvalidRule_init pm_InvalidRule_init an_InvalidRule_init cd_InvalidRule_init ct_InvalidRule_init), sl_InvalidRule_init⟩)
    (c_InvalidRule_init : PySem.W.codeIn K cd_InvalidRule_init "InvalidRule.__init__" = true)
    (k_InvalidRule_init : PySem.W.keepIn K (.ref f_InvalidRule_init) = true)
    (a_InvalidText_init : PySem.W.findIn K (.ref C_InvalidText) "__init__" = some (some (.ref f_InvalidText_init)))
    (l_InvalidText_init : K.lookup f_InvalidText_init = some ⟨oc_InvalidText_init, od_InvalidText_init, .func (PySem.W.fnOf "__init__" "InvalidText.__init__" (defArgs s_InvalidText_init) (defBody s_InvalidText_init) (defScope s_InvalidText_init) .none kV_InvalidText_init dc_InvalidText_init pm_InvalidText_init an_InvalidText_init cd_InvalidText_init ct_InvalidText_init), sl_InvalidText_init⟩)
    (c_InvalidText_init : PySem.W.codeIn K cd_InvalidText_init "InvalidText.__init__" = true)
    (k_InvalidText_init : PySem.W.keepIn K (.ref f_InvalidText_init) = true)
    (a_Rule_init : PySem.W.findIn K (.ref C_Rule) "__init__" = some (some (.ref f_Rule_init)))
    (i_Rule_init : PySem.W.isFn K (.ref f_Rule_init) = true)
    (l_Rule_init : K.lookup f_Rule_init = some ⟨oc_Rule_init, od_Rule_init, .func (PySem.W.fnOf "__init__" "Rule.__init__" (defArgs s_Rule_init) (defBody s_Rule_init) (defScope s_Rule_init) (.ref T_Rule_init) kV_Rule_init dc_Rule_init pm_Rule_init an_Rule_init cd_Rule_init ct_Rule_init), sl_Rule_init⟩)
    (lT_Rule_init : K.lookup T_Rule_init = some ⟨oT_Rule_init, dT_Rule_init, .seq #[.ref e_Rule_init] nT_Rule_init, sT_Rule_init⟩)
    (lE_Rule_init : K.lookup e_Rule_init = some ⟨.type "tuple", dE_Rule_init, .seq #[] nE_Rule_init, sE_Rule_init⟩)
    (c_Rule_init : PySem.W.codeIn K cd_Rule_init "Rule.__init__" = true)
    (k_Rule_init : PySem.W.keepIn K (.ref f_Rule_init) = true)
    (a_Rule_eq : PySem.W.findIn K (.ref C_Rule) "__eq__" = some (some (.ref f_Rule_eq)))
    (i_Rule_eq : PySem.W.isFn K (.ref f_Rule_eq) = true)
    (l_Rule_eq : K.lookup f_Rule_eq = some ⟨oc_Rule_eq, od_Rule_eq, .func (PySem.W.fnOf "__eq__" "Rule.__eq__" (defArgs s_Rule_eq) (defBody s_Rule_eq) (defScope s_Rule_eq) .none kV_Rule_eq dc_Rule_eq pm_Rule_eq an_Rule_eq cd_Rule_eq ct_Rule_eq), sl_Rule_eq⟩)
    (c_Rule_eq : PySem.W.codeIn K cd_Rule_eq "Rule.__eq__" = true)
    (k_Rule_eq : PySem.W.keepIn K (.ref f_Rule_eq) = true)
    (a_read_rule : PySem.W.nsIn K mainGlobals "read_rule" = some (some (.ref f_read_rule)))
    (l_read_rule : K.lookup f_read_rule = some ⟨oc_read_rule, od_read_rule, .func (PySem.W.fnOf "read_rule" "read_rule" (defArgs s_read_rule) (defBody s_read_rule) (defScope s_read_rule) .none kV_read_rule dc_read_rule pm_read_rule an_read_rule cd_read_rule ct_read_rule), sl_read_rule⟩)
    (c_read_rule : PySem.W.codeIn K cd_read_rule "read_rule" = true)
    (k_read_rule : PySem.W.keepIn K (.ref f_read_rule) = true)
    (a_Room_init : PySem.W.findIn K (.ref C_Room) "__init__" = some (some (.ref f_Room_init)))
    (i_Room_init : PySem.W.isFn K (.ref f_Room_init) = true)
    (l_Room_init : K.lookup f_Room_init = some ⟨oc_Room_init, od_Room_init, .func (PySem.W.fnOf "__init__" "Room.__init__" (defArgs s_Room_init) (defBody s_Room_init) (defScope s_Room_init) (.ref T_Room_init) kV_Room_init dc_Room_init pm_Room_init an_Room_init cd_Room_init ct_Room_init), sl_Room_init⟩)
    (lT_Room_init : K.lookup T_Room_init = some ⟨oT_Room_init, dT_Room_init, .seq #[.ref e_Room_init] nT_Room_init, sT_Room_init⟩)
    (lE_Room_init : K.lookup e_Room_init = some ⟨.type "tuple", dE_Room_init, .seq #[] nE_Room_init, sE_Room_init⟩)
    (c_Room_init : PySem.W.codeIn K cd_Room_init "Room.__init__" = true)
    (k_Room_init : PySem.W.keepIn K (.ref f_Room_init) = true)
    (cmf_Room_read : PySem.W.findCls K (.ref C_Room) (.type "type") "read" = some (.get (.builtin "classmethod.__get__") (.ref p_Room_read) .none (.ref C_Room)))
    (cmr_Room_read : PySem.W.recIn K p_Room_read "classmethod" = some (.ref f_Room_read :: pr_Room_read))
    (cmi_Room_read : PySem.W.fnIn K f_Room_read = true)
    (crd_Room : PySem.W.readsIn K C_Room (.type "type") = true)
    (cga_Room : PySem.W.specialIn K (.ref C_Room) "__getattribute__" = some (some (.builtin "type.__getattribute__")))
    (l_Room_read : K.lookup f_Room_read = some ⟨oc_Room_read, od_Room_read, .func (PySem.W.fnOf "read" "Room.read" (defArgs s_Room_read) (defBody s_Room_read) (defScope s_Room_read) .none kV_Room_read dc_Room_read pm_Room_read an_Room_read cd_Room_read ct_Room_read), sl_Room_read⟩)
    (c_Room_read : PySem.W.codeIn K cd_Room_read "Room.read" = true)
    (k_Room_read : PySem.W.keepIn K (.ref f_Room_read) = true)
    (a_Room_eq : PySem.W.findIn K (.ref C_Room) "__eq__" = some (some (.ref f_Room_eq)))
    (i_Room_eq : PySem.W.isFn K (.ref f_Room_eq) = true)
    (l_Room_eq : K.lookup f_Room_eq = some ⟨oc_Room_eq, od_Room_eq, .func (PySem.W.fnOf "__eq__" "Room.__eq__" (defArgs s_Room_eq) (defBody s_Room_eq) (defScope s_Room_eq) .none kV_Room_eq dc_Room_eq pm_Room_eq an_Room_eq cd_Room_eq ct_Room_eq), sl_Room_eq⟩)
    (c_Room_eq : PySem.W.codeIn K cd_Room_eq "Room.__eq__" = true)
    (k_Room_eq : PySem.W.keepIn K (.ref f_Room_eq) = true)
    (a_lw_box : PySem.W.nsIn K mainGlobals "_law_box" = some (some (.ref f_lw_box)))
    (l_lw_box : K.lookup f_lw_box = some ⟨oc_lw_box, od_lw_box, .func (PySem.W.fnOf "_law_box" "_law_box" (defArgs s_lw_box) (defBody s_lw_box) (defScope s_lw_box) .none kV_lw_box dc_lw_box pm_lw_box an_lw_box cd_lw_box ct_lw_box), sl_lw_box⟩)
    (c_lw_box : PySem.W.codeIn K cd_lw_box "_law_box" = true)
    (k_lw_box : PySem.W.keepIn K (.ref f_lw_box) = true)
    (a_lw_take : PySem.W.nsIn K mainGlobals "_law_take" = some (some (.ref f_lw_take)))
    (l_lw_take : K.lookup f_lw_take = some ⟨oc_lw_take, od_lw_take, .func (PySem.W.fnOf "_law_take" "_law_take" (defArgs s_lw_take) (defBody s_lw_take) (defScope s_lw_take) .none kV_lw_take dc_lw_take pm_lw_take an_lw_take cd_lw_take ct_lw_take), sl_lw_take⟩)
    (c_lw_take : PySem.W.codeIn K cd_lw_take "_law_take" = true)
    (k_lw_take : PySem.W.keepIn K (.ref f_lw_take) = true)
    (a_lw_pick : PySem.W.nsIn K mainGlobals "_law_pick" = some (some (.ref f_lw_pick)))
    (l_lw_pick : K.lookup f_lw_pick = some ⟨oc_lw_pick, od_lw_pick, .func (PySem.W.fnOf "_law_pick" "_law_pick" (defArgs s_lw_pick) (defBody s_lw_pick) (defScope s_lw_pick) .none kV_lw_pick dc_lw_pick pm_lw_pick an_lw_pick cd_lw_pick ct_lw_pick), sl_lw_pick⟩)
    (c_lw_pick : PySem.W.codeIn K cd_lw_pick "_law_pick" = true)
    (k_lw_pick : PySem.W.keepIn K (.ref f_lw_pick) = true)
    (a_lw_mixed : PySem.W.nsIn K mainGlobals "_law_mixed" = some (some (.ref f_lw_mixed)))
    (l_lw_mixed : K.lookup f_lw_mixed = some ⟨oc_lw_mixed, od_lw_mixed, .func (PySem.W.fnOf "_law_mixed" "_law_mixed" (defArgs s_lw_mixed) (defBody s_lw_mixed) (defScope s_lw_mixed) .none kV_lw_mixed dc_lw_mixed pm_lw_mixed an_lw_mixed cd_lw_mixed ct_lw_mixed), sl_lw_mixed⟩)
    (c_lw_mixed : PySem.W.codeIn K cd_lw_mixed "_law_mixed" = true)
    (k_lw_mixed : PySem.W.keepIn K (.ref f_lw_mixed) = true)
    (a_lw_value : PySem.W.nsIn K mainGlobals "_law_value" = some (some (.ref f_lw_value)))
    (l_lw_value : K.lookup f_lw_value = some ⟨oc_lw_value, od_lw_value, .func (PySem.W.fnOf "_law_value" "_law_value" (defArgs s_lw_value) (defBody s_lw_value) (defScope s_lw_value) .none kV_lw_value dc_lw_value pm_lw_value an_lw_value cd_lw_value ct_lw_value), sl_lw_value⟩)
    (c_lw_value : PySem.W.codeIn K cd_lw_value "_law_value" = true)
    (k_lw_value : PySem.W.keepIn K (.ref f_lw_value) = true)
    (a_lw_names : PySem.W.nsIn K mainGlobals "_law_names" = some (some (.ref f_lw_names)))
    (l_lw_names : K.lookup f_lw_names = some ⟨oc_lw_names, od_lw_names, .func (PySem.W.fnOf "_law_names" "_law_names" (defArgs s_lw_names) (defBody s_lw_names) (defScope s_lw_names) .none kV_lw_names dc_lw_names pm_lw_names an_lw_names cd_lw_names ct_lw_names), sl_lw_names⟩)
    (c_lw_names : PySem.W.codeIn K cd_lw_names "_law_names" = true)
    (k_lw_names : PySem.W.keepIn K (.ref f_lw_names) = true)
    (a_lw_rules : PySem.W.nsIn K mainGlobals "_law_rules" = some (some (.ref f_lw_rules)))
    (l_lw_rules : K.lookup f_lw_rules = some ⟨oc_lw_rules, od_lw_rules, .func (PySem.W.fnOf "_law_rules" "_law_rules" (defArgs s_lw_rules) (defBody s_lw_rules) (defScope s_lw_rules) .none kV_lw_rules dc_lw_rules pm_lw_rules an_lw_rules cd_lw_rules ct_lw_rules), sl_lw_rules⟩)
    (c_lw_rules : PySem.W.codeIn K cd_lw_rules "_law_rules" = true)
    (k_lw_rules : PySem.W.keepIn K (.ref f_lw_rules) = true)
    (a_lw_lot : PySem.W.nsIn K mainGlobals "_law_lot" = some (some (.ref f_lw_lot)))
    (l_lw_lot : K.lookup f_lw_lot = some ⟨oc_lw_lot, od_lw_lot, .func (PySem.W.fnOf "_law_lot" "_law_lot" (defArgs s_lw_lot) (defBody s_lw_lot) (defScope s_lw_lot) .none kV_lw_lot dc_lw_lot pm_lw_lot an_lw_lot cd_lw_lot ct_lw_lot), sl_lw_lot⟩)
    (c_lw_lot : PySem.W.codeIn K cd_lw_lot "_law_lot" = true)
    (k_lw_lot : PySem.W.keepIn K (.ref f_lw_lot) = true)
    (a_lw_made : PySem.W.nsIn K mainGlobals "_law_made" = some (some (.ref f_lw_made)))
    (l_lw_made : K.lookup f_lw_made = some ⟨oc_lw_made, od_lw_made, .func (PySem.W.fnOf "_law_made" "_law_made" (defArgs s_lw_made) (defBody s_lw_made) (defScope s_lw_made) .none kV_lw_made dc_lw_made pm_lw_made an_lw_made cd_lw_made ct_lw_made), sl_lw_made⟩)
    (c_lw_made : PySem.W.codeIn K cd_lw_made "_law_made" = true)
    (k_lw_made : PySem.W.keepIn K (.ref f_lw_made) = true)
    (a_lw_rule_text : PySem.W.nsIn K mainGlobals "_law_rule_text" = some (some (.ref f_lw_rule_text)))
    (l_lw_rule_text : K.lookup f_lw_rule_text = some ⟨oc_lw_rule_text, od_lw_rule_text, .func (PySem.W.fnOf "_law_rule_text" "_law_rule_text" (defArgs s_lw_rule_text) (defBody s_lw_rule_text) (defScope s_lw_rule_text) .none kV_lw_rule_text dc_lw_rule_text pm_lw_rule_text an_lw_rule_text cd_lw_rule_text ct_lw_rule_text), sl_lw_rule_text⟩)
    (c_lw_rule_text : PySem.W.codeIn K cd_lw_rule_text "_law_rule_text" = true)
    (k_lw_rule_text : PySem.W.keepIn K (.ref f_lw_rule_text) = true)
    (a_lw_text : PySem.W.nsIn K mainGlobals "_law_text" = some (some (.ref f_lw_text)))
    (l_lw_text : K.lookup f_lw_text = some ⟨oc_lw_text, od_lw_text, .func (PySem.W.fnOf "_law_text" "_law_text" (defArgs s_lw_text) (defBody s_lw_text) (defScope s_lw_text) .none kV_lw_text dc_lw_text pm_lw_text an_lw_text cd_lw_text ct_lw_text), sl_lw_text⟩)
    (c_lw_text : PySem.W.codeIn K cd_lw_text "_law_text" = true)
    (k_lw_text : PySem.W.keepIn K (.ref f_lw_text) = true)
    (a_lw_is_name : PySem.W.nsIn K mainGlobals "_law_is_name" = some (some (.ref f_lw_is_name)))
    (l_lw_is_name : K.lookup f_lw_is_name = some ⟨oc_lw_is_name, od_lw_is_name, .func (PySem.W.fnOf "_law_is_name" "_law_is_name" (defArgs s_lw_is_name) (defBody s_lw_is_name) (defScope s_lw_is_name) .none kV_lw_is_name dc_lw_is_name pm_lw_is_name an_lw_is_name cd_lw_is_name ct_lw_is_name), sl_lw_is_name⟩)
    (c_lw_is_name : PySem.W.codeIn K cd_lw_is_name "_law_is_name" = true)
    (k_lw_is_name : PySem.W.keepIn K (.ref f_lw_is_name) = true)
    (a_lw_rule_of : PySem.W.nsIn K mainGlobals "_law_rule_of" = some (some (.ref f_lw_rule_of)))
    (l_lw_rule_of : K.lookup f_lw_rule_of = some ⟨oc_lw_rule_of, od_lw_rule_of, .func (PySem.W.fnOf "_law_rule_of" "_law_rule_of" (defArgs s_lw_rule_of) (defBody s_lw_rule_of) (defScope s_lw_rule_of) .none kV_lw_rule_of dc_lw_rule_of pm_lw_rule_of an_lw_rule_of cd_lw_rule_of ct_lw_rule_of), sl_lw_rule_of⟩)
    (c_lw_rule_of : PySem.W.codeIn K cd_lw_rule_of "_law_rule_of" = true)
    (k_lw_rule_of : PySem.W.keepIn K (.ref f_lw_rule_of) = true)
    (a_lw_due : PySem.W.nsIn K mainGlobals "_law_due" = some (some (.ref f_lw_due)))
    (l_lw_due : K.lookup f_lw_due = some ⟨oc_lw_due, od_lw_due, .func (PySem.W.fnOf "_law_due" "_law_due" (defArgs s_lw_due) (defBody s_lw_due) (defScope s_lw_due) .none kV_lw_due dc_lw_due pm_lw_due an_lw_due cd_lw_due ct_lw_due), sl_lw_due⟩)
    (c_lw_due : PySem.W.codeIn K cd_lw_due "_law_due" = true)
    (k_lw_due : PySem.W.keepIn K (.ref f_lw_due) = true)
    (a_lw_told : PySem.W.nsIn K mainGlobals "_law_told" = some (some (.ref f_lw_told)))
    (l_lw_told : K.lookup f_lw_told = some ⟨oc_lw_told, od_lw_told, .func (PySem.W.fnOf "_law_told" "_law_told" (defArgs s_lw_told) (defBody s_lw_told) (defScope s_lw_told) .none kV_lw_told dc_lw_told pm_lw_told an_lw_told cd_lw_told ct_lw_told), sl_lw_told⟩)
    (c_lw_told : PySem.W.codeIn K cd_lw_told "_law_told" = true)
    (k_lw_told : PySem.W.keepIn K (.ref f_lw_told) = true)
    (a_lw_bent : PySem.W.nsIn K mainGlobals "_law_bent" = some (some (.ref f_lw_bent)))
    (l_lw_bent : K.lookup f_lw_bent = some ⟨oc_lw_bent, od_lw_bent, .func (PySem.W.fnOf "_law_bent" "_law_bent" (defArgs s_lw_bent) (defBody s_lw_bent) (defScope s_lw_bent) .none kV_lw_bent dc_lw_bent pm_lw_bent an_lw_bent cd_lw_bent ct_lw_bent), sl_lw_bent⟩)
    (c_lw_bent : PySem.W.codeIn K cd_lw_bent "_law_bent" = true)
    (k_lw_bent : PySem.W.keepIn K (.ref f_lw_bent) = true)
    (a_lw_people : PySem.W.nsIn K mainGlobals "_law_people" = some (some (.ref f_lw_people)))
    (l_lw_people : K.lookup f_lw_people = some ⟨oc_lw_people, od_lw_people, .func (PySem.W.fnOf "_law_people" "_law_people" (defArgs s_lw_people) (defBody s_lw_people) (defScope s_lw_people) .none kV_lw_people dc_lw_people pm_lw_people an_lw_people cd_lw_people ct_lw_people), sl_lw_people⟩)
    (c_lw_people : PySem.W.codeIn K cd_lw_people "_law_people" = true)
    (k_lw_people : PySem.W.keepIn K (.ref f_lw_people) = true)
    (a_lw_main : PySem.W.nsIn K mainGlobals "law" = some (some (.ref f_lw_main)))
    (l_lw_main : K.lookup f_lw_main = some ⟨oc_lw_main, od_lw_main, .func (PySem.W.fnOf "law" "law" (defArgs s_lw_main) (defBody s_lw_main) (defScope s_lw_main) .none kV_lw_main dc_lw_main pm_lw_main an_lw_main cd_lw_main ct_lw_main), sl_lw_main⟩)
    (c_lw_main : PySem.W.codeIn K cd_lw_main "law" = true)
    (k_lw_main : PySem.W.keepIn K (.ref f_lw_main) = true)
    (sn_Room_Rule : PySem.W.subIn K (.ref C_Room) (.ref C_Rule) = some false)
    (sn_Rule_Room : PySem.W.subIn K (.ref C_Rule) (.ref C_Room) = some false)
    (sa_InvalidRule : PySem.W.findIn K (.ref C_InvalidRule) "__setattr__" = some (some (.builtin "object.__setattr__")))
    (ga_InvalidRule : PySem.W.findIn K (.ref C_InvalidRule) "__getattribute__" = some (some (.builtin "BaseException.__getattribute__")))
    (gg_InvalidRule : PySem.W.findIn K (.ref C_InvalidRule) "__getattr__" = some none)
    (nb_InvalidRule : PySem.W.findIn K (.ref C_InvalidRule) "word" = some none)
    (tI_InvalidRule : PySem.W.typeIn K (.ref f_InvalidRule_init) = some (.type "function"))
    (kC_InvalidRule : PySem.W.keepIn K (.ref C_InvalidRule) = true)
    (eC_InvalidRule : PySem.W.subIn K (.ref C_InvalidRule) (.type "BaseException") = some true)
    (tC_InvalidRule : PySem.W.typeIn K (.ref C_InvalidRule) = some (.type "type"))
    (hC_InvalidRule : PySem.W.hasDictIn K C_InvalidRule = true)
    (sC_InvalidRule : PySem.W.subIn K (.ref C_InvalidRule) (.ref C_InvalidRule) = some true)
    (hA_InvalidRule : PySem.W.findIn K (.ref C_InvalidRule) "__class__" = some (some (.builtin "object.__class__")))
    (hN_InvalidRule : PySem.W.specialIn K (.builtin "object.__class__") "__get__" = some (some (.builtin "getset_descriptor.__get__")))
    (hT_InvalidRule : PySem.W.takesIn K (.builtin "object.__class__") = some true)
    (hM_InvalidRule : PySem.W.mroIn K C_InvalidRule (.type "object") = some true)
    (sa_InvalidText : PySem.W.findIn K (.ref C_InvalidText) "__setattr__" = some (some (.builtin "object.__setattr__")))
    (ga_InvalidText : PySem.W.findIn K (.ref C_InvalidText) "__getattribute__" = some (some (.builtin "BaseException.__getattribute__")))
    (gg_InvalidText : PySem.W.findIn K (.ref C_InvalidText) "__getattr__" = some none)
    (nb_InvalidText : PySem.W.findIn K (.ref C_InvalidText) "at" = some none)
    (tI_InvalidText : PySem.W.typeIn K (.ref f_InvalidText_init) = some (.type "function"))
    (kC_InvalidText : PySem.W.keepIn K (.ref C_InvalidText) = true)
    (eC_InvalidText : PySem.W.subIn K (.ref C_InvalidText) (.type "BaseException") = some true)
    (tC_InvalidText : PySem.W.typeIn K (.ref C_InvalidText) = some (.type "type"))
    (hC_InvalidText : PySem.W.hasDictIn K C_InvalidText = true)
    (sC_InvalidText : PySem.W.subIn K (.ref C_InvalidText) (.ref C_InvalidText) = some true)
    (hA_InvalidText : PySem.W.findIn K (.ref C_InvalidText) "__class__" = some (some (.builtin "object.__class__")))
    (hN_InvalidText : PySem.W.specialIn K (.builtin "object.__class__") "__get__" = some (some (.builtin "getset_descriptor.__get__")))
    (hT_InvalidText : PySem.W.takesIn K (.builtin "object.__class__") = some true)
    (hM_InvalidText : PySem.W.mroIn K C_InvalidText (.type "object") = some true)
    (n_abs : PySem.W.nsIn K mainGlobals "abs" = some none)
    (n_all : PySem.W.nsIn K mainGlobals "all" = some none)
    (n_enumerate : PySem.W.nsIn K mainGlobals "enumerate" = some none)
    (n_int : PySem.W.nsIn K mainGlobals "int" = some none)
    (n_isinstance : PySem.W.nsIn K mainGlobals "isinstance" = some none)
    (n_len : PySem.W.nsIn K mainGlobals "len" = some none)
    (n_list : PySem.W.nsIn K mainGlobals "list" = some none)
    (n_max : PySem.W.nsIn K mainGlobals "max" = some none)
    (n_min : PySem.W.nsIn K mainGlobals "min" = some none)
    (n_range : PySem.W.nsIn K mainGlobals "range" = some none)
    (n_repr : PySem.W.nsIn K mainGlobals "repr" = some none)
    (n_set : PySem.W.nsIn K mainGlobals "set" = some none)
    (n_sorted : PySem.W.nsIn K mainGlobals "sorted" = some none)
    (n_str : PySem.W.nsIn K mainGlobals "str" = some none)
    (n_tuple : PySem.W.nsIn K mainGlobals "tuple" = some none)
    (m_LETTERS : PySem.W.nsIn K mainGlobals "LETTERS" = some (some (.str "abcdefghijklmnopqrstuvwxyz" tk_LETTERS)))
    : ∃ fd : FuncData, (∀ (s : Shared) (v : Value), BindsTo s fd ⟨[v], []⟩ [("_law_script", v)]) ∧ ∀ base : Heap, K.In base → base.Ns mainGlobals mg → FnOk l.prog w K mg base CX0 9 fa fd ["_law_script"] (spLaw K) := by
  obtain ⟨a, rfl, T, hb⟩ := all_mk (l := l) (w := w) X G hfa aC_Rule pg_Rule hd_Rule po_Rule sa_Rule mk_Rule kc_Rule no_Rule_name no_Rule_gone ha_Rule hn_Rule htk_Rule hm_Rule nd_Rule sx_Rule aC_Room pg_Room hd_Room po_Room sa_Room mk_Room kc_Room no_Room_rules no_Room_names ha_Room hn_Room htk_Room hm_Room nd_Room sx_Room aC_InvalidRule xL_InvalidRule aC_InvalidText xL_InvalidText sb_NoneType_Room sb_bool_Room sb_int_Room sb_str_Room sb_list_Room sb_tuple_Room so_Rule_Room so_Room_Room sb_NoneType_Rule sb_bool_Rule sb_int_Rule sb_str_Rule sb_list_Rule sb_tuple_Rule so_Rule_Rule so_Room_Rule sl_Rule_int sl_Room_int iL_Room tL_Room iL_Rule tL_Rule a_is_name l_is_name c_is_name k_is_name a_is_sequence l_is_sequence c_is_sequence k_is_sequence a_are_names l_are_names c_are_names k_are_names a_lot_of l_lot_of c_lot_of k_lot_of a_InvalidRule_init l_InvalidRule_init c_InvalidRule_init k_InvalidRule_init a_InvalidText_init l_InvalidText_init c_InvalidText_init k_InvalidText_init a_Rule_init i_Rule_init l_Rule_init lT_Rule_init lE_Rule_init c_Rule_init k_Rule_init a_Rule_eq i_Rule_eq l_Rule_eq c_Rule_eq k_Rule_eq a_read_rule l_read_rule c_read_rule k_read_rule a_Room_init i_Room_init l_Room_init lT_Room_init lE_Room_init c_Room_init k_Room_init cmf_Room_read cmr_Room_read cmi_Room_read crd_Room cga_Room l_Room_read c_Room_read k_Room_read a_Room_eq i_Room_eq l_Room_eq c_Room_eq k_Room_eq a_lw_box l_lw_box c_lw_box k_lw_box a_lw_take l_lw_take c_lw_take k_lw_take a_lw_pick l_lw_pick c_lw_pick k_lw_pick a_lw_mixed l_lw_mixed c_lw_mixed k_lw_mixed a_lw_value l_lw_value c_lw_value k_lw_value a_lw_names l_lw_names c_lw_names k_lw_names a_lw_rules l_lw_rules c_lw_rules k_lw_rules a_lw_lot l_lw_lot c_lw_lot k_lw_lot a_lw_made l_lw_made c_lw_made k_lw_made a_lw_rule_text l_lw_rule_text c_lw_rule_text k_lw_rule_text a_lw_text l_lw_text c_lw_text k_lw_text a_lw_is_name l_lw_is_name c_lw_is_name k_lw_is_name a_lw_rule_of l_lw_rule_of c_lw_rule_of k_lw_rule_of a_lw_due l_lw_due c_lw_due k_lw_due a_lw_told l_lw_told c_lw_told k_lw_told a_lw_bent l_lw_bent c_lw_bent k_lw_bent a_lw_people l_lw_people c_lw_people k_lw_people a_lw_main l_lw_main c_lw_main k_lw_main sn_Room_Rule sn_Rule_Room sa_InvalidRule ga_InvalidRule gg_InvalidRule nb_InvalidRule tI_InvalidRule kC_InvalidRule eC_InvalidRule tC_InvalidRule hC_InvalidRule sC_InvalidRule hA_InvalidRule hN_InvalidRule hT_InvalidRule hM_InvalidRule sa_InvalidText ga_InvalidText gg_InvalidText nb_InvalidText tI_InvalidText kC_InvalidText eC_InvalidText tC_InvalidText hC_InvalidText sC_InvalidText hA_InvalidText hN_InvalidText hT_InvalidText hM_InvalidText n_abs n_all n_enumerate n_int n_isinstance n_len n_list n_max n_min n_range n_repr n_set n_sorted n_str n_tuple m_LETTERS
  exact ⟨_, hb, fun base _ _ => ok_main T⟩
theorem walk {l : PySem.W.OpenLaw} {q : Program} {loose : List Str} {XP : (Str → Option Value) → Heap → Prop} {YP : World → Heap → Prop} {d : DefRec} {K : Params → PySem.W.Frag} (hn : l.most = some 63) (hdf : d.params.defaults = [])
    (hY : ∀ (w : World) (h : Heap), YP w h → (K w.params).In h)
    (F : ∀ (w : World) (mg : Str → Option Value) (fa : Addr) (h : Heap), (K w.params).In h → h.Ns mainGlobals mg → mg d.name = some (.ref fa) →
      ∃ fd : FuncData, (∀ (s : Shared) (u : Value), BindsTo s fd ⟨[u], []⟩ [("_law_script", u)]) ∧ ∀ base : Heap, (K w.params).In base → base.Ns mainGlobals mg → FnOk l.prog w (K w.params) mg base CX0 9 fa fd ["_law_script"] (spLaw (K w.params))) :
    PySem.W.WalkO q loose XP YP l.row.toRowW d [] (fun f vs => PySem.call f vs) :=
  L2.walk_of (n := 63) (k := 9) (x := "_law_script") (CX := fun _ => CX0) (sp := fun w => spLaw (K w.params)) hn (by decide) hdf ⟨rfl, by decide, by decide⟩ hY F (fun _ _ p ns hl _ hS => ⟨p, ns, rfl, hS, hl, fun _ => rfl⟩) fun _ _ _ _ _ z => z
end GK
open PySem PySem.W PyProof.Rows in
set_option maxRecDepth 100000 in
set_option maxHeartbeats 0 in
theorem PySem.Challenge.cw_leavelots_k06_texts_of_rooms_holds : PySem.Challenge.rw_leavelots_k06_texts_of_rooms.Holds := by
  w_on; o_law; k_head; (case hw => w_witness2)
  k_fill
  refine GK.walk (l := PySem.Challenge.rw_leavelots_k06_texts_of_rooms) rfl rfl (fun w h Y => PySem.W.kIn_of Y) ?F
  case F =>
    intro w mg fa h KX G hmg
    refine' GK.law_at (w := w) KX G hmg ?aC_Rule ?pg_Rule ?hd_Rule ?po_Rule ?sa_Rule ?mk_Rule ?kc_Rule ?no_Rule_name ?no_Rule_gone ?ha_Rule ?hn_Rule ?htk_Rule ?hm_Rule ?nd_Rule ?sx_Rule ?aC_Room ?pg_Room ?hd_Room ?po_Room ?sa_Room ?mk_Room ?kc_Room ?no_Room_rules ?no_Room_names ?ha_Room ?hn_Room ?htk_Room ?hm_Room ?nd_Room ?sx_Room ?aC_InvalidRule ?xL_InvalidRule ?aC_InvalidText ?xL_InvalidText ?sb_NoneType_Room ?sb_bool_Room ?sb_int_Room ?sb_str_Room ?sb_list_Room ?sb_tuple_Room ?so_Rule_Room ?so_Room_Room ?sb_NoneType_Rule ?sb_bool_Rule ?sb_int_Rule ?sb_str_Rule ?sb_list_Rule ?sb_tuple_Rule ?so_Rule_Rule ?so_Room_Rule ?sl_Rule_int ?sl_Room_int ?iL_Room ?tL_Room ?iL_Rule ?tL_Rule ?a_is_name ?l_is_name ?c_is_name ?k_is_name ?a_is_sequence ?l_is_sequence ?c_is_sequence ?k_is_sequence ?a_are_names ?l_are_names ?c_are_names ?k_are_names ?a_lot_of ?l_lot_of ?c_lot_of ?k_lot_of ?a_InvalidRule_init ?l_InvalidRule_init ?c_InvalidRule_init ?k_InvalidRule_init ?a_InvalidText_init ?l_InvalidText_init ?c_InvalidText_init ?k_InvalidText_init ?a_Rule_init ?i_Rule_init ?l_Rule_init ?lT_Rule_init ?lE_Rule_init ?c_Rule_init ?k_Rule_init ?a_Rule_eq ?i_Rule_eq ?l_Rule_eq ?c_Rule_eq ?k_Rule_eq ?a_read_rule ?l_read_rule ?c_read_rule ?k_read_rule ?a_Room_init ?i_Room_init ?l_Room_init ?lT_Room_init ?lE_Room_init ?c_Room_init ?k_Room_init ?cmf_Room_read ?cmr_Room_read ?cmi_Room_read ?crd_Room ?cga_Room ?l_Room_read ?c_Room_read ?k_Room_read ?a_Room_eq ?i_Room_eq ?l_Room_eq ?c_Room_eq ?k_Room_eq ?a_lw_box ?l_lw_box ?c_lw_box ?k_lw_box ?a_lw_take ?l_lw_take ?c_lw_take ?k_lw_take ?a_lw_pick ?l_lw_pick ?c_lw_pick ?k_lw_pick ?a_lw_mixed ?l_lw_mixed ?c_lw_mixed ?k_lw_mixed ?a_lw_value ?l_lw_value ?c_lw_value ?k_lw_value ?a_lw_names ?l_lw_names ?c_lw_names ?k_lw_names ?a_lw_rules ?l_lw_rules ?c_lw_rules ?k_lw_rules ?a_lw_lot ?l_lw_lot ?c_lw_lot ?k_lw_lot ?a_lw_made ?l_lw_made ?c_lw_made ?k_lw_made ?a_lw_rule_text ?l_lw_rule_text ?c_lw_rule_text ?k_lw_rule_text ?a_lw_text ?l_lw_text ?c_lw_text ?k_lw_text ?a_lw_is_name ?l_lw_is_name ?c_lw_is_name ?k_lw_is_name ?a_lw_rule_of ?l_lw_rule_of ?c_lw_rule_of ?k_lw_rule_of ?a_lw_due ?l_lw_due ?c_lw_due ?k_lw_due ?a_lw_told ?l_lw_told ?c_lw_told ?k_lw_told ?a_lw_bent ?l_lw_bent ?c_lw_bent ?k_lw_bent ?a_lw_people ?l_lw_people ?c_lw_people ?k_lw_people ?a_lw_main ?l_lw_main ?c_lw_main ?k_lw_main ?sn_Room_Rule ?sn_Rule_Room ?sa_InvalidRule ?ga_InvalidRule ?gg_InvalidRule ?nb_InvalidRule ?tI_InvalidRule ?kC_InvalidRule ?eC_InvalidRule ?tC_InvalidRule ?hC_InvalidRule ?sC_InvalidRule ?hA_InvalidRule ?hN_InvalidRule ?hT_InvalidRule ?hM_InvalidRule ?sa_InvalidText ?ga_InvalidText ?gg_InvalidText ?nb_InvalidText ?tI_InvalidText ?kC_InvalidText ?eC_InvalidText ?tC_InvalidText ?hC_InvalidText ?sC_InvalidText ?hA_InvalidText ?hN_InvalidText ?hT_InvalidText ?hM_InvalidText ?n_abs ?n_all ?n_enumerate ?n_int ?n_isinstance ?n_len ?n_list ?n_max ?n_min ?n_range ?n_repr ?n_set ?n_sorted ?n_str ?n_tuple ?m_LETTERS
    (case aC_Rule => k_is)
    (case pg_Rule => k_is)
    (case hd_Rule => k_is)
    (case po_Rule => k_is)
    (case sa_Rule => k_is)
    (case mk_Rule => k_is)
    (case kc_Rule => k_is)
    (case no_Rule_name => k_is)
    (case no_Rule_gone => k_is)
    (case ha_Rule => k_is)
    (case hn_Rule => k_is)
    (case htk_Rule => k_is)
    (case hm_Rule => k_is)
    (case nd_Rule => k_is)
    (case sx_Rule => k_is)
    (case aC_Room => k_is)
    (case pg_Room => k_is)
    (case hd_Room => k_is)
    (case po_Room => k_is)
    (case sa_Room => k_is)
    (case mk_Room => k_is)
    (case kc_Room => k_is)
    (case no_Room_rules => k_is)
    (case no_Room_names => k_is)
    (case ha_Room => k_is)
    (case hn_Room => k_is)
    (case htk_Room => k_is)
    (case hm_Room => k_is)
    (case nd_Room => k_is)
    (case sx_Room => k_is)
    (case aC_InvalidRule => k_is)
    (case xL_InvalidRule => k_is)
    (case aC_InvalidText => k_is)
    (case xL_InvalidText => k_is)
    (case sb_NoneType_Room => k_is)
    (case sb_bool_Room => k_is)
    (case sb_int_Room => k_is)
    (case sb_str_Room => k_is)
    (case sb_list_Room => k_is)
    (case sb_tuple_Room => k_is)
    (case so_Rule_Room => k_is)
    (case so_Room_Room => k_is)
    (case sb_NoneType_Rule => k_is)
    (case sb_bool_Rule => k_is)
    (case sb_int_Rule => k_is)
    (case sb_str_Rule => k_is)
    (case sb_list_Rule => k_is)
    (case sb_tuple_Rule => k_is)
    (case so_Rule_Rule => k_is)
    (case so_Room_Rule => k_is)
    (case sl_Rule_int => k_is)
    (case sl_Room_int => k_is)
    (case iL_Room => k_is)
    (case tL_Room => k_is)
    (case iL_Rule => k_is)
    (case tL_Rule => k_is)
    (case a_is_name => k_is)
    (case l_is_name => k_is)
    (case c_is_name => k_is)
    (case k_is_name => k_is)
    (case a_is_sequence => k_is)
    (case l_is_sequence => k_is)
    (case c_is_sequence => k_is)
    (case k_is_sequence => k_is)
    (case a_are_names => k_is)
    (case l_are_names => k_is)
    (case c_are_names => k_is)
    (case k_are_names => k_is)
    (case a_lot_of => k_is)
    (case l_lot_of => k_is)
    (case c_lot_of => k_is)
    (case k_lot_of => k_is)
    (case a_InvalidRule_init => k_is)
    (case l_InvalidRule_init => k_is)
    (case c_InvalidRule_init => k_is)
    (case k_InvalidRule_init => k_is)
    (case a_InvalidText_init => k_is)
    (case l_InvalidText_init => k_is)
    (case c_InvalidText_init => k_is)
    (case k_InvalidText_init => k_is)
    (case a_Rule_init => k_is)
    (case i_Rule_init => k_is)
    (case l_Rule_init => k_is)
    (case lT_Rule_init => k_is)
    (case lE_Rule_init => k_is)
    (case c_Rule_init => k_is)
    (case k_Rule_init => k_is)
    (case a_Rule_eq => k_is)
    (case i_Rule_eq => k_is)
    (case l_Rule_eq => k_is)
    (case c_Rule_eq => k_is)
    (case k_Rule_eq => k_is)
    (case a_read_rule => k_is)
    (case l_read_rule => k_is)
    (case c_read_rule => k_is)
    (case k_read_rule => k_is)
    (case a_Room_init => k_is)
    (case i_Room_init => k_is)
    (case l_Room_init => k_is)
    (case lT_Room_init => k_is)
    (case lE_Room_init => k_is)
    (case c_Room_init => k_is)
    (case k_Room_init => k_is)
    (case cmf_Room_read => k_is)
    (case cmr_Room_read => k_is)
    (case cmi_Room_read => k_is)
    (case crd_Room => k_is)
    (case cga_Room => k_is)
    (case l_Room_read => k_is)
    (case c_Room_read => k_is)
    (case k_Room_read => k_is)
    (case a_Room_eq => k_is)
    (case i_Room_eq => k_is)
    (case l_Room_eq => k_is)
    (case c_Room_eq => k_is)
    (case k_Room_eq => k_is)
    (case a_lw_box => k_is)
    (case l_lw_box => k_is)
    (case c_lw_box => k_is)
    (case k_lw_box => k_is)
    (case a_lw_take => k_is)
    (case l_lw_take => k_is)
    (case c_lw_take => k_is)
    (case k_lw_take => k_is)
    (case a_lw_pick => k_is)
    (case l_lw_pick => k_is)
    (case c_lw_pick => k_is)
    (case k_lw_pick => k_is)
    (case a_lw_mixed => k_is)
    (case l_lw_mixed => k_is)
    (case c_lw_mixed => k_is)
    (case k_lw_mixed => k_is)
    (case a_lw_value => k_is)
    (case l_lw_value => k_is)
    (case c_lw_value => k_is)
    (case k_lw_value => k_is)
    (case a_lw_names => k_is)
    (case l_lw_names => k_is)
    (case c_lw_names => k_is)
    (case k_lw_names => k_is)
    (case a_lw_rules => k_is)
    (case l_lw_rules => k_is)
    (case c_lw_rules => k_is)
    (case k_lw_rules => k_is)
    (case a_lw_lot => k_is)
    (case l_lw_lot => k_is)
    (case c_lw_lot => k_is)
    (case k_lw_lot => k_is)
    (case a_lw_made => k_is)
    (case l_lw_made => k_is)
    (case c_lw_made => k_is)
    (case k_lw_made => k_is)
    (case a_lw_rule_text => k_is)
    (case l_lw_rule_text => k_is)
    (case c_lw_rule_text => k_is)
    (case k_lw_rule_text => k_is)
    (case a_lw_text => k_is)
    (case l_lw_text => k_is)
    (case c_lw_text => k_is)
    (case k_lw_text => k_is)
    (case a_lw_is_name => k_is)
    (case l_lw_is_name => k_is)
    (case c_lw_is_name => k_is)
    (case k_lw_is_name => k_is)
    (case a_lw_rule_of => k_is)
    (case l_lw_rule_of => k_is)
    (case c_lw_rule_of => k_is)
    (case k_lw_rule_of => k_is)
    (case a_lw_due => k_is)
    (case l_lw_due => k_is)
    (case c_lw_due => k_is)
    (case k_lw_due => k_is)
    (case a_lw_told => k_is)
    (case l_lw_told => k_is)
    (case c_lw_told => k_is)
    (case k_lw_told => k_is)
    (case a_lw_bent => k_is)
    (case l_lw_bent => k_is)
    (case c_lw_bent => k_is)
    (case k_lw_bent => k_is)
    (case a_lw_people => k_is)
    (case l_lw_people => k_is)
    (case c_lw_people => k_is)
    (case k_lw_people => k_is)
    (case a_lw_main => k_is)
    (case l_lw_main => k_is)
    (case c_lw_main => k_is)
    (case k_lw_main => k_is)
    (case sn_Room_Rule => k_is)
    (case sn_Rule_Room => k_is)
    (case sa_InvalidRule => k_is)
    (case ga_InvalidRule => k_is)
    (case gg_InvalidRule => k_is)
    (case nb_InvalidRule => k_is)
    (case tI_InvalidRule => k_is)
    (case kC_InvalidRule => k_is)
    (case eC_InvalidRule => k_is)
    (case tC_InvalidRule => k_is)
    (case hC_InvalidRule => k_is)
    (case sC_InvalidRule => k_is)
    (case hA_InvalidRule => k_is)
    (case hN_InvalidRule => k_is)
    (case hT_InvalidRule => k_is)
    (case hM_InvalidRule => k_is)
    (case sa_InvalidText => k_is)
    (case ga_InvalidText => k_is)
    (case gg_InvalidText => k_is)
    (case nb_InvalidText => k_is)
    (case tI_InvalidText => k_is)
    (case kC_InvalidText => k_is)
    (case eC_InvalidText => k_is)
    (case tC_InvalidText => k_is)
    (case hC_InvalidText => k_is)
    (case sC_InvalidText => k_is)
    (case hA_InvalidText => k_is)
    (case hN_InvalidText => k_is)
    (case hT_InvalidText => k_is)
    (case hM_InvalidText => k_is)
    (case n_abs => k_is)
    (case n_all => k_is)
    (case n_enumerate => k_is)
    (case n_int => k_is)
    (case n_isinstance => k_is)
    (case n_len => k_is)
    (case n_list => k_is)
    (case n_max => k_is)
    (case n_min => k_is)
    (case n_range => k_is)
    (case n_repr => k_is)
    (case n_set => k_is)
    (case n_sorted => k_is)
    (case n_str => k_is)
    (case n_tuple => k_is)
    (case m_LETTERS => k_is)
