import PyProof.Rows.All
import Wide.All
import OpenK.AllK
import Wide.FinOn
import KE.KDictZip
import KE.KDictItemsList
import HandS.Base
import HandS.Call
import HandS.List
import HandS.Comp
import HandS.Ends
import HandS.Iter
import HandS.Words
import HandS.WordsList
import HandS.SortInts
import HandS.IsInst
import HandS.Wide
import HandS.Style
import HandS.SetFor
import HandS.Dict
import HandS.Evl
import HandS.WordsDict
import PySem.Challenge.RW_sumplace_k07_whole_sums_counted_otherwis
set_option Elab.async false
set_option linter.all false
set_option maxRecDepth 100000
set_option maxHeartbeats 4000000
/-! list(enumerate(xs)): the tuples stay held, each a new object. -/
namespace Enl
open PySem PySem.W PySem.Calls PyProof.Rows PyProof.V PySem.Spec

theorem no_len : typeLookup (.type "enumerate") "__len__" = pure none := am_miss_of_fast (by decide +kernel)
theorem no_hint : typeLookup (.type "enumerate") "__length_hint__" = pure none := am_miss_of_fast (by decide +kernel)

structure Got (its : Array Value) (lo : Addr) (h : Heap) (as : List Addr) : Prop where
  up : as.Pairwise (· < ·)
  ab : ∀ a ∈ as, lo < a
  prs : ∀ (j : Nat) (a : Addr), as[j]? = some a → ∃ (v : Value) (t : Tok), its[j]? = some v ∧ h.get? a = some { cls := .type "tuple", data := .seq #[.int j t, v] }

/-- where the enumerate stands ahead of turn i -/
def At (h : Heap) (e it l S : Addr) (i : Nat) (its : Array Value) : Prop :=
  h.IsListIter it l i ∧ h.IsList l its ∧ ((∃ old, IsEnum h e it i old) ∨ ∃ old T f oT, IsEnumHeld h e it i old T f ∧ h.get? T = some oT ∧ T ≠ e ∧ T ≠ it ∧ T ≠ S)
theorem At.up {h h' : Heap} {e it l S : Addr} {i : Nat} {its : Array Value} (a : At h e it l S i its) (n1 : e ≠ S) (n2 : it ≠ S) (n3 : l ≠ S) (k : ∀ b o, b ≠ S → h.get? b = some o → h'.get? b = some o) : At h' e it l S i its := by
  obtain ⟨a1, a2, a3⟩ := a
  refine ⟨a1.at fun o x => k _ o n2 x, a2.at fun o x => k _ o n3 x, ?_⟩
  rcases a3 with ⟨old, a3⟩ | ⟨old, T, f, oT, a3, a4, r1, r2, r3⟩
  · exact .inl ⟨old, k _ _ n1 a3⟩
  · exact .inr ⟨old, T, f, oT, k _ _ n1 a3, k _ _ r3 a4, r1, r2, r3⟩

section
variable {prog : Program} {w : World} {A : Around} {E : Value → Shared → Prop} {s : Shared}
theorem next_item {e it l S : Addr} {i : Nat} {its : Array Value} {x : Value} {Q : Option Value → Shared → Prop} (st : At s.heap e it l S i its) (hx : its[i]? = some x) (hei : e ≠ it) (hle : l ≠ e) (hli : l ≠ it) (hS : S < s.heap.objs.size)
    (hQ : ∀ h', At h' e it l S (i + 1) its → h'.get? s.heap.objs.size = some { cls := .type "tuple", data := .seq #[.int i s.toks, x] } → h'.objs.size = s.heap.objs.size + 1 →
      (∀ b o, b ≠ e → b ≠ it → s.heap.get? b = some o → h'.get? b = some o) → Q (some (.ref s.heap.objs.size)) { s with heap := h', toks := s.toks + 1 }) : wpAny (model prog w) A (pyNext (.ref e)) Q E s := by
  obtain ⟨hit, hl, he⟩ := st
  have ec : ((i + 1 : Nat) : Int) = (i : Int) + 1 := by omega
  have nit : s.heap.objs.size ≠ it := let ⟨_, x, _⟩ := hit; Nat.ne_of_gt (Heap.lt_size x)
  rcases he with ⟨old, he⟩ | ⟨old, T, f, oT, he, hT, r1, r2, r3⟩
  · refine wpAny_pyNext_enum_item he hit hl hx hei fun h' ho hit' hT hz hk => ?_
    refine hQ h' ⟨hit', hl.at fun o y => hk l o hle hli y, .inr ⟨_, s.heap.objs.size, false, _, (by rw [ec]; exact ho), hT, Nat.ne_of_gt (Heap.lt_size he), nit, Nat.ne_of_gt hS⟩⟩ hT hz hk
  · refine wpAny_pyNext_enum_item_held he hT r1 r2 hit hl hx hei fun h' ho hit' hT' hz hk => ?_
    refine hQ h' ⟨hit', hl.at fun o y => hk l o hle hli y, .inr ⟨old, T, true, oT, (by rw [ec]; exact ho), hk _ _ r1 r2 hT, r1, r2, r3⟩⟩ hT' hz hk
theorem next_end {e it l S : Addr} {its : Array Value} {Q : Option Value → Shared → Prop} (hh : A.handled = none) (st : At s.heap e it l S its.size its)
    (hQ : ∀ h', Heap.ExtBut it s.heap h' → Q none { s with heap := h' }) : wpAny (model prog w) A (pyNext (.ref e)) Q E s := by
  obtain ⟨hit, hl, he⟩ := st
  have hx : its[its.size]? = none := Array.getElem?_eq_none (Nat.le_refl _)
  rcases he with ⟨old, he⟩ | ⟨old, T, f, oT, he, hT, r1, r2, r3⟩
  · exact wpAny_pyNext_enum_end hh he hit hl hx fun h' hk => hQ h' hk
  · exact wpAny_pyNext_enum_end_held hh he hit hl hx fun h' hk => hQ h' hk
end

section
variable {prog : Program} {w : World} {A : Around} {s : Shared} {R : Result → Shared → Prop} {its : Array Value}
theorem turns {S e it l : Addr} (hh : A.handled = none) (hSe : S ≠ e) (hSi : S ≠ it) (hSl : S ≠ l) (hei : e ≠ it) (hle : l ≠ e) (hli : l ≠ it) (hn : its.size ≤ sizeLine) (res : Value) {h₁ : Heap} {lo : Addr} (hlS : S ≤ lo) (hle' : e ≤ lo) (hli' : it ≤ lo)
    (hR : ∀ h' tk acc c as, (∀ b o, b ≠ S → b ≠ e → b ≠ it → h₁.get? b = some o → h'.get? b = some o) → h'.get? S = some { cls := .type "list", dict := none, data := .seq acc c, slots := #[] } → as.length = its.size → Got its lo h' as →
      acc.toList = as.map Value.ref → R (.ok (.ret res)) { s with heap := h', toks := tk }) :
    ∀ (k i : Nat) (h : Heap) (tk c : Nat) (acc : Array Value) (as : List Addr), its.size - i = k → i ≤ its.size → At h e it l S i its → (∀ b o, b ≠ S → b ≠ e → b ≠ it → h₁.get? b = some o → h.get? b = some o) →
      h.get? S = some { cls := .type "list", dict := none, data := .seq acc c, slots := #[] } → acc.toList = as.map Value.ref → as.length = i → Got its lo h as → lo < h.objs.size → (∀ a ∈ as, a < h.objs.size) →
      codeAny (model prog w) A (.builtin "list.extend.loop" ⟨[.ref S, .ref e, res], []⟩) R { s with heap := h, toks := tk } := by
  intro k
  induction k with
  | zero =>
    intro i h tk c acc as hk hi hst hkeep hS hacc hal hG hlo hlt
    obtain rfl : i = its.size := by omega
    refine codeAny_builtin PySem.F.entry_extend_loop ?_; rw [Around.under_plainId PySem.F.plain_extend_loop _]
    show wpAny _ A.in1 (pyNext (.ref e) >>= _) _ _ _
    refine wpAny_bind (next_end (s := { s with heap := h, toks := tk }) (A := A.in1) hh hst fun h' he => ?_)
    refine wpAny_pure (hR h' tk acc c as (fun b o h1 h2 h3 y => he b o h3 (hkeep b o h1 h2 h3 y)) (he S _ hSi hS) hal ⟨hG.up, hG.ab, fun j a hj => ?_⟩ hacc)
    obtain ⟨v, t, e1, e2⟩ := hG.prs j a hj
    exact ⟨v, t, e1, he a _ (Nat.ne_of_gt (Nat.lt_of_le_of_lt hli' (hG.ab a (List.mem_of_getElem? hj)))) e2⟩
  | succ k ih =>
    intro i h tk c acc as hk hi hst hkeep hS hacc hal hG hlo hlt
    have hi' : i < its.size := by omega
    have hsz : acc.size = i := by rw [← Array.length_toList, hacc, List.length_map, hal]
    have hSz : S < h.objs.size := Heap.lt_size hS
    refine codeAny_builtin PySem.F.entry_extend_loop ?_; rw [Around.under_plainId PySem.F.plain_extend_loop _]
    show wpAny _ A.in1 (pyNext (.ref e) >>= _) _ _ _
    refine wpAny_bind (next_item (s := { s with heap := h, toks := tk }) hst (Array.getElem?_eq_getElem hi') hei hle hli hSz fun h' hst' ht hz hkp => ?_)
    dsimp only at ht hz hkp ⊢
    have hS' := hkp S _ hSe hSi hS
    have up : ∀ b o, b ≠ S → h'.get? b = some o → (h'.update S (Obj.mapSeq (·.push (Value.ref h.objs.size)))).get? b = some o := fun b o hb y => (Heap.get?_update_other _ _ (Ne.symm hb)).trans y
    show wpAny _ A.in1 (updateSeq S (·.push (Value.ref h.objs.size)) >>= _) _ _ _
    refine wpAny_bind ?_
    refine wpAny_updateSeq hS' rfl (wpAny_pure ⟨plainId_quiet PySem.F.plain_extend_loop _, ?_⟩) (by rw [hsz]; omega) (by show (acc.push (Value.ref h.objs.size)).size ≤ sizeLine + 1; rw [Array.size_push, hsz]; omega)
    have hT := up _ _ (Nat.ne_of_gt hSz) ht
    have hbig : h.objs.size < (h'.update S (Obj.mapSeq (·.push (Value.ref h.objs.size)))).objs.size := Heap.lt_size hT
    refine ih (i + 1) _ (tk + 1) _ (acc.push (Value.ref h.objs.size)) (as ++ [h.objs.size]) (by omega) hi' (hst'.up (Ne.symm hSe) (Ne.symm hSi) (Ne.symm hSl) up) (fun b o h1 h2 h3 y => up b o h1 (hkp b o h2 h3 (hkeep b o h1 h2 h3 y))) (Heap.get?_update_self _ hS' rfl)
      (by rw [Array.toList_push, hacc, List.map_append]; rfl) (by rw [List.length_append, hal]; rfl) ⟨?_, ?_, ?_⟩ (Nat.lt_trans hlo hbig) ?_
    · refine List.pairwise_append.mpr ⟨hG.up, List.pairwise_singleton _ _, fun a ha b hb => ?_⟩
      rw [List.mem_singleton.mp hb]
      exact hlt a ha
    · intro a ha
      rcases List.mem_append.mp ha with ha | ha
      · exact hG.ab a ha
      · rw [List.mem_singleton.mp ha]
        exact hlo
    · intro j a hj
      by_cases hjl : j < as.length
      · rw [List.getElem?_append_left hjl] at hj
        obtain ⟨v, t, e1, e2⟩ := hG.prs j a hj
        have ga := hG.ab a (List.mem_of_getElem? hj)
        exact ⟨v, t, e1, up a _ (Nat.ne_of_gt (Nat.lt_of_le_of_lt hlS ga)) (hkp a _ (Nat.ne_of_gt (Nat.lt_of_le_of_lt hle' ga)) (Nat.ne_of_gt (Nat.lt_of_le_of_lt hli' ga)) e2)⟩
      · have hjb : j < (as ++ [h.objs.size]).length := (List.getElem?_eq_some_iff.mp hj).1
        rw [List.length_append, List.length_singleton] at hjb
        obtain rfl : j = i := by omega
        rw [List.getElem?_append_right (by omega), show j - as.length = 0 from by omega] at hj
        obtain rfl : h.objs.size = a := Option.some.inj hj
        exact ⟨its[j], tk, Array.getElem?_eq_getElem hi', hT⟩
    · intro a ha
      rcases List.mem_append.mp ha with ha | ha
      · exact Nat.lt_trans (hlt a ha) hbig
      · rw [List.mem_singleton.mp ha]
        exact hbig
end
section
variable {prog : Program} {w : World} {A : Around} {E : Value → Shared → Prop} {s : Shared} {its : Array Value} {e it l : Addr}
theorem hint_none (he : s.TypeIs (.ref e) "enumerate") {Q : Bool → Shared → Prop} (h : Q true s) : wpAny (model prog w) A (Builtin.List.listLengthHint (.ref e)) Q E s := by
  unfold Builtin.List.listLengthHint
  refine wpAny_bind (wpAny_specialOf he no_len ?_)
  show wpAny _ A (specialOf (Value.ref e) (Str.ofString "__length_hint__") >>= _) _ _ _
  refine wpAny_bind (wpAny_specialOf he no_hint ?_)
  exact wpAny_pure h
/-- list(e), e an enumerate over a list that stands at its begin -/
theorem call_list {Q : Value → Shared → Prop} (hh : A.handled = none) (he : IsEnum s.heap e it 0 .none) (hit : s.heap.IsListIter it l 0) (hl : s.heap.IsList l its) (hei : e ≠ it) (hle : l ≠ e) (hli : l ≠ it) (hn : its.size ≤ sizeLine)
    (hQ : ∀ h' tk acc c as, (∀ b o, b ≠ e → b ≠ it → s.heap.get? b = some o → h'.get? b = some o) → h'.get? s.heap.objs.size = some { cls := .type "list", dict := none, data := .seq acc c, slots := #[] } → as.length = its.size → Got its s.heap.objs.size h' as →
      acc.toList = as.map Value.ref → Q (.ref s.heap.objs.size) { s with heap := h', toks := tk }) :
    wpAny (model prog w) A (call (.type "list") [.ref e]) Q E s := by
  refine callType_codes (Q₁ := fun obj s₁ => obj = .ref s.heap.objs.size ∧ s₁ = { s with heap := s.heap.push { cls := .type "list", data := .seq #[] } }) PySem.F.called_list (PySem.F.typeCall_list_1 _) PySem.F.entry_list_init (code_list_new _ ⟨rfl, rfl⟩) fun obj s₁ h₁ => ?_
  obtain ⟨rfl, rfl⟩ := h₁
  have hS : (s.heap.push { cls := .type "list", data := .seq #[] }).get? s.heap.objs.size = some { cls := .type "list", data := .seq #[] } := Heap.get?_push_size _ rfl
  have le : e < s.heap.objs.size := Heap.lt_size he
  have li : it < s.heap.objs.size := let ⟨_, x, _⟩ := hit; Heap.lt_size x
  have ll : l < s.heap.objs.size := let ⟨_, x, _⟩ := hl; Heap.lt_size x
  generalize hg : s.heap.push { cls := .type "list", data := .seq #[] } = h0 at hS
  have k0 : ∀ b o, s.heap.get? b = some o → h0.get? b = some o := fun b o x => by rw [← hg]; exact Heap.get?_push_of_some _ x
  have z0 : h0.objs.size = s.heap.objs.size + 1 := by rw [← hg, Heap.size_push]
  generalize hp : s.heap.objs.size = S at hS le li ll z0 hQ
  have a0 : At h0 e it l S 0 its := ⟨hit.at fun o x => k0 _ o x, hl.at fun o x => k0 _ o x, .inl ⟨.none, k0 _ _ he⟩⟩
  refine ⟨⟨_, hS, rfl⟩, PySem.F.args_list_init_2 _ _, ?_⟩
  show wpAny _ _ (do let old ← Builtin.List.listItems (.ref S); Builtin.List.listUpdate (.ref S) (fun _ => #[]); letGo old.toList.reverse; Builtin.List.listExtendWith (.ref S) (.ref e) .none) _ _ _
  refine wpAny_bind ?_
  unfold Builtin.List.listItems
  refine wpAny_bind (wpAny_seqItems hS rfl (wpAny_pure ?_))
  show wpAny _ _ (updateSeq S (fun _ => #[]) >>= fun _ => letGo (#[] : Array Value).toList.reverse >>= fun _ => Builtin.List.listExtendWith (.ref S) (.ref e) .none) _ _ _
  refine wpAny_bind (wpAny_updateSeq hS rfl ?_)
  have hS2 := Heap.get?_update_self (Obj.mapSeq (fun _ => (#[] : Array Value))) hS rfl
  have k2 : ∀ b o, b ≠ S → h0.get? b = some o → (h0.update S (Obj.mapSeq (fun _ => (#[] : Array Value)))).get? b = some o := fun b o hb x => (Heap.get?_update_other _ _ (Ne.symm hb)).trans x
  have a2 := a0.up (Nat.ne_of_lt le) (Nat.ne_of_lt li) (Nat.ne_of_lt ll) k2
  generalize h0.update S (Obj.mapSeq (fun _ => (#[] : Array Value))) = h2 at hS2 k2 a2
  refine wpAny_bind (wpAny_letGo ?_)
  have T2 : Shared.TypeIs { s with heap := h2 } (.ref e) "enumerate" := by
    rcases a2.2.2 with ⟨old, x⟩ | ⟨old, T, f, oT, x, _⟩
    · exact ⟨_, x, rfl⟩
    · exact ⟨_, x, rfl⟩
  unfold Builtin.List.listExtendWith
  refine wpAny_bind (wpAny_typeOf (T := "enumerate") T2 ?_)
  have g1 : Builtin.List.listSameRef (.ref S) (.ref e) = false := by simp [Builtin.List.listSameRef, Nat.ne_of_gt le]
  have g2 : (Value.type "enumerate" == Value.type "list") = false := by decide
  have g3 : (Value.type "enumerate" == Value.type "tuple") = false := by decide
  simp only [g1, g2, g3, Bool.or_false, Bool.false_eq_true, if_false]
  have e2 : ∃ old, IsEnum h2 e it 0 old := ⟨.none, k2 _ _ (Nat.ne_of_lt le) (k0 _ _ he)⟩
  obtain ⟨old2, e2⟩ := e2
  refine wpAny_bind (wpAny_pyIter_enum (s := { s with heap := h2 }) e2 ?_)
  refine wpAny_bind (wpAny_holding (hint_none T2 ?_))
  have key : ∀ (h : Heap) (tk c : Nat), (∀ b o, b ≠ S → h2.get? b = some o → h.get? b = some o) → h.get? S = some { cls := .type "list", data := .seq #[] c } →
      codeAny (model prog w) A.in1 (.builtin "list.extend.loop" ⟨[.ref S, .ref e, .none], []⟩) (wants (fun r s2 => r = Value.none ∧ Q (Value.ref S) s2) E) { s with heap := h, toks := tk } := by
    intro h tk c kh hSh
    refine turns (A := A.in1) (s := s) (h₁ := s.heap) (lo := S) hh (Nat.ne_of_gt le) (Nat.ne_of_gt li) (Nat.ne_of_gt ll) hei hle hli hn .none (Nat.le_refl _) (Nat.le_of_lt le) (Nat.le_of_lt li)
      (fun h' tk' acc c' as k3 k4 k5 k6 k7 => ⟨rfl, ?_⟩) its.size 0 h tk c #[] [] (Nat.sub_zero _) (Nat.zero_le _) (a2.up (Nat.ne_of_lt le) (Nat.ne_of_lt li) (Nat.ne_of_lt ll) kh)
      (fun b o h1 _ _ x => kh b o h1 (k2 b o h1 (k0 b o x))) hSh rfl rfl ⟨List.Pairwise.nil, (fun _ ha => nomatch ha), (fun j a hj => by simp at hj)⟩ ?_ (fun _ ha => nomatch ha)
    · exact hQ h' tk' acc c' as (fun b o h1 h2 x => k3 b o (by rw [← hp]; exact Nat.ne_of_lt (Heap.lt_size x)) h1 h2 x) k4 k5 k6 k7
    · exact Heap.lt_size hSh
  refine wpAny_ite_split (fun _ => ?_) (fun _ => wpAny_pure ⟨plainId_quiet PySem.F.plain_extend_loop _, key h2 _ _ (fun b o _ x => x) hS2⟩)
  refine wpAny_bind (wpAny_rule ?_)
  refine wpAny_bind ?_
  show wpAny _ _ (updateSeq S (·.push .none) >>= fun _ => updateSeq S (·.pop)) _ _ _
  refine wpAny_bind (wpAny_updateSeq hS2 rfl ?_)
  have hS3 := Heap.get?_update_self (Obj.mapSeq (·.push Value.none)) hS2 rfl
  refine wpAny_updateSeq (hz := by seq_fits) hS3 rfl ?_
  have hS4 := Heap.get?_update_self (Obj.mapSeq (·.pop)) hS3 rfl
  refine wpAny_pure ⟨plainId_quiet PySem.F.plain_extend_loop _, key _ _ _ (fun b o hb x => ?_) hS4⟩
  exact (Heap.get?_update_other _ _ (Ne.symm hb)).trans ((Heap.get?_update_other _ _ (Ne.symm hb)).trans x)
end
end Enl

namespace Enl
open PySem PySem.W PyProof.Rows L2
section
variable {X : Cx} {pins : List (Addr × Obj)} {σ : L2.St} {H H' : Hp} {s : Shared} {h' : Heap} {tk : Nat}
/-- many new objects tracked at once -/
theorem lay_many (I : Inv X pins σ H s) (hk : ∀ b o, s.heap.get? b = some o → h'.get? b = some o) (up : ∀ b u, H b = some u → H' b = some u) (off : ∀ b, b < s.heap.objs.size → H b = none → H' b = none)
    (new : ∀ b u, H' b = some u → H b = some u ∨ ObjOk X.prog X.w H' h' b u) : Inv X pins σ H' { s with heap := h', toks := tk } := by
  refine I.call' (ch := []) rfl ⟨fun b o q _ _ _ => hk b o q, fun b o q _ _ _ => ⟨o.slots, hk b o q⟩, fun b o q n _ => off b (Heap.lt_size q) n, fun b o q _ => ⟨o, hk b o q⟩, fun b xs q => up b _ q, fun b o u q => up b _ q, fun b ps q => ⟨#[], by rw [up b _ q]; simp⟩⟩ (fun b u q => ?_) I.bare (fun b z => by simp at z)
  rcases new b u q with q1 | q1
  · exact (I.hok b u q1).stay (fun d v _ y => hk d v y) (fun d y => up d _ y) (fun d xs y => up d _ y)
  · exact q1
end
/-- the pairs tracked at their addresses, numbered from n -/
def putE : Hp → Nat → List Addr → List V → Hp
  | H, n, a :: as, x :: xs => putE (upd H a (.tup [.int (n : Int), x])) (n + 1) as xs
  | H, _, _, _ => H
theorem putE_off {b : Addr} : ∀ (as : List Addr) (xs : List V) (n : Nat) (H : Hp), b ∉ as → putE H n as xs b = H b
  | [], _, _, _, _ => rfl
  | _ :: _, [], _, _, _ => rfl
  | a :: as, x :: xs, n, H, h => by
    show putE (upd H a (.tup [.int (n : Int), x])) (n + 1) as xs b = H b
    rw [putE_off as xs (n + 1) _ (fun z => h (List.mem_cons_of_mem _ z)), upd_ne (fun z => h (by rw [z]; exact List.mem_cons_self))]
theorem putE_at : ∀ (as : List Addr) (xs : List V) (n : Nat) (H : Hp), as.Nodup → ∀ (j : Nat) (a : Addr) (x : V), as[j]? = some a → xs[j]? = some x → putE H n as xs a = some (.tup [.int ((n + j : Nat) : Int), x])
  | [], _, _, _, _, j, a, x, h, _ => by simp at h
  | _ :: _, [], _, _, _, j, a, x, _, h => by simp at h
  | b :: as, y :: xs, n, H, nd, 0, a, x, h1, h2 => by
    obtain rfl : b = a := Option.some.inj h1
    obtain rfl : y = x := Option.some.inj h2
    show putE (upd H b (.tup [.int (n : Int), y])) (n + 1) as xs b = _
    rw [putE_off as xs (n + 1) _ (List.nodup_cons.mp nd).1, upd_same]
    rfl
  | b :: as, y :: xs, n, H, nd, j + 1, a, x, h1, h2 => by
    show putE (upd H b (.tup [.int (n : Int), y])) (n + 1) as xs a = _
    rw [putE_at as xs (n + 1) _ (List.nodup_cons.mp nd).2 j a x h1 h2]
    rw [show n + 1 + j = n + (j + 1) from by omega]
theorem vals_at : ∀ {xs : List V} {us : List Value}, Vals xs us → ∀ {i : Nat} {u : Value}, us[i]? = some u → ∃ x, xs[i]? = some x ∧ RelV x u
  | _, _, .nil, i, u, h => by simp at h
  | _, _, .cons r t, 0, u, h => by
    obtain rfl := Option.some.inj h
    exact ⟨_, rfl, r⟩
  | _, _, .cons r t, i + 1, u, h => vals_at t (i := i) (u := u) h
theorem refs_vals : ∀ as : List Addr, Vals (as.map V.ref) (as.map Value.ref)
  | [] => .nil
  | _ :: as => .cons rfl (refs_vals as)
/-- list(enumerate(xs)): a new list of new pairs -/
def rEnumL (K : PySem.W.Frag) : V → Hp → VK → Prop := fun x H Q => ∃ (a : Addr) (xs : List V), x = .ref a ∧ SqL K H a xs ∧ xs.length + 1 ≤ sizeLine ∧
  ∀ (H' : Hp) (p : Addr) (ts : List Addr), Same H H' → H p = none → (∀ t ∈ ts, H t = none) → H' p = some (.lst (ts.map V.ref)) → ts.length = xs.length →
    (∀ (j : Nat) (t : Addr) (y : V), ts[j]? = some t → xs[j]? = some y → H' t = some (.tup [.int (j : Int), y])) → Q (.ref p) H'
def tEnumL (K : PySem.W.Frag) (te : TE) : TE := fun σ H Q => te σ H fun x H1 => rEnumL K x H1 Q
section
variable {X : Cx} {e : Expr} {te : TE} {p p2 pos pos2 : Pos}
theorem pe_listEnum (hm : X.mg "list" = none) (hm2 : X.mg "enumerate" = none) (he : PE X e te) (hc : X.calm = true := by rfl) (hg : Gl X "list" := by rfl) (hg2 : Gl X "enumerate" := by rfl)
    (hs2 : starEach [e] X.env = [(false, eval e X.env)] := by rfl)
    (hs : starEach [.Call (.Name "enumerate" p2) [e] [] pos2] X.env = (false, eval (.Call (.Name "enumerate" p2) [e] [] pos2) X.env) :: starEach [] X.env := by rfl) :
    PE X (.Call (.Name "list" p) [.Call (.Name "enumerate" p2) [e] [] pos2] [] pos) (tEnumL X.K te) := by
  refine ⟨fun pins s σ H Q I hq => ?_⟩
  refine wpAny_Call_Name_kw (ld_blt I hg hm (by decide +kernel : bootBuiltins "list" = some (.type "list")) ?_)
  refine PyProof.Rows.callWith_type1 ?_ hs rfl
  rw [hs]
  show wpAny _ _ (spliced ((false, eval (.Call (.Name "enumerate" p2) [e] [] pos2) X.env) :: backTo pos (starEach [] X.env))) _ _ s
  refine Calls.spliced_cons ?_
  refine Call_ (ld_blt I hg2 hm2 boot_enumerate (PyProof.Rows.callWith_type1 ?_ hs2 rfl))
  rw [hs2]
  show wpAny _ _ (spliced ((false, eval e X.env) :: backTo pos2 (starEach [] X.env))) _ _ s
  refine Calls.spliced_cons (thn (he.run pins s σ H _ I hq) fun v s1 ⟨x, H1, I1, r1, a, xs, ex, hq1, hz1, q⟩ => ?_)
  subst ex
  obtain rfl : v = Value.ref a := r1
  refine Calls.spliced_nil ?_
  obtain ⟨its, rv, pl, hz⟩ := I1.list hq1
  refine call_enumerate_list pl.isList fun h' he' hit hsz hk => ?_
  refine Calls.spliced_nil ?_
  have la : a < s1.heap.objs.size := let ⟨_, z, _⟩ := pl.isList; Heap.lt_size z
  have hlen : its.length = xs.length := rv.length.symm
  refine Enl.call_list (s := { s1 with heap := h' }) (I1.ok.hd hc) he' hit (pl.isList.at fun o z => hk _ o z) (Nat.succ_ne_self _) (Nat.ne_of_lt (Nat.lt_succ_of_lt la)) (Nat.ne_of_lt la) (by rw [List.size_toArray, hlen]; exact hz) fun h2 tk acc c as k1 k2 k3 k4 k5 => ?_
  dsimp only at k1 k2 k3 k4 k5 ⊢
  have keep : ∀ b o, s1.heap.get? b = some o → h2.get? b = some o := fun b o z => k1 b o (Nat.ne_of_lt (Nat.lt_succ_of_lt (Heap.lt_size z))) (Nat.ne_of_lt (Heap.lt_size z)) (hk b o z)
  have big : s1.heap.objs.size ≤ h'.objs.size := by rw [hsz]; omega
  have nd : as.Nodup := List.Pairwise.imp (fun {a b} (z : a < b) => Nat.ne_of_lt z) k4.up
  have nS : h'.objs.size ∉ as := fun z => Nat.lt_irrefl _ (k4.ab _ z)
  have fr : ∀ b, s1.heap.objs.size ≤ b → H1 b = none := fun b z => I1.hok.fresh z
  have frA : ∀ t ∈ as, H1 t = none := fun t z => fr t (Nat.le_trans big (Nat.le_of_lt (k4.ab t z)))
  have lenA : as.length = xs.length := by rw [k3, List.size_toArray, hlen]
  generalize hH2 : putE (upd H1 h'.objs.size (.lst (as.map V.ref))) 0 as xs = H2
  have eS : H2 h'.objs.size = some (.lst (as.map V.ref)) := by rw [← hH2, putE_off as xs 0 _ nS, upd_same]
  have eT : ∀ (j : Nat) (t : Addr) (y : V), as[j]? = some t → xs[j]? = some y → H2 t = some (.tup [.int (j : Int), y]) := fun j t y z1 z2 => by
    have z3 := putE_at as xs 0 (upd H1 h'.objs.size (.lst (as.map V.ref))) nd j t y z1 z2
    rw [Nat.zero_add] at z3
    rw [← hH2]
    exact z3
  have eO : ∀ b, b ≠ h'.objs.size → b ∉ as → H2 b = H1 b := fun b z1 z2 => by rw [← hH2, putE_off as xs 0 _ z2, upd_ne z1]
  have up : ∀ b u, H1 b = some u → H2 b = some u := fun b u z => by
    rw [eO b (fun y => by rw [y, fr _ big] at z; cases z) (fun y => by rw [frA b y] at z; cases z)]
    exact z
  have J : Inv X pins σ H2 { s1 with heap := h2, toks := tk } := by
    refine lay_many I1 keep up (fun b z n => ?_) fun b u z => ?_
    · rw [eO b (fun y => absurd z (Nat.not_lt.mpr (by rw [y]; exact big))) (fun y => absurd z (Nat.not_lt.mpr (Nat.le_trans big (Nat.le_of_lt (k4.ab b y)))))]
      exact n
    · by_cases hb : b ∈ as
      · obtain ⟨j, hj⟩ := List.mem_iff_getElem?.mp hb
        obtain ⟨v, t, w1, w2⟩ := k4.prs j b hj
        rw [List.getElem?_toArray] at w1
        obtain ⟨x, w3, w4⟩ := vals_at rv w1
        have w5 := eT j b x hj w3
        rw [w5] at z
        cases z
        exact .inr ⟨by show 2 ≤ sizeLine; decide, [.int j t, v], .cons ⟨t, rfl⟩ (.cons w4 .nil), ⟨_, w2, rfl, _, rfl⟩⟩
      · by_cases hb2 : b = h'.objs.size
        · subst hb2
          rw [eS] at z
          cases z
          refine .inr ⟨by rw [List.length_map, lenA]; omega, acc.toList, c, by rw [k5]; exact refs_vals as, ?_⟩
          rw [Array.toArray_toList]
          exact k2
        · rw [eO b hb2 hb] at z
          exact .inl z
  exact ⟨.ref _, H2, J, rfl, q H2 _ as up (fr _ big) frA eS lenA eT⟩
end
end Enl

namespace Sp
open PySem L2
/-! ### a def of the text that keeps its promise, by its name -/
structure Cal (P : Program) (w : World) (K : PySem.W.Frag) (mg : Str → Option Value) (base : Heap) (k : Nat) (x : Str) (ps : List Str) (sp : Sp) : Prop where
  ex : ∃ (f : Addr) (fd : FuncData), FnOk P w K mg base CX0 k f fd ps sp ∧ mg x = some (.ref f) ∧ PySem.W.keepIn K (.ref f) = true ∧ Binds K fd ps []
theorem pe_own {X : Cx} {k : Nat} {x : Str} {ps : List Str} {sp : Sp} {e : Expr} {es : List Expr} {t : TA} {p pos : Pos} (c : Cal X.prog X.w X.K X.mg X.base k x ps sp) (hr : Room k X.A) (hg : Gl X x) (ha : PA X (e :: es) t)
    (hdb : (x == ("__debug__" : Str)) = false := by decide) (he : starEach (e :: es) X.env = (false, eval e X.env) :: starEach es X.env := by rfl) (hpl : (backTo pos (starEach es X.env)).any (·.1) = false := by rfl) :
    PE X (.Call (.Name x p) (e :: es) [] pos) (tCall sp [] E0 t) := by
  obtain ⟨f, fd, F, m, kp, b⟩ := c.ex
  exact pe_call F hr hg m kp b .nil pass0 ha hdb he hpl
theorem Cal.imp {P : Program} {w : World} {K : PySem.W.Frag} {mg : Str → Option Value} {base : Heap} {k : Nat} {x : Str} {ps : List Str} {sp sp' : L2.Sp} (c : Cal P w K mg base k x ps sp) (h : ∀ vs H Q E, sp' vs H Q E → sp vs H Q E) : Cal P w K mg base k x ps sp' := by
  obtain ⟨f, fd, F, m, kp, b⟩ := c.ex
  exact ⟨f, fd, F.imp h, m, kp, b⟩
/-- the built-ins' names are not the module's -/
structure Bt (mg : Str → Option Value) : Prop where
  len_ : mg "len" = none
  list_ : mg "list" = none
  enumerate_ : mg "enumerate" = none
  int_ : mg "int" = none
  bool_ : mg "bool" = none
  sum_ : mg "sum" = none
  sorted_ : mg "sorted" = none
  min_ : mg "min" = none
  max_ : mg "max" = none
  range_ : mg "range" = none
  isinstance_ : mg "isinstance" = none
  repr_ : mg "repr" = none
/-! ### heaps: all stays but the hand at a -/
/-- the hand: two whole numbers -/
def HandAt (H : Hp) (a : Addr) : Prop := ∃ x y : Int, H a = some (.lst [.int x, .int y]) ∧ 0 ≤ x ∧ 0 ≤ y ∧ y < 2147483587
structure Ext (a : Addr) (H H' : Hp) : Prop where
  keep : ∀ b o, H b = some o → b ≠ a → H' b = some o
  hand : HandAt H a → HandAt H' a
theorem Ext.refl {a : Addr} {H : Hp} : Ext a H H := ⟨fun _ _ h _ => h, fun h => h⟩
theorem Ext.trans {a : Addr} {H H1 H2 : Hp} (e : Ext a H H1) (f : Ext a H1 H2) : Ext a H H2 := ⟨fun b o h n => f.keep b o (e.keep b o h n) n, fun h => f.hand (e.hand h)⟩
theorem HandAt.same {a : Addr} {H H' : Hp} (s : Same H H') (h : HandAt H a) : HandAt H' a := by
  obtain ⟨x, y, e, r⟩ := h
  exact ⟨x, y, s _ _ e, r⟩
theorem Ext.same {a : Addr} {H H' : Hp} (s : Same H H') : Ext a H H' := ⟨fun b o h _ => s b o h, fun h => h.same s⟩
theorem same_new {H : Hp} {p : Addr} {o : HO} (h : H p = none) : Same H (upd H p o) := fun b x e => by
  rw [upd_ne (ne_of_none e h)]
  exact e
theorem Ext.new {a : Addr} {H : Hp} {p : Addr} {o : HO} (h : H p = none) : Ext a H (upd H p o) := .same (same_new h)
theorem HandAt.ne {a p : Addr} {H : Hp} (h : HandAt H a) (n : H p = none) : p ≠ a := by
  obtain ⟨x, y, e, r⟩ := h
  exact fun z => by rw [z, e] at n; cases n
theorem Ext.made {a : Addr} {H H' : Hp} (e : Ext a H H') (n : H a = none) : Same H H' := fun b o h => e.keep b o h (fun z => by rw [z, n] at h; cases h)
theorem Ext.free {a b : Addr} {H H' : Hp} (e : Ext a H H') (n : b ≠ a) (h : H' b = none) : H b = none := by
  cases q : H b with
  | none => rfl
  | some o => rw [e.keep b o q n] at h; cases h
/-- a list of whole numbers that stands still -/
def Nums (H : Hp) (a p : Addr) (ns : List Int) : Prop := H p = some (.lst (ns.map V.int)) ∧ p ≠ a
theorem Nums.up {H H' : Hp} {a p : Addr} {ns : List Int} (n : Nums H a p ns) (e : Ext a H H') : Nums H' a p ns := ⟨e.keep _ _ n.1 n.2, n.2⟩
theorem Nums.sq {K : PySem.W.Frag} {H : Hp} {a p : Addr} {ns : List Int} (n : Nums H a p ns) : SqL K H p (ns.map V.int) := .inl (.inl n.1)
theorem seqExt {K : PySem.W.Frag} {H H' : Hp} {a p : Addr} {xs : List V} (e : Ext a H H') (n : p ≠ a) (h : SqL K H p xs) : SqL K H' p xs := by
  rcases h with (h | ⟨o, h⟩) | h
  · exact .inl (.inl (e.keep _ _ h n))
  · exact .inl (.inr ⟨o, e.keep _ _ h n⟩)
  · exact .inr h
/-! ### numbers -/
theorem wide30 {n : Int} (h0 : 0 < n) (h : n < 2 ^ 62) : CDivW (0 : Int) n := wide_div (b := 62) h0 (by omega) (by decide) (by decide)
theorem divW {i n : Int} (h0 : 0 < n) (h : n < 2 ^ 62) : CDivW i n := wide_div (b := 62) h0 (by omega) (by decide) (by decide)
theorem mulW {i j : Int} (h1 : -(2 ^ 200) < i) (h2 : i < 2 ^ 200) (h3 : -(2 ^ 200) < j) (h4 : j < 2 ^ 200) : CMulW i j := wide_mul (a := 200) (b := 200) (by omega) (by omega) (by decide) (by decide) (by decide)
theorem small {n : Nat} (h : n ≤ 100000) : n ≤ sizeLine := Nat.le_trans h (by decide)
theorem smallLt {n : Nat} (h : n ≤ 100000) : n < sizeLine := Nat.lt_of_le_of_lt h (by decide)
theorem at0 {α : Type} {x : α} {r : List α} : atI (x :: r) 0 = some x := atI_nat (j := 0) rfl
theorem at1 {α : Type} {x y : α} {r : List α} : atI (x :: y :: r) 1 = some y := atI_nat (j := 1) rfl
/-! ### the promises of the law's own small defs -/
def spHand : L2.Sp := fun vs H Q _ => ∃ c k : Int, vs = [.int c, .int k] ∧ 0 ≤ k ∧ k ≤ 1000 ∧ ∀ p x y, H p = none → 0 ≤ x → 0 ≤ y → y < 2147483587 → Q (.ref p) (upd H p (.lst [.int x, .int y]))
def spDraw : L2.Sp := fun vs H Q _ => ∃ (a : Addr) (n : Int), vs = [.ref a, .int n] ∧ HandAt H a ∧ 0 < n ∧ n < 2 ^ 62 ∧ ∀ r H', 0 ≤ r → r < n → HandAt H' a → (∀ b, b ≠ a → H' b = H b) → Q (.int r) H'
theorem drawn {a : Addr} {H H' : Hp} (h : HandAt H' a) (k : ∀ b, b ≠ a → H' b = H b) : Ext a H H' := ⟨fun b o e n => by rw [k b n]; exact e, fun _ => h⟩
end Sp

namespace Sp
open PySem L2
/-! ### lists of whole numbers as data -/
abbrev di (ns : List Int) : PyData := .list (ns.map PyData.int)
theorem dpAll_ints {K : PySem.W.Frag} {H : Hp} : ∀ ns : List Int, DpAll K H (ns.map V.int) (ns.map PyData.int)
  | [] => .nil
  | n :: ns => .cons (.int n) (dpAll_ints ns)
theorem dp_ints {K : PySem.W.Frag} {H : Hp} {p : Addr} {ns : List Int} (h : SqL K H p (ns.map V.int)) : Dp K H (.ref p) (di ns) := .lst h (dpAll_ints ns)
theorem lay_ints : ∀ ns : List Int, PyData.canLayAll0 (ns.map PyData.int) = true
  | [] => by rw [List.map_nil, PyData.canLayAll0]
  | n :: ns => by rw [List.map_cons, PyData.canLayAll0, lay_ints ns, PyData.canLay0]; rfl
theorem dep_ints : ∀ ns : List Int, PyData.depthAll (ns.map PyData.int) = 0
  | [] => by rw [List.map_nil, PyData.depthAll]
  | n :: ns => by rw [List.map_cons, PyData.depthAll, dep_ints ns, PyData.depth]; rfl
theorem shaped_ints (ns : List Int) : SeqAt.shaped (di ns) = true := by
  unfold SeqAt.shaped
  rw [PyData.canLay0, lay_ints, PyData.depth, dep_ints]
  rfl
theorem eqvAll_ints : ∀ ns ms : List Int, PyData.eqvAll (ns.map PyData.int) (ms.map PyData.int) = decide (ns = ms)
  | [], [] => by rw [List.map_nil, PyData.eqvAll]; rfl
  | [], _ :: _ => by rw [List.map_nil, List.map_cons, PyData.eqvAll]; rfl
  | _ :: _, [] => by rw [List.map_nil, List.map_cons, PyData.eqvAll]; rfl
  | n :: ns, m :: ms => by
    rw [List.map_cons, List.map_cons, PyData.eqvAll, eqvAll_ints ns ms, PyData.eqv]
    by_cases h : n = m
    · by_cases h2 : ns = ms
      · subst h; subst h2; simp
      · simp [h, h2]
    · simp [h]
theorem eqv_ints (ns ms : List Int) : PyData.eqv (di ns) (di ms) = decide (ns = ms) := by rw [PyData.eqv, eqvAll_ints]
theorem eqvAll_same {xs : List PyData} (h : ∀ x ∈ xs, PyData.eqv x x = true) : PyData.eqvAll xs xs = true := by
  induction xs with
  | nil => rw [PyData.eqvAll]
  | cons x xs ih => rw [PyData.eqvAll, h x List.mem_cons_self, ih fun y hy => h y (List.mem_cons_of_mem _ hy)]; rfl
theorem SqL.new {K : PySem.W.Frag} {H : Hp} {p : Addr} {xs : List V} (h : H p = some (.lst xs)) : SqL K H p xs := .inl (.inl h)
theorem rep_one {x : V} (k : Nat) : (List.replicate k [x]).flatten = List.replicate k x := by
  induction k with
  | zero => rfl
  | succ k ih => rw [List.replicate_succ, List.flatten_cons, ih]; rfl
theorem rep_int (x : Int) (k : Nat) : List.replicate k (V.int x) = (List.replicate k x).map V.int := by rw [List.map_replicate]
theorem cut_len (xs : List V) (lo hi : Option Int) : (cutV xs lo hi).length ≤ xs.length := cutV_length xs lo hi
theorem cut_map {ns : List Int} (lo hi : Option Int) : ∃ ms : List Int, cutV (ns.map V.int) lo hi = ms.map V.int ∧ ms.length ≤ ns.length ∧ ∀ m ∈ ms, m ∈ ns := by
  refine ⟨(ns.drop (HT.sIx ns.length 0 lo)).take (HT.sIx ns.length ns.length hi - HT.sIx ns.length 0 lo), ?_, ?_, ?_⟩
  · unfold cutV
    rw [List.length_map, List.map_take, List.map_drop]
  · exact Nat.le_trans (List.length_take_le' _ _) (by rw [List.length_drop]; omega)
  · intro m hm
    exact List.mem_of_mem_drop (List.mem_of_mem_take hm)
theorem int_at {ns : List Int} {i : Nat} {x : V} (h : (ns.map V.int)[i]? = some x) : ∃ n, ns[i]? = some n ∧ x = .int n := by
  rw [List.getElem?_map] at h
  cases e : ns[i]? with
  | none => rw [e] at h; cases h
  | some n => rw [e] at h; exact ⟨n, rfl, (Option.some.inj h).symm⟩
theorem ref_at {ts : List Addr} {i : Nat} {x : V} (h : (ts.map V.ref)[i]? = some x) : ∃ t, ts[i]? = some t ∧ x = .ref t := by
  rw [List.getElem?_map] at h
  cases e : ts[i]? with
  | none => rw [e] at h; cases h
  | some n => rw [e] at h; exact ⟨n, rfl, (Option.some.inj h).symm⟩
theorem int_mem {ns : List Int} {i : Nat} {n : Int} (h : ns[i]? = some n) : n ∈ ns := List.mem_of_getElem? h
/-- the item at a place of a written list, the place drawn -/
theorem at_draw {α : Type} {xs : List α} {r : Int} (h0 : 0 ≤ r) (h1 : r < xs.length) : ∃ x, atI xs r = some x ∧ x ∈ xs := by
  obtain ⟨j, rfl⟩ : ∃ j : Nat, r = (j : Int) := ⟨r.toNat, by omega⟩
  have hj : j < xs.length := by omega
  exact ⟨xs[j], atI_nat (List.getElem?_eq_getElem hj), List.getElem_mem hj⟩
/-! ### the promises -/
def spCells (K : PySem.W.Frag) : L2.Sp := fun vs H Q _ => ∃ (s : Addr) (m : Nat) (ns : List Int), vs = [.ref s, .int m] ∧ SqL K H s (ns.map V.int) ∧ ns.length ≤ 63 ∧ m ≤ 63 ∧
  ∀ (H' : Hp) (p : Addr) (ts : List Addr) (cs : List Int), Same H H' → H p = none → H' p = some (.lst (ts.map V.ref)) → ts.length = cs.length → cs.length ≤ 64 →
    (∀ (j : Nat) (t : Addr) (c : Int), ts[j]? = some t → cs[j]? = some c → H' t = some (.tup [.int (j : Int), .int c])) → Q (.ref p) H'
def spGreat (K : PySem.W.Frag) : L2.Sp := fun vs H Q _ => ∃ (s : Addr) (ns : List Int), vs = [.ref s] ∧ SqL K H s (ns.map V.int) ∧ ∀ b, Q (.bl b) H
/-- sorted, none beyond 10 ** 15 -/
def Fine (ns : List Int) : Prop := ns.Pairwise (· ≤ ·) ∧ ∀ n ∈ ns, -1000000000000000 ≤ n ∧ n ≤ 1000000000000000
def spRow : L2.Sp := fun vs H Q _ => ∃ (a : Addr) (lo hi : Nat), vs = [.ref a, .int (lo : Int), .int (hi : Int)] ∧ HandAt H a ∧ lo ≤ hi ∧ hi ≤ 300 ∧
  ∀ (p : Addr) (ns : List Int) (H' : Hp), Ext a H H' → H p = none → H' p = some (.lst (ns.map V.int)) → lo ≤ ns.length → ns.length ≤ hi → Fine ns → Q (.ref p) H'
def spWhole : L2.Sp := fun vs H Q _ => ∃ x y : Int, vs = [.int x, .int y] ∧ Q (.bl (decide (x = y))) H
end Sp
namespace Sp
open PySem L2
/-! ### the numbers of a row below one -/
def cntB (ns : List Int) (n : Int) : Nat := ns.countP fun x => decide (x < n)
def spBelow (K : PySem.W.Frag) : L2.Sp := fun vs H Q _ => ∃ (p : Addr) (ns : List Int) (n : Int), vs = [.ref p, .int n] ∧ SqL K H p (ns.map V.int) ∧ ns.Pairwise (· ≤ ·) ∧ Q (.int (cntB ns n : Nat)) H
theorem cntB_le (ns : List Int) (n : Int) : cntB ns n ≤ ns.length := List.countP_le_length
/-- what stands ahead of the count is below, what stands behind is not -/
theorem cntB_lt : ∀ {ns : List Int} {n : Int}, ns.Pairwise (· ≤ ·) → ∀ {i : Nat} {x : Int}, ns[i]? = some x → (x < n ↔ i < cntB ns n)
  | [], n, _, i, x, h => by simp at h
  | y :: ns, n, hp, i, x, h => by
    have hp' := List.pairwise_cons.mp hp
    unfold cntB
    rw [List.countP_cons]
    by_cases hy : y < n
    · rw [if_pos (decide_eq_true hy)]
      cases i with
      | zero =>
        have e : y = x := Option.some.inj h
        subst e
        exact ⟨fun _ => Nat.succ_pos _, fun _ => hy⟩
      | succ i =>
        have ih := cntB_lt (n := n) hp'.2 (i := i) (x := x) h
        unfold cntB at ih
        rw [ih]
        omega
    · have z : List.countP (fun x => decide (x < n)) ns = 0 := by
        rw [List.countP_eq_zero]
        intro a ha hn
        have h1 := hp'.1 a ha
        have h2 := of_decide_eq_true hn
        omega
      rw [if_neg (by simpa using hy), z]
      cases i with
      | zero =>
        have e : y = x := Option.some.inj h
        subst e
        exact ⟨fun h => absurd h hy, fun h => absurd h (Nat.lt_irrefl _)⟩
      | succ i =>
        have h1 := hp'.1 x (List.mem_of_getElem? h)
        constructor
        · intro h2; omega
        · intro h2; omega
end Sp
namespace Sp
open PySem L2
def spTo (K : PySem.W.Frag) : L2.Sp := fun vs H Q _ => ∃ (p : Addr) (ns : List Int) (n : Int), vs = [.ref p, .int n] ∧ SqL K H p (ns.map V.int) ∧ ns.Pairwise (· ≤ ·) ∧ Q (.int (cntB ns (n + 1) : Nat)) H
end Sp
namespace Sp
open PySem L2
/-- by one step -/
def stepped (b s : Int) (m : Nat) : List Int := (List.range m).map fun (k : Nat) => b + s * (k : Int)
theorem stepped_succ (b s : Int) (m : Nat) : stepped b s (m + 1) = stepped b s m ++ [b + s * (m : Int)] := by
  unfold stepped
  rw [List.range_succ, List.map_append, List.map_singleton]
theorem stepped_len (b s : Int) (m : Nat) : (stepped b s m).length = m := by unfold stepped; rw [List.length_map, List.length_range]
theorem stepped_mem {b s x : Int} {m : Nat} (h : x ∈ stepped b s m) : ∃ k : Nat, k < m ∧ x = b + s * (k : Int) := by
  unfold stepped at h
  obtain ⟨k, hk, rfl⟩ := List.mem_map.mp h
  exact ⟨k, List.mem_range.mp hk, rfl⟩
theorem stepped_sorted {b s : Int} (hs : 0 ≤ s) : ∀ m : Nat, (stepped b s m).Pairwise (· ≤ ·)
  | 0 => List.Pairwise.nil
  | m + 1 => by
    rw [stepped_succ]
    refine List.pairwise_append.mpr ⟨stepped_sorted hs m, List.pairwise_singleton _ _, fun x hx y hy => ?_⟩
    obtain ⟨k, hk, rfl⟩ := stepped_mem hx
    rw [List.mem_singleton.mp hy]
    have h1 : (k : Int) ≤ (m : Int) := by omega
    have h2 := Int.mul_le_mul_of_nonneg_left h1 hs
    omega
theorem perm_fine {ns ms : List Int} (hp : ms.Perm ns) (hs : ms.Pairwise (· ≤ ·)) (hb : ∀ n ∈ ns, -1000000000000000 ≤ n ∧ n ≤ 1000000000000000) : Fine ms := ⟨hs, fun n hn => hb n (hp.mem_iff.mp hn)⟩
end Sp
namespace Sp
open PySem L2
theorem fil_take {α : Type} {xs : List α} {f : α → Bool} {i : Nat} {x : α} (h : xs[i]? = some x) : (xs.take (i + 1)).filter f = (xs.take i).filter f ++ (if f x = true then [x] else []) := by
  rw [List.take_add_one, h, List.filter_append]
  cases e : f x with
  | true => simp [e]
  | false => simp [e]
theorem take_all {α : Type} (xs : List α) : xs.take xs.length = xs := List.take_length
theorem fil_len (ns : List Int) (n : Int) : (ns.filter fun x => decide (x < n)).length = cntB ns n := List.countP_eq_length_filter.symm
theorem fil_len_le (ns : List Int) (n : Int) : (ns.filter fun x => decide (x ≤ n)).length = cntB ns (n + 1) := by
  unfold cntB
  rw [List.countP_eq_length_filter]
  congr 1
  refine List.filter_congr fun x _ => ?_
  by_cases h : x ≤ n
  · rw [decide_eq_true h, decide_eq_true (show x < n + 1 by omega)]
  · rw [decide_eq_false h, decide_eq_false (show ¬ x < n + 1 by omega)]
def spRight3 (K : PySem.W.Frag) : L2.Sp := fun vs H Q _ => ∃ (p : Addr) (ns : List Int) (n : Int), vs = [.ref p, .int n] ∧ SqL K H p (ns.map V.int) ∧ ns.Pairwise (· ≤ ·) ∧ ns.length ≤ 1000 ∧ ∀ H', Same H H' → Q (.bl true) H'
end Sp
namespace Sp
open PySem L2
/-- a turn of [x for x in ns if f x]: kept or left out -/
theorem fil_yes {H0 H : Hp} {D : Addr} {ns : List Int} {f : Int → Bool} {i : Nat} {y : Int} (nD : H0 D = none) (w1 : Same H0 H) (w2 : H D = some (.lst (((ns.take i).filter f).map V.int))) (hy : ns[i]? = some y) (hl : ns.length ≤ 1000) (h : f y = true) :
    ∃ acc, H D = some (.lst acc) ∧ acc.length < sizeLine ∧ Same H0 (upd H D (.lst (acc ++ [V.int y]))) ∧ (upd H D (.lst (acc ++ [V.int y]))) D = some (.lst (((ns.take (i + 1)).filter f).map V.int)) := by
  refine ⟨_, w2, smallLt ?_, fun c o hc => ?_, ?_⟩
  · have h1 : ((ns.take i).filter f).length ≤ (ns.take i).length := List.length_filter_le _ _
    have h2 : (ns.take i).length ≤ ns.length := List.length_take_le' _ _
    rw [List.length_map]
    omega
  · rw [upd_ne (ne_of_none hc nD)]
    exact w1 c o hc
  · rw [upd_same, fil_take hy, if_pos h, List.map_append]
    rfl
theorem fil_no {H : Hp} {D : Addr} {ns : List Int} {f : Int → Bool} {i : Nat} {y : Int} (w2 : H D = some (.lst (((ns.take i).filter f).map V.int))) (hy : ns[i]? = some y) (h : ¬ f y = true) : H D = some (.lst (((ns.take (i + 1)).filter f).map V.int)) := by
  rw [fil_take hy, if_neg h, List.append_nil]
  exact w2
end Sp
namespace Sp
open PySem L2
def spLaw (K : PySem.W.Frag) : L2.Sp := fun vs H Q _ => ∃ (a : Addr) (ns : List Int), vs = [.ref a] ∧ SqL K H a (ns.map V.int) ∧ ns.length ≤ 63 ∧ ∀ H', Q (.bl true) H'
/-- a row of the law: sorted, small, no hand -/
structure RowAt (H : Hp) (a p : Addr) (ns : List Int) : Prop where
  at_ : H p = some (.lst (ns.map V.int))
  ne : p ≠ a
  fine : Fine ns
  len : ns.length ≤ 300
theorem RowAt.up {H H' : Hp} {a p : Addr} {ns : List Int} (r : RowAt H a p ns) (e : Ext a H H') : RowAt H' a p ns := ⟨e.keep _ _ r.at_ r.ne, r.ne, r.fine, r.len⟩
theorem RowAt.sq {K : PySem.W.Frag} {H : Hp} {a p : Addr} {ns : List Int} (r : RowAt H a p ns) : SqL K H p (ns.map V.int) := SqL.new r.at_
end Sp
namespace Sp
open PySem L2
theorem RowAt.hne {H : Hp} {a p : Addr} {ns : List Int} (r : RowAt H a p ns) : p ≠ a := r.ne
/-- one more item at a comprehension's list, the hand apart -/
theorem ext_app {a D : Addr} {H0 H : Hp} {xs : List V} (nD : H0 D = none) (nDa : D ≠ a) (e : Ext a H0 H) : Ext a H0 (upd H D (.lst xs)) := ⟨fun c o hc hca => by
    rw [upd_ne (ne_of_none hc nD)]
    exact e.keep c o hc hca, fun hh => by
    obtain ⟨u, v, e1, r⟩ := e.hand hh
    exact ⟨u, v, by rw [upd_ne nDa.symm]; exact e1, r⟩⟩
theorem same_app {D : Addr} {H0 H : Hp} {xs : List V} (nD : H0 D = none) (e : Same H0 H) : Same H0 (upd H D (.lst xs)) := fun c o hc => by
    rw [upd_ne (ne_of_none hc nD)]
    exact e c o hc
theorem map_app1 {xs : List Int} {y : Int} : xs.map V.int ++ [V.int y] = (xs ++ [y]).map V.int := by rw [List.map_append]; rfl
end Sp

namespace Rv
open PySem PySem.W PyProof.Rows L2
section
variable {prog : Program} {w : World} {A : Around} {E : Value → Shared → Prop} {s : Shared}
/-- (u, v)[::-1], raw -/
theorem get_rev2 {t sl : Addr} {u v vs : Value} {Q : Value → Shared → Prop} (ht : IsTup s.heap t #[u, v]) (hs : s.heap.IsSliceOf sl .none .none vs) (ps : IsPart vs (some (-1)))
    (h : Q (.ref s.heap.objs.size) { s with heap := s.heap.push { cls := .type "tuple", data := .seq #[v, u] } }) : wpAny (model prog w) A (getItem (.ref t) (.ref sl)) Q E s := by
  obtain ⟨os, hos, hcs, hds⟩ := id hs
  have hTs : s.TypeIs (.ref sl) "slice" := ⟨os, hos, hcs⟩
  unfold getItem
  try with_reducible refine wpAny_holding ?_
  first | refine wpAny_bind (wpAny_pure ?_) | skip
  refine wpAny_bind (wpAny_sequenceKey ht.typeIs (by decide) ?_)
  refine wpAny_bind (wpAny_callSpecial?_slot (name := Str.ofString "__getitem__") ht.typeIs PyProof.Rows.slot_tuple_getitem (wpAny_call_entry PyProof.Rows.slot_tuple_getitem ht.typeIs entry_tuple_getitem ?_ (args_tuple_getitem _ _)))
  show wpAny _ _ (Builtin.Tuple.tupleItemsOf (.ref t) >>= _) _ _ s
  refine wpAny_bind (tupleItemsOf_ ht ?_)
  refine wpAny_bind (wpAny_typeOf hTs ?_)
  rw [if_pos (by decide)]
  refine wpAny_bind ?_
  unfold Builtin.Slice.sliceApplied Builtin.Slice.sliceFields
  refine wpAny_bind (wpAny_bind (wpAny_field hos hds (x := Value.none) rfl (wpAny_bind (wpAny_field hos hds (x := Value.none) rfl (wpAny_bind (wpAny_field hos hds (x := vs) rfl (wpAny_pure ?_)))))))
  refine wpAny_bind (HT.slicePart_ ps ?_)
  show wpAny _ _ (if ((-1 : Int) == 0) = true then _ else _) _ _ s
  rw [if_neg (by decide)]
  refine wpAny_bind (slicePart_none (wpAny_bind (slicePart_none (wpAny_bind (wpAny_pure ?_)))))
  show wpAny _ _ (match Builtin.Slice.sliceAdjust none none (-1) (2 : Int) with | (lo, hi) => pure (lo, (-1 : Int), Builtin.Slice.slicePlaces lo hi (-1))) _ _ s
  have e1 : Builtin.Slice.sliceAdjust none none (-1) (2 : Int) = (1, -1) := by decide +kernel
  have e2 : Builtin.Slice.slicePlaces (1 : Int) (-1) (-1) = 2 := by decide +kernel
  rw [e1]
  show wpAny _ _ (pure ((1 : Int), (-1 : Int), Builtin.Slice.slicePlaces (1 : Int) (-1) (-1))) _ _ s
  rw [e2]
  refine wpAny_pure ?_
  show wpAny _ _ (if ((1 : Int) == 0 && (-1 : Int) == 1 && (2 : Nat) == #[u, v].size) = true then _ else _) _ _ s
  rw [if_neg (by rw [show ((1 : Int) == 0) = false from rfl]; exact Bool.false_ne_true)]
  have e3 : ((List.range 2).filterMap fun (k : Nat) => #[u, v][((1 : Int) + (k : Int) * (-1)).toNat]?).toArray = #[v, u] := rfl
  rw [e3]
  have htake : sizeOk (.seq #[v, u]) := by show 2 ≤ sizeLine; decide
  first
    | exact wpAny_bind (m := Builtin.Tuple.tupleExact _) (wpAny_newObj_type (wpAny_pure ⟨_, rfl, wpAny_pure h⟩) htake)
    | exact wpAny_bind (m := Builtin.Tuple.tupleExact _) (wpAny_newObj_type (wpAny_bind (wpAny_pure (wpAny_pure ⟨_, rfl, wpAny_pure h⟩))) htake)
    | exact wpAny_bind (wpAny_bind (m := Builtin.Tuple.tupleExact _) (wpAny_newObj_type (wpAny_pure (wpAny_pure ⟨_, rfl, wpAny_pure h⟩)) htake))
end
/-- t[::-1], t a pair -/
def tRev2 (K : PySem.W.Frag) (te : TE) : TE := fun σ H Q => te σ H fun x H1 => ∃ a u v, x = .ref a ∧ SqT K H1 a [u, v] ∧ ∀ p, H1 p = none → Q (.ref p) (upd H1 p (.tup [v, u]))
theorem pe_rev2 {X : Cx} {e : Expr} {te : TE} {k : Nat} {p1 p2 p3 pos : Pos} (he : PE X e te) : PE X (.Subscript e (.Slice none none (some (.UnaryOp .USub (.Constant (.int 1) k p1) p2)) p3) pos) (tRev2 X.K te) := by
  refine ⟨fun pins s σ H Q I h => ?_⟩
  refine Subscript_ (thn (he.run pins s σ H _ I h) fun v s1 ⟨x, H1, I1, r1, q1⟩ => ?_)
  obtain ⟨a, u, w', rfl, hx, q⟩ := q1
  cases r1
  have hst : PO X (some (.UnaryOp .USub (.Constant (.int 1) k p1) p2)) (tPart (tUn (rU fun i => .int (-i)) (tC (.int 1)))) := po_some (pe_un un_neg pe_int)
  refine wpAny_Slice (thn (po_none.run pins s1 σ H1 (fun o H2 => o = none ∧ H2 = H1) I1 ⟨rfl, rfl⟩) fun vl s2 ⟨l, H2, I2, pl, el, e2⟩ => ?_)
  subst el e2
  refine thn (po_none.run pins s2 σ H2 (fun o H3 => o = none ∧ H3 = H2) I2 ⟨rfl, rfl⟩) fun vu s3 ⟨u3, H3, I3, pu, eu, e3⟩ => ?_
  subst eu e3
  refine thn (hst.run pins s3 σ H3 (fun o H4 => o = some (-1) ∧ H4 = H3) I3 ⟨1, rfl, -1, rfl, rfl, rfl⟩) fun vs s4 ⟨o, H4, I4, ps, eo, e4⟩ => ?_
  subst eo e4
  cases pl
  cases pu
  have I5 : Inv X pins σ H4 { s4 with heap := s4.heap.push { cls := .type "slice", data := .fields #[Value.none, Value.none, vs] } } := I4.kept (t' := s4.toks) fun b ob q => Heap.get?_push_of_some _ q
  obtain ⟨its, r, ht, hz⟩ := I5.tuple hx
  cases r with
  | cons ra rr =>
    cases rr with
    | cons rb rc =>
      cases rc
      show wpAny (model X.prog X.w) X.A (subscriptTail e (.Slice none none (some (.UnaryOp .USub (.Constant (.int 1) k p1) p2)) p3) (.ref a) (.ref s4.heap.objs.size)) (EP X pins σ Q) X.xe { s4 with heap := s4.heap.push { cls := .type "slice", data := .fields #[Value.none, Value.none, vs] } }
      refine tail_any (ops := [.ref a, .ref s4.heap.objs.size]) ht.typeIs (PyProof.Rows.slot_tuple_getitem.lookup) ?_ (by with_unfolding_all rfl)
      refine get_rev2 ht (Heap.IsSliceOf.new _ Value.none Value.none vs) ps ?_
      exact ⟨.ref _, _, I5.laid (t' := s4.toks) (o := .tup [w', u]) (fun b ob q => Heap.get?_push_of_some _ q) (Nat.le_refl _) ⟨by show 2 ≤ sizeLine; decide, _, .cons rb (.cons ra .nil), IsTup.new _ _⟩, rfl, q _ (I5.hok.fresh (Nat.le_refl _))⟩
end Rv

namespace Sp
open PySem L2
/-! ### sums below -/
def cntS (ns ms : List Int) (n : Int) : Nat := (ns.map fun x => cntB ms (n - x)).sum
theorem cntB_mono {ms : List Int} {n m : Int} (h : n ≤ m) : cntB ms n ≤ cntB ms m := by
  unfold cntB
  refine List.countP_mono_left fun x _ hx => ?_
  have := of_decide_eq_true hx
  exact decide_eq_true (by omega)
theorem cntS_nil (ms : List Int) (n : Int) : cntS [] ms n = 0 := rfl
theorem cntS_snoc (ns ms : List Int) (x n : Int) : cntS (ns ++ [x]) ms n = cntS ns ms n + cntB ms (n - x) := by
  unfold cntS
  rw [List.map_append, List.sum_append]
  rfl
theorem take_snoc {α : Type} {xs : List α} {i : Nat} {x : α} (h : xs[i]? = some x) : xs.take (i + 1) = xs.take i ++ [x] := by rw [List.take_add_one, h]; rfl
theorem sorted_le {ns : List Int} (hp : ns.Pairwise (· ≤ ·)) {i j : Nat} {x y : Int} (hx : ns[i]? = some x) (hy : ns[j]? = some y) (h : i ≤ j) : x ≤ y := by
  obtain ⟨h1, e1⟩ := List.getElem?_eq_some_iff.mp hx
  obtain ⟨h2, e2⟩ := List.getElem?_eq_some_iff.mp hy
  rcases Nat.lt_or_eq_of_le h with h | h
  · have := (List.pairwise_iff_getElem.mp hp) i j h1 h2 h
    rw [e1, e2] at this
    exact this
  · subst h
    rw [hx] at hy
    rw [Option.some.inj hy]
    exact Int.le_refl _
theorem cnt_sum (ms : List Int) (x n : Int) : (ms.filter fun y => decide (x + y < n)).length = cntB ms (n - x) := by
  unfold cntB
  rw [List.countP_eq_length_filter]
  congr 1
  refine List.filter_congr fun y _ => ?_
  by_cases h : x + y < n
  · rw [decide_eq_true h, decide_eq_true (show y < n - x by omega)]
  · rw [decide_eq_false h, decide_eq_false (show ¬ y < n - x by omega)]
theorem cnt_sum_le (ms : List Int) (x n : Int) : (ms.filter fun y => decide (x + y ≤ n)).length = cntB ms (n + 1 - x) := by
  unfold cntB
  rw [List.countP_eq_length_filter]
  congr 1
  refine List.filter_congr fun y _ => ?_
  by_cases h : x + y ≤ n
  · rw [decide_eq_true h, decide_eq_true (show y < n + 1 - x by omega)]
  · rw [decide_eq_false h, decide_eq_false (show ¬ y < n + 1 - x by omega)]
def spSums (K : PySem.W.Frag) : L2.Sp := fun vs H Q _ => ∃ (p q : Addr) (ns ms : List Int) (n : Int), vs = [.ref p, .ref q, .int n] ∧ SqL K H p (ns.map V.int) ∧ SqL K H q (ms.map V.int) ∧ ns.Pairwise (· ≤ ·) ∧ ms.Pairwise (· ≤ ·) ∧ Q (.int (cntS ns ms n : Nat)) H
def spSumsTo (K : PySem.W.Frag) : L2.Sp := fun vs H Q _ => ∃ (p q : Addr) (ns ms : List Int) (n : Int), vs = [.ref p, .ref q, .int n] ∧ SqL K H p (ns.map V.int) ∧ SqL K H q (ms.map V.int) ∧ ns.Pairwise (· ≤ ·) ∧ ms.Pairwise (· ≤ ·) ∧ Q (.int (cntS ns ms (n + 1) : Nat)) H
/-- the law's own count, pair by pair -/
def spDue (K : PySem.W.Frag) (d : Int) : L2.Sp := fun vs H Q _ => ∃ (p q : Addr) (ns ms : List Int) (n : Int), vs = [.ref p, .ref q, .int n] ∧ SqL K H p (ns.map V.int) ∧ SqL K H q (ms.map V.int) ∧ ms.length ≤ 1000 ∧ ∀ H', Same H H' → Q (.int (cntS ns ms (n + d) : Nat)) H'
/-- two rows in a pair -/
def spTwo : L2.Sp := fun vs H Q _ => ∃ (a : Addr) (b : Bool), vs = [.ref a, .bl b] ∧ HandAt H a ∧
  ∀ (t p q : Addr) (ns ms : List Int) (H' : Hp), Ext a H H' → H' t = some (.tup [.ref p, .ref q]) → t ≠ a → RowAt H' a p ns → RowAt H' a q ms → Q (.ref t) H'
def Mid (zs : List Int) : Prop := ∀ z ∈ zs, -(2 ^ 150) < z ∧ z < 2 ^ 150
def spAsked : L2.Sp := fun vs H Q _ => ∃ (a p q : Addr) (ns ms : List Int), vs = [.ref a, .ref p, .ref q] ∧ HandAt H a ∧ RowAt H a p ns ∧ RowAt H a q ms ∧
  ∀ (r : Addr) (zs : List Int) (H' : Hp), Ext a H H' → H r = none → H' r = some (.lst (zs.map V.int)) → zs.length ≤ 9 → Mid zs → Q (.ref r) H'
end Sp
namespace Sp
open PySem L2
theorem at_map {ns : List Int} {r x : Int} (h : atI ns r = some x) : atI (ns.map V.int) r = some (.int x) := by
  unfold atI at h ⊢
  rw [List.length_map]
  cases e : ixN ns.length r with
  | none => rw [e] at h; cases h
  | some j =>
    rw [e] at h
    show (ns.map V.int)[j]? = _
    rw [List.getElem?_map, show ns[j]? = some x from h]
    rfl
end Sp
namespace Sp
open PySem L2
theorem shaped_two (ns ms : List Int) : SeqAt.shaped (.list [di ns, di ms]) = true := by
  unfold SeqAt.shaped
  simp only [PyData.canLay0, PyData.canLayAll0, lay_ints, PyData.depth, PyData.depthAll, dep_ints]
  rfl
theorem eqv_two (ns ms : List Int) : PyData.eqv (.list [di ns, di ms]) (.list [di ns, di ms]) = true := by
  rw [PyData.eqv]
  refine eqvAll_same fun x hx => ?_
  simp only [List.mem_cons, List.not_mem_nil, or_false] at hx
  rcases hx with rfl | rfl
  · rw [eqv_ints]; exact decide_eq_true rfl
  · rw [eqv_ints]; exact decide_eq_true rfl
theorem dp_two {K : PySem.W.Frag} {H : Hp} {l p q : Addr} {ns ms : List Int} (h : H l = some (.lst [.ref p, .ref q])) (hp : SqL K H p (ns.map V.int)) (hq : SqL K H q (ms.map V.int)) : Dp K H (.ref l) (.list [di ns, di ms]) :=
  .lst (SqL.new h) (.cons (dp_ints hp) (.cons (dp_ints hq) .nil))
end Sp

namespace Sp
open PySem L2
/-- a loop over enumerate(list), the list standing still -/
theorem for_enum {K : PySem.W.Frag} {a : Addr} {xs : List V} {g : TG} {tb : TS} {D : Ends} {σ : L2.St} {H : Hp} (Pv : Nat → L2.St → Hp → Prop) (h0 : Pv 0 σ H) (hl : ∀ i σ H, i ≤ xs.length → Pv i σ H → SqL K H a xs)
    (hs : ∀ i x σ H T, xs[i]? = some x → Pv i σ H → H T = none → g (.ref T) σ (upd H T (.tup [.int (i : Nat), x])) fun σ2 H2 => tb { D with nx := Pv (i + 1), ct := Pv (i + 1), bk := D.nx } σ2 H2) (hd : ∀ σ H, Pv xs.length σ H → D.nx σ H) :
    ∃ W : Nat → Nat → L2.St → Hp → Prop, (∃ m, W 0 m σ H) ∧ ∀ i m σ H, W i m σ H →
      ((Ite K a).stop i H ∧ D.nx σ H) ∨ ((Ite K a).go i H ∧ ∃ N : L2.St → Hp → Prop, (∀ σ' H', N σ' H' → ∃ m', m' < m ∧ W (i + 1) m' σ' H') ∧ ∀ x H', (Ite K a).yld i H x H' → g x σ H' fun σ2 H2 => tb { D with nx := N, ct := N, bk := D.nx } σ2 H2) := by
  refine ⟨fun i m σ H => m = xs.length - i ∧ i ≤ xs.length ∧ Pv i σ H, ⟨xs.length, by simp, Nat.zero_le _, h0⟩, fun i m σ H w => ?_⟩
  obtain ⟨rfl, hi, p⟩ := w
  have q := hl i σ H hi p
  by_cases hlt : i < xs.length
  · refine .inr ⟨⟨xs, xs[i], q, List.getElem?_eq_getElem hlt⟩, Pv (i + 1), fun σ' H' p' => ⟨xs.length - (i + 1), by omega, rfl, hlt, p'⟩, fun x H' y => ?_⟩
    obtain ⟨T, z, rfl, nT, rfl, f⟩ := y
    exact hs i z σ H T (f xs q) p nT
  · obtain rfl : i = xs.length := by omega
    exact .inl ⟨⟨xs, q, Nat.le_refl _⟩, hd σ H p⟩
/-! ### is_row, of anything -/
abbrev kinds : List String := ["bool", "str", "NoneType", "list", "tuple", "dict"]
def NoInt (K : PySem.W.Frag) (H : Hp) (x : V) : Prop := ∃ T, T ∈ kinds ∧ TyX K H x (.type T)
def Kn (K : PySem.W.Frag) (H : Hp) (x : V) : Prop := (∃ n, x = .int n) ∨ NoInt K H x
theorem TyX.up {K : PySem.W.Frag} {H H' : Hp} {x : V} {t : Value} (s : Same H H') (h : TyX K H x t) : TyX K H' x t := by
  cases h with
  | base b =>
    cases b with
    | non => exact .base .non
    | bl y => exact .base (.bl y)
    | int i => exact .base (.int i)
    | str y => exact .base (.str y)
    | flt y => exact .base (.flt y)
    | lst e => exact .base (.lst (s _ _ e))
    | frz e => exact .base (.frz (s _ _ e))
    | tup e => exact .base (.tup (s _ _ e))
    | dK e => exact .base (.dK (s _ _ e))
    | dT e => exact .base (.dT (s _ _ e))
    | ins e c1 c2 c3 c4 c5 => exact .base (.ins (s _ _ e) c1 c2 c3 c4 c5)
  | byt b => exact .byt b
  | set e => exact .set (s _ _ e)
  | kList e c => exact .kList e c
  | kTuple e c => exact .kTuple e c
  | kDict e c => exact .kDict e c
  | fTuple e => exact .fTuple (s _ _ e)
  | fDict e => exact .fDict (s _ _ e)
theorem NoInt.up {K : PySem.W.Frag} {H H' : Hp} {x : V} (s : Same H H') (h : NoInt K H x) : NoInt K H' x := let ⟨T, m, t⟩ := h; ⟨T, m, TyX.up s t⟩
theorem Kn.up {K : PySem.W.Frag} {H H' : Hp} {x : V} (s : Same H H') (h : Kn K H x) : Kn K H' x := h.imp id fun z => z.up s
theorem NoInt.ne {K : PySem.W.Frag} {H : Hp} {x : V} (h : NoInt K H x) (n : Int) : x ≠ .int n := by
  rintro rfl
  obtain ⟨T, m, t⟩ := h
  cases t with
  | base b =>
    cases b
    simp at m
def IsRow (xs : List V) : Prop := ∃ ns : List Int, xs = ns.map V.int ∧ ns.Pairwise (· ≤ ·)
def spIsWhole (K : PySem.W.Frag) : L2.Sp := fun vs H Q _ => ∃ x : V, vs = [x] ∧ (((∃ n, x = .int n) ∧ Q (.bl true) H) ∨ (NoInt K H x ∧ Q (.bl false) H))
def spIsRow (K : PySem.W.Frag) : L2.Sp := fun vs H Q _ => ∃ x : V, vs = [x] ∧ ((∃ (p : Addr) (xs : List V), x = .ref p ∧ SqL K H p xs ∧ (∀ y ∈ xs, Kn K H y) ∧ ∀ (b : Bool) (H' : Hp), (b = true ↔ IsRow xs) → Same H H' → Q (.bl b) H') ∨
  (∃ T, T ∈ ["int", "bool", "str", "NoneType", "tuple", "dict"] ∧ TyX K H x (.type T) ∧ Q (.bl false) H))
theorem IsRow.map (ns : List Int) : IsRow (ns.map V.int) ↔ ns.Pairwise (· ≤ ·) := by
  constructor
  · rintro ⟨ms, e, h⟩
    have e2 : ns = ms := by
      have := congrArg (List.map fun v => match v with | V.int i => i | _ => 0) e
      rw [List.map_map, List.map_map] at this
      have f : ((fun v => match v with | V.int i => i | _ => (0 : Int)) ∘ V.int) = id := rfl
      rw [f, List.map_id, List.map_id] at this
      exact this
    rw [e2]
    exact h
  · exact fun h => ⟨ns, rfl, h⟩
theorem tyList {K : PySem.W.Frag} {H : Hp} {p : Addr} {xs : List V} (h : SqL K H p xs) : TyX K H (.ref p) (.type "list") := by
  rcases h with (h | ⟨o, h⟩) | ⟨o, its, n, hk, hc, _⟩
  · exact .base (.lst h)
  · exact .base (.frz h)
  · exact .kList hk hc
end Sp
namespace Sp
open PySem L2
/-! ### joined, turned, counted -/
theorem sorted_one {ns ms : List Int} (hp : ns.Perm ms) (h1 : ns.Pairwise (· ≤ ·)) (h2 : ms.Pairwise (· ≤ ·)) : ns = ms := hp.eq_of_pairwise (fun a b _ _ x y => Int.le_antisymm x y) h1 h2
def spJoined : L2.Sp := fun vs H Q _ => ∃ (p q : Addr) (ns ms : List Int), vs = [.ref p, .ref q] ∧ H p = some (.lst (ns.map V.int)) ∧ H q = some (.lst (ms.map V.int)) ∧ ns.length + ms.length ≤ 10000 ∧
  ∀ (r : Addr) (js : List Int) (H' : Hp), Same H H' → H r = none → H' r = some (.lst (js.map V.int)) → js.Perm (ns ++ ms) → js.Pairwise (· ≤ ·) → Q (.ref r) H'
def turned (ns : List Int) : List Int := ns.reverse.map fun x => 0 - x
def spTurned (K : PySem.W.Frag) : L2.Sp := fun vs H Q _ => ∃ (p : Addr) (ns : List Int), vs = [.ref p] ∧ SqL K H p (ns.map V.int) ∧ ns.length ≤ 10000 ∧ ∀ (r : Addr) (H' : Hp), Same H H' → H r = none → H' r = some (.lst ((turned ns).map V.int)) → Q (.ref r) H'
theorem cntB_perm {ns ms : List Int} (h : ns.Perm ms) (n : Int) : cntB ns n = cntB ms n := h.countP_eq _
theorem cntB_append (ns ms : List Int) (n : Int) : cntB (ns ++ ms) n = cntB ns n + cntB ms n := List.countP_append
theorem cntB_next : ∀ (ns : List Int) (n : Int), cntB ns (n + 1) = cntB ns n + ns.count n
  | [], n => rfl
  | x :: ns, n => by
    have ih := cntB_next ns n
    unfold cntB at ih ⊢
    rw [List.countP_cons, List.countP_cons, List.count_cons, ih]
    by_cases h : x < n
    · rw [if_pos (decide_eq_true (show x < n + 1 by omega)), if_pos (decide_eq_true h), if_neg (by simp; omega)]
      omega
    · by_cases h2 : x = n
      · rw [if_pos (decide_eq_true (show x < n + 1 by omega)), if_neg (by simpa using h), if_pos (by simp [h2])]
        omega
      · rw [if_neg (by simp; omega), if_neg (by simpa using h), if_neg (by simpa using h2)]
        omega
theorem cntB_turned (ns : List Int) (n : Int) : cntB (turned ns) (0 - n) + cntB ns (n + 1) = ns.length := by
  have key : ∀ l : List Int, cntB (l.map fun x => 0 - x) (0 - n) + cntB l (n + 1) = l.length := by
    intro l
    induction l with
    | nil => rfl
    | cons x l ih =>
      unfold cntB at ih ⊢
      rw [List.map_cons, List.countP_cons, List.countP_cons, List.length_cons]
      by_cases h : x < n + 1
      · rw [if_pos (decide_eq_true h), if_neg (by simp; omega)]
        omega
      · rw [if_pos (decide_eq_true (show 0 - x < 0 - n by omega)), if_neg (by simp; omega)]
        omega
  have h1 := key ns.reverse
  have h2 : cntB ns.reverse (n + 1) = cntB ns (n + 1) := cntB_perm (List.reverse_perm ns) _
  rw [h2, List.length_reverse] at h1
  exact h1
theorem turned_sorted {ns : List Int} (h : ns.Pairwise (· ≤ ·)) : (turned ns).Pairwise (· ≤ ·) := by
  unfold turned
  rw [List.pairwise_map, List.pairwise_reverse]
  exact h.imp fun h => by omega
def spCounts (K : PySem.W.Frag) : L2.Sp := fun vs H Q _ => ∃ (p q b : Addr) (ns ms js : List Int) (n : Int), vs = [.ref p, .ref q, .ref b, .int n] ∧ SqL K H p (ns.map V.int) ∧ SqL K H q (ms.map V.int) ∧ SqL K H b (js.map V.int) ∧
  ns.Pairwise (· ≤ ·) ∧ ms.Pairwise (· ≤ ·) ∧ js.Pairwise (· ≤ ·) ∧ js.Perm (ns ++ ms) ∧ ns.length ≤ 10000 ∧ ∀ H', Same H H' → Q (.bl true) H'
end Sp
namespace Sp
open PySem L2
theorem ne_same {x : V} {H : Hp} {Q : VK} (hs : scal x x = true) (q : Q (.bl false) H) : rNe x x H Q := ⟨hs, by rw [decide_eq_true rfl]; exact q⟩
theorem eq_same {x : V} {H : Hp} {Q : VK} (hs : scal x x = true) (q : Q (.bl true) H) : rEq x x H Q := ⟨hs, by rw [decide_eq_true rfl]; exact q⟩
end Sp
namespace Sp
open PySem L2
theorem map_cnt_sorted {js zs : List Int} (h : zs.Pairwise (· ≤ ·)) : (zs.map fun z => ((cntB js z : Nat) : Int)).Pairwise (· ≤ ·) := by
  rw [List.pairwise_map]
  exact h.imp fun h => Int.ofNat_le.mpr (cntB_mono h)
/-- a turn of [f x for x in ns] -/
theorem map_turn {H0 H : Hp} {D : Addr} {ns : List Int} {f : Int → Int} {i : Nat} {y : Int} (nD : H0 D = none) (w1 : Same H0 H) (w2 : H D = some (.lst (((ns.take i).map f).map V.int))) (hy : ns[i]? = some y) (hl : ns.length ≤ 10000) :
    ∃ acc, H D = some (.lst acc) ∧ acc.length < sizeLine ∧ Same H0 (upd H D (.lst (acc ++ [V.int (f y)]))) ∧ (upd H D (.lst (acc ++ [V.int (f y)]))) D = some (.lst (((ns.take (i + 1)).map f).map V.int)) := by
  refine ⟨_, w2, smallLt ?_, same_app nD w1, ?_⟩
  · have := List.length_take_le' i ns
    rw [List.length_map, List.length_map]
    omega
  · rw [upd_same, take_snoc hy, map_app1, List.map_append, List.map_append, List.map_append]
    rfl
end Sp

namespace Sp
open PySem L2
/-- the scope of a comprehension that the j-th statement of a def stores -/
def compScopeAt (s : Stmt) (j : Nat) : Scope := match (defBody s).getD j (.Pass ⟨0, 0, 0, 0⟩) with
  | .Assign _ (.ListComp _ _ sc _) _ => sc
  | _ => { kind := .function, names := [], isGenerator := false, isCoroutine := false }
/-! ### sums, otherwise -/
theorem cntB_cons (y : Int) (ms : List Int) (n : Int) : cntB (y :: ms) n = cntB ms n + (if y < n then 1 else 0) := by
  unfold cntB
  rw [List.countP_cons]
  by_cases h : y < n
  · rw [if_pos (decide_eq_true h), if_pos h]
  · rw [if_neg (by simpa using h), if_neg h]
theorem cntS_cons (x : Int) (ns ms : List Int) (n : Int) : cntS (x :: ns) ms n = cntB ms (n - x) + cntS ns ms n := by
  unfold cntS
  rw [List.map_cons, List.sum_cons]
theorem cntS_cons_r : ∀ (ns : List Int) (y : Int) (ms : List Int) (n : Int), cntS ns (y :: ms) n = cntB ns (n - y) + cntS ns ms n
  | [], y, ms, n => rfl
  | x :: ns, y, ms, n => by
    rw [cntS_cons, cntS_cons, cntS_cons_r ns y ms n, cntB_cons, cntB_cons]
    have : (y < n - x) ↔ (x < n - y) := by omega
    by_cases h : y < n - x
    · rw [if_pos h, if_pos (this.mp h)]
      omega
    · rw [if_neg h, if_neg (fun k => h (this.mpr k))]
      omega
theorem cntS_nil_r : ∀ (ns : List Int) (n : Int), cntS ns [] n = 0
  | [], n => rfl
  | x :: ns, n => by rw [cntS_cons, cntS_nil_r ns n]; rfl
theorem cntS_comm : ∀ (ns ms : List Int) (n : Int), cntS ms ns n = cntS ns ms n
  | [], ms, n => by rw [cntS_nil_r]; rfl
  | x :: ns, ms, n => by rw [cntS_cons_r, cntS_cons, cntS_comm ns ms n]
theorem cntS_append (ns ks ms : List Int) (n : Int) : cntS (ns ++ ks) ms n = cntS ns ms n + cntS ks ms n := by
  unfold cntS
  rw [List.map_append, List.sum_append]
theorem cntS_perm {ns ks : List Int} (h : ns.Perm ks) (ms : List Int) (n : Int) : cntS ns ms n = cntS ks ms n := (h.map _).sum_nat
theorem cntS_shift : ∀ (ns ms : List Int) (n b : Int), cntS (ns.map fun x => x + b) ms (n + b) = cntS ns ms n
  | [], ms, n, b => rfl
  | x :: ns, ms, n, b => by
    rw [List.map_cons, cntS_cons, cntS_cons, cntS_shift ns ms n b]
    rw [show n + b - (x + b) = n - x from by omega]
theorem cntB_three : ∀ (ms : List Int) (n : Int), cntB (ms.map fun x => x * 3) (n * 3) = cntB ms n
  | [], n => rfl
  | y :: ms, n => by
    rw [List.map_cons, cntB_cons, cntB_cons, cntB_three ms n]
    by_cases h : y < n
    · rw [if_pos h, if_pos (by omega)]
    · rw [if_neg h, if_neg (by omega)]
theorem cntS_three : ∀ (ns ms : List Int) (n : Int), cntS (ns.map fun x => x * 3) (ms.map fun x => x * 3) (n * 3) = cntS ns ms n
  | [], ms, n => rfl
  | x :: ns, ms, n => by
    rw [List.map_cons, cntS_cons, cntS_cons, cntS_three ns ms n]
    rw [show n * 3 - x * 3 = (n - x) * 3 from by omega, cntB_three]
theorem cntS_turned (ns ms : List Int) (n : Int) : cntS (turned ns) (turned ms) (0 - n + 1) + cntS ns ms n = ns.length * ms.length := by
  have key : ∀ l : List Int, cntS (l.map fun x => 0 - x) (turned ms) (0 - n + 1) + cntS l ms n = l.length * ms.length := by
    intro l
    induction l with
    | nil => rw [List.length_nil, Nat.zero_mul]; rfl
    | cons x l ih =>
      rw [List.map_cons, cntS_cons, cntS_cons, List.length_cons, Nat.add_mul, Nat.one_mul]
      have h := cntB_turned ms (n - x - 1)
      rw [show n - x - 1 + 1 = n - x from by omega] at h
      rw [show 0 - n + 1 - (0 - x) = 0 - (n - x - 1) from by omega]
      omega
  have h1 := key ns.reverse
  rw [List.length_reverse, cntS_perm (List.reverse_perm ns)] at h1
  exact h1
theorem cntB_all : ∀ {ms : List Int} {n : Int}, (∀ y ∈ ms, y < n) → cntB ms n = ms.length
  | [], n, _ => rfl
  | y :: ms, n, h => by
    rw [cntB_cons, cntB_all fun z hz => h z (List.mem_cons_of_mem _ hz), if_pos (h y List.mem_cons_self), List.length_cons]
theorem cntS_all : ∀ {ns ms : List Int} {n : Int}, (∀ x ∈ ns, ∀ y ∈ ms, x + y < n) → cntS ns ms n = ns.length * ms.length
  | [], ms, n, _ => by rw [List.length_nil, Nat.zero_mul]; rfl
  | x :: ns, ms, n, h => by
    rw [cntS_cons, cntS_all (fun z hz => h z (List.mem_cons_of_mem _ hz)), cntB_all (fun y hy => (by have := h x List.mem_cons_self y hy; omega)), List.length_cons, Nat.add_mul, Nat.one_mul, Nat.add_comm]
theorem cntS_mono {ns ms : List Int} {n m : Int} (h : n ≤ m) : cntS ns ms n ≤ cntS ns ms m := by
  induction ns with
  | nil => exact Nat.le_refl _
  | cons x ns ih =>
    rw [cntS_cons, cntS_cons]
    exact Nat.add_le_add (cntB_mono (by omega)) ih
theorem cntS_one (b : Int) (ms : List Int) (n : Int) : cntS [b] ms n = cntB ms (n - b) := by rw [cntS_cons]; rfl
theorem map_cntS_sorted {ns ms zs : List Int} (h : zs.Pairwise (· ≤ ·)) : (zs.map fun z => ((cntS ns ms z : Nat) : Int)).Pairwise (· ≤ ·) := by
  rw [List.pairwise_map]
  exact h.imp fun h => Int.ofNat_le.mpr (cntS_mono h)
theorem div_fine {ns : List Int} (h : Fine ns) : Fine (ns.map fun x => x / 4) := by
  refine ⟨?_, fun z hz => ?_⟩
  · rw [List.pairwise_map]
    exact h.1.imp fun h => Int.ediv_le_ediv (by decide) h
  · obtain ⟨x, hx, rfl⟩ := List.mem_map.mp hz
    have := h.2 x hx
    omega
theorem shift_sorted {ns : List Int} (b : Int) (h : ns.Pairwise (· ≤ ·)) : (ns.map fun x => x + b).Pairwise (· ≤ ·) := by
  rw [List.pairwise_map]
  exact h.imp fun h => by omega
theorem three_sorted {ns : List Int} (h : ns.Pairwise (· ≤ ·)) : (ns.map fun x => x * 3).Pairwise (· ≤ ·) := by
  rw [List.pairwise_map]
  exact h.imp fun h => by omega
def spRight7 (K : PySem.W.Frag) : L2.Sp := fun vs H Q _ => ∃ (p q t : Addr) (ns ms ks : List Int) (n b : Int), vs = [.ref p, .ref q, .ref t, .int n, .int b] ∧ H p = some (.lst (ns.map V.int)) ∧ H q = some (.lst (ms.map V.int)) ∧ H t = some (.lst (ks.map V.int)) ∧
  Fine ns ∧ Fine ms ∧ Fine ks ∧ ns.length ≤ 300 ∧ ms.length ≤ 300 ∧ ks.length ≤ 300 ∧ -(2 ^ 160) < n ∧ n < 2 ^ 160 ∧ ∀ H', Same H H' → Q (.bl true) H'
end Sp
namespace Sp
open PySem L2
/-- within a comprehension: the written part by its own name -/
theorem pi_listK {X : Cx} {K : PySem.W.Frag} {tg l : Expr} {tl : TE} (hK : X.K = K) (hl : PE X l tl) : PI X tg l (iList K tl) := hK ▸ pi_list hl
end Sp
namespace Sp
open PySem L2
theorem mid_div {zs : List Int} (h : Mid zs) : Mid (zs.map fun x => x / 4) := fun z hz => by
  obtain ⟨x, hx, rfl⟩ := List.mem_map.mp hz
  have := h x hx
  omega
end Sp

namespace Sp
open PySem L2
def top (i : Nat) : Stmt := PySem.Challenge.pw_sumplace_k07_whole_sums_counted_otherwis.main.body.getD i (.Pass ⟨0, 0, 0, 0⟩)
abbrev ssums_below : Stmt := top 1
abbrev ssums_to : Stmt := top 2
abbrev sjoined : Stmt := top 4
abbrev smany_below : Stmt := top 5
abbrev slaw_hand : Stmt := top 7
abbrev slaw_draw : Stmt := top 8
abbrev slaw_cells : Stmt := top 9
abbrev slaw_great : Stmt := top 10
abbrev slaw_row : Stmt := top 11
abbrev slaw_two : Stmt := top 12
abbrev slaw_asked_numbers : Stmt := top 13
abbrev slaw_turned : Stmt := top 14
abbrev slaw_right : Stmt := top 15
abbrev slaw : Stmt := top 16
theorem scsums_below : FnScope ["one", "other", "number", "many", "end", "first"] ["one", "other", "number"] (defScope ssums_below) := ⟨rfl, rfl, rfl, by decide +kernel, rfl, by decide +kernel, by decide +kernel⟩
theorem scsums_to : FnScope ["one", "other", "number"] ["one", "other", "number"] (defScope ssums_to) := ⟨rfl, rfl, rfl, by decide +kernel, rfl, by decide +kernel, by decide +kernel⟩
theorem scjoined : FnScope ["one", "other"] ["one", "other"] (defScope sjoined) := ⟨rfl, rfl, rfl, by decide +kernel, rfl, by decide +kernel, by decide +kernel⟩
theorem scmany_below : FnScope ["row", "number", "low", "high", "half"] ["row", "number"] (defScope smany_below) := ⟨rfl, rfl, rfl, by decide +kernel, rfl, by decide +kernel, by decide +kernel⟩
theorem sclaw_hand : FnScope ["cell", "k", "digits"] ["cell", "k"] (defScope slaw_hand) := ⟨rfl, rfl, rfl, by decide +kernel, rfl, by decide +kernel, by decide +kernel⟩
theorem sclaw_draw : FnScope ["hand", "limit", "got"] ["hand", "limit"] (defScope slaw_draw) := ⟨rfl, rfl, rfl, by decide +kernel, rfl, by decide +kernel, by decide +kernel⟩
theorem sclaw_cells : FnScope ["script", "many"] ["script", "many"] (defScope slaw_cells) := ⟨rfl, rfl, rfl, by decide +kernel, rfl, by decide +kernel, by decide +kernel⟩
theorem sclaw_great : FnScope ["script"] ["script"] (defScope slaw_great) := ⟨rfl, rfl, rfl, by decide +kernel, rfl, by decide +kernel, by decide +kernel⟩
theorem sclaw_row : FnScope ["hand", "least", "most", "many", "reach", "kind", "low", "step", "k"] ["hand", "least", "most"] (defScope slaw_row) := ⟨rfl, rfl, rfl, by decide +kernel, rfl, by decide +kernel, by decide +kernel⟩
theorem sclaw_two : FnScope ["hand", "great", "sizes", "long", "wide", "pair", "most"] ["hand", "great"] (defScope slaw_two) := ⟨rfl, rfl, rfl, by decide +kernel, rfl, by decide +kernel, by decide +kernel⟩
theorem sclaw_asked_numbers : FnScope ["hand", "one", "other", "some", "k", "here"] ["hand", "one", "other"] (defScope slaw_asked_numbers) := ⟨rfl, rfl, rfl, by decide +kernel, rfl, by decide +kernel, by decide +kernel⟩
theorem sclaw_turned : FnScope ["row", "number"] ["row"] (defScope slaw_turned) := ⟨rfl, rfl, rfl, by decide +kernel, rfl, by decide +kernel, by decide +kernel⟩
theorem sclaw_right : FnScope ["one", "other", "third", "number", "by", "told", "first", "some", "times"] ["one", "other", "third", "number", "by"] (defScope slaw_right) := ⟨rfl, rfl, rfl, by decide +kernel, rfl, by decide +kernel, by decide +kernel⟩
theorem sclaw : FnScope ["script", "k", "cell", "hand", "one", "other", "number", "third", "by", "some", "counts"] ["script"] (defScope slaw) := ⟨rfl, rfl, rfl, by decide +kernel, rfl, by decide +kernel, by decide +kernel⟩
end Sp

namespace Sp
open PySem L2
section
variable {P : Program} {w : World} {K : PySem.W.Frag} {mg : Str → Option Value} {base : Heap}
local macro_rules | `(tactic| walk_at "side") => `(tactic| first
  | exact mulW (by omega) (by omega) (by omega) (by omega)
  | exact divW (by omega) (by omega)
  | exact mulW (by decide +kernel) (by decide +kernel) (by decide +kernel) (by decide +kernel)
  | (show CPow _ _; exact ⟨by decide, by decide, by decide⟩)
  | (show (0 : Int) < _; omega)
  | exact small (Nat.le_of_ble_eq_true rfl)
  | decide
  | omega)
local macro_rules | `(tactic| walk_at "ne") => `(tactic| first | assumption | exact ne_of_none (by assumption) (by assumption) | exact Ne.symm (by assumption))
local macro_rules | `(tactic| walk_at "get") => `(tactic| first | assumption | exact upd_same | (refine (by assumption : Same _ _) _ _ ?_; walk_at "get") | (refine Ext.keep (by assumption) _ _ ?_ (by walk_at "ne"); walk_at "get"))
local macro_rules | `(tactic| walk_at "sq") => `(tactic| first | assumption | exact SqL.new (by walk_at "get") | exact Or.inl (Or.inl (by walk_at "get")) | (refine Same.seq (by assumption) ?_; walk_at "sq") | (refine seqExt (by assumption) (by walk_at "ne") ?_; walk_at "sq"))
local macro_rules | `(tactic| walk_at "hand") => `(tactic| first | assumption | (refine HandAt.same (by assumption) ?_; walk_at "hand") | (refine Ext.hand (by assumption) ?_; walk_at "hand"))
local macro_rules | `(tactic| walk_at "at") => `(tactic| first | exact at0 | exact at1)
local macro_rules | `(tactic| walk_at "s") => `(tactic| first
  | refine ⟨_, rfl, ?_⟩
  | refine ⟨_, _, rfl, rfl, ?_⟩
  | refine ⟨_, _, _, _, rfl, rfl, (by walk_at "sq"), (by walk_at "at"), ?_⟩
  | refine ⟨_, _, _, _, rfl, rfl, (by first | assumption | exact upd_same), rfl, ?_⟩
  | refine And.intro (by walk_at "side") ?_)
local macro_rules | `(tactic| walk_at "pos") => `(tactic| first | omega | decide | (show (0 : Int) < _; decide +kernel) | (show _ < (2 ^ 62 : Int); decide +kernel) | (show (0 : Int) < _; omega))

theorem ok_hand {f : Addr} {fd : FuncData} (F : Fun K "_law_hand" "_law_hand" slaw_hand f fd) : FnOk P w K mg base CX0 1 f fd ["cell", "k"] spHand := by
  have nd := sclaw_hand.nd
  refine F.ok sclaw_hand (fun vs H Q E h => ?_) (fun cdv A outer s H vs Q E hr h => ?_)
  · obtain ⟨c, k, rfl, _⟩ := h
    rfl
  · obtain ⟨c, k, rfl, hk0, hk, q⟩ := h
    refine ⟨_, (pss_cons (ps_set (i := 2) nd rfl (.inl rfl) pe_int)
      (Evl.pss_cut (ps_if (pt_cmpR op_ge (pv 0) (pe_op op_pow pe_int pe_int) (nomark _)) (pss_one (ps_set (i := 2) nd rfl (.inl rfl) (pv 0))) pss_nil)
      (pss_one (ps_ret (pe_lst (pa_cons (pv 2) (pa_cons (pe_op op_mod (pe_op op_mulW (pe_op op_add (pe_op op_add (pe_op op_mod (pv 0) pe_int) (pe_op op_mulW pe_int (pv 1))) pe_int) pe_int) pe_int) pa_nil))))))), ?_⟩
    have m1 := Int.emod_nonneg c (show (2147483587 : Int) ≠ 0 by decide)
    have m2 := Int.emod_lt_of_pos c (show (0 : Int) < 2147483587 by decide)
    refine ⟨fun σ' H' => ∃ d : Int, 0 ≤ d ∧ H' = H ∧ σ' = [some (.int c), some (.int k), some (.int d)], ?_, ?_⟩
    · repeat walk_at "s"
      refine ite2 (fun z => ?_) (fun z => ?_)
      · have z1 : (10 : Int) ^ (Int.toNat 18) ≤ c := of_decide_eq_true z
        have z2 : (0 : Int) ≤ 10 ^ (Int.toNat 18) := by decide
        walk_at "s"
        exact ⟨c, by omega, rfl, rfl⟩
      · exact ⟨0, Int.le_refl 0, rfl, rfl⟩
    · rintro σ' H' ⟨d, hd, rfl, rfl⟩
      repeat walk_at "s"
      intro p hp
      exact q p _ _ hp hd (Int.emod_nonneg _ (by decide)) (Int.emod_lt_of_pos _ (by decide))

theorem ok_draw {f : Addr} {fd : FuncData} (F : Fun K "_law_draw" "_law_draw" slaw_draw f fd) : FnOk P w K mg base CX0 1 f fd ["hand", "limit"] spDraw := by
  have nd := sclaw_draw.nd
  refine F.ok sclaw_draw (fun vs H Q E h => ?_) (fun cdv A outer s H vs Q E hr h => ?_)
  · obtain ⟨a, n, rfl, _⟩ := h
    rfl
  · obtain ⟨a, n, rfl, ⟨x, y, e, hx, hy, hy2⟩, hn0, hn, q⟩ := h
    refine ⟨_, (pss_cons (ps_if (pt_cmpR op_gt (pe_ix ix_list (pv 0) pe_int (fun _ _ => rfl)) pe_int (nomark _)) (pss_cons (ps_set (i := 2) nd rfl (.inl rfl) (pe_op op_mod (pe_ix ix_list (pv 0) pe_int (fun _ _ => rfl)) (pv 1)))
      (pss_cons (ps_asg (pe_op op_fdivW (pe_ix ix_list (pv 0) pe_int (fun _ _ => rfl)) (pv 1)) (pg_sub (pv 0) pe_int set_list))
      (pss_one (ps_ret (pv 2))))) pss_nil)
      (pss_cons (ps_asg (pe_op op_mod (pe_op op_add (pe_op op_add (pe_op op_mulW (pe_ix ix_list (pv 0) pe_int (fun _ _ => rfl)) (pe_ix ix_list (pv 0) pe_int (fun _ _ => rfl))) (pe_op op_mulW pe_int (pe_ix ix_list (pv 0) pe_int (fun _ _ => rfl)))) pe_int) pe_int) (pg_sub (pv 0) pe_int set_list))
      (pss_one (ps_ret (pe_op op_mod (pe_op op_fdivW (pe_ix ix_list (pv 0) pe_int (fun _ _ => rfl)) pe_int) (pv 1)))))), ?_⟩
    repeat walk_at "s"
    refine ite2 (fun z => ?_) (fun z => ?_)
    · repeat walk_at "s"
      refine q _ _ (Int.emod_nonneg _ (by omega)) (Int.emod_lt_of_pos _ hn0) ⟨_, _, upd_same, Int.ediv_nonneg hx (by omega), hy, hy2⟩ fun b hb => upd_ne hb
    · repeat walk_at "s"
      refine q _ _ (Int.emod_nonneg _ (by omega)) (Int.emod_lt_of_pos _ hn0) ⟨_, _, upd_same, hx, Int.emod_nonneg _ (by decide), Int.emod_lt_of_pos _ (by decide)⟩ fun b hb => upd_ne hb

theorem ok_cells {f : Addr} {fd : FuncData} (B : Bt mg) (F : Fun K "_law_cells" "_law_cells" slaw_cells f fd) : FnOk P w K mg base CX0 1 f fd ["script", "many"] (spCells K) := by
  have nd := sclaw_cells.nd
  refine F.ok sclaw_cells (fun vs H Q E h => ?_) (fun cdv A outer s H vs Q E hr h => ?_)
  · obtain ⟨a, m, ns, rfl, _⟩ := h
    rfl
  · obtain ⟨a, m, ns, rfl, hS, hl, hm, q⟩ := h
    have hu := hr.units
    refine ⟨_, (pss_one (ps_ret (Enl.pe_listEnum B.list_ B.enumerate_ (pe_op op_cat (pe_slice sl_list (pv 0) po_none (po_some (pv 1))) (pe_op op_rep (pe_lst (pa_cons pe_int pa_nil)) (pe_callTy call_int1 (by rfl) B.int_ (by decide +kernel) (pa_cons (pe_cmpR (op_eqD hu) (pv 0) (pe_lst pa_nil) (nomark _)) pa_nil))))))), ?_⟩
    iterate 3 walk_at "s"
    refine ⟨_, _, rfl, hS, ?_⟩
    intro p1 np1
    generalize hg1 : upd H p1 _ = H1
    have s1 : Same H H1 := hg1 ▸ same_new np1
    have e1 := (congrFun hg1 p1).symm.trans upd_same
    clear hg1
    walk_at "s"
    intro p2 np2
    generalize hg2 : upd H1 p2 _ = H2
    have s2 : Same H1 H2 := hg2 ▸ same_new np2
    have e2 := (congrFun hg2 p2).symm.trans upd_same
    clear hg2
    walk_at "s"
    walk_at "s"
    intro p3 np3
    generalize hg3 : upd H2 p3 _ = H3
    have s3 : Same H2 H3 := hg3 ▸ same_new np3
    have e3 := (congrFun hg3 p3).symm.trans upd_same
    clear hg3
    have hS3 : SqL K H3 a (ns.map V.int) := by walk_at "sq"
    have hD : Dp K H3 (.ref p3) (di []) := dp_ints (ns := []) (SqL.new e3)
    refine ⟨di ns, di [], dp_ints hS3, hD, shaped_ints _, shaped_ints _, ?_⟩
    refine .inr ⟨_, rfl, ?_⟩
    refine ⟨_, _, _, rfl, rfl, (by walk_at "get"), ?_, ?_, ?_, ?_⟩
    · split <;> decide
    · split <;> decide
    · split <;> decide
    rw [rep_one, rep_int]
    intro p4 np4
    generalize hg4 : upd H3 p4 _ = H4
    have s4 : Same H3 H4 := hg4 ▸ same_new np4
    have e4 := (congrFun hg4 p4).symm.trans upd_same
    clear hg4
    obtain ⟨ms, em, lm, mm⟩ := cut_map (ns := ns) none (some (m : Int))
    rw [em] at e1
    generalize hk : (if PyData.eqv (di ns) (di []) = true then (1 : Int) else 0).toNat = k at e4
    have hk1 : k ≤ 1 := by rw [← hk]; split <;> decide
    refine ⟨_, _, _, _, rfl, rfl, (by walk_at "get"), e4, small (by rw [List.length_map, List.length_map, List.length_replicate]; omega), ?_⟩
    intro p5 np5
    generalize hg5 : upd H4 p5 _ = H5
    have s5 : Same H4 H5 := hg5 ▸ same_new np5
    have e5 := (congrFun hg5 p5).symm.trans upd_same
    clear hg5
    rw [← List.map_append] at e5
    have hlen : (ms ++ List.replicate k (0 : Int)).length ≤ 64 := by rw [List.length_append, List.length_replicate]; omega
    refine ⟨p5, _, rfl, SqL.new e5, small (by rw [List.length_map]; omega), fun H6 p6 ts s6 np6 _ e6 l6 t6 => ?_⟩
    have sA := (((((s1.trans s2).trans s3).trans s4).trans s5).trans s6)
    refine q H6 p6 ts (ms ++ List.replicate k 0) sA ((((((s1.trans s2).trans s3).trans s4).trans s5)).free np6) e6 (by rw [l6, List.length_map]) hlen fun j t c h1 h2 => ?_
    exact t6 j t (.int c) h1 (by rw [List.getElem?_map, h2]; rfl)

theorem ok_great {f : Addr} {fd : FuncData} (B : Bt mg) (F : Fun K "_law_great" "_law_great" slaw_great f fd) : FnOk P w K mg base CX0 1 f fd ["script"] (spGreat K) := by
  have nd := sclaw_great.nd
  refine F.ok sclaw_great (fun vs H Q E h => ?_) (fun cdv A outer s H vs Q E hr h => ?_)
  · obtain ⟨a, ns, rfl, _⟩ := h
    rfl
  · obtain ⟨a, ns, rfl, hS, q⟩ := h
    refine ⟨_, (pss_one (ps_ret (pe_cmpR op_eq (pe_op op_mod (pe_op op_fdivW (pe_callB (cr_sum rfl) (by rfl) B.sum_ (by decide +kernel) (pa_cons (pv 0) pa_nil)) pe_int) pe_int) pe_int (nomark _)))), ?_⟩
    walk_at "s"
    refine ⟨_, _, rfl, hS, ?_⟩
    repeat walk_at "s"
    exact ⟨rfl, q _⟩

theorem ok_row {f : Addr} {fd : FuncData} (B : Bt mg) (F : Fun K "_law_row" "_law_row" slaw_row f fd) (claw_draw : Cal P w K mg base 1 "_law_draw" ["hand", "limit"] spDraw) : FnOk P w K mg base CX0 2 f fd ["hand", "least", "most"] spRow := by
  have nd := sclaw_row.nd
  refine F.ok sclaw_row (fun vs H Q E h => ?_) (fun cdv A outer s H vs Q E hr h => ?_)
  · obtain ⟨a, lo, hi, rfl, _⟩ := h
    rfl
  · obtain ⟨a, lo, hi, rfl, h0, hlo, hhi, q⟩ := h
    refine ⟨_, (pss_cons (ps_set (i := 3) nd rfl (.inl rfl) (pe_op op_add (pv 1) (pe_own claw_draw (hr.mono (by decide)) (by rfl) (pa_cons (pv 0) (pa_cons (pe_op op_add (pe_op op_sub (pv 2) (pv 1)) pe_int) pa_nil)))))
      (pss_cons (ps_set (i := 4) nd rfl (.inr rfl) (pe_ix ix_list (pe_lst (pa_cons pe_int (pa_cons pe_int (pa_cons pe_int (pa_cons (pe_op op_pow pe_int pe_int) (pa_cons (pe_op op_pow pe_int pe_int) pa_nil)))))) (pe_own claw_draw (hr.mono (by decide)) (by rfl) (pa_cons (pv 0) (pa_cons pe_int pa_nil))) (fun _ _ => rfl)))
      (pss_cons (ps_set (i := 5) nd rfl (.inl rfl) (pe_own claw_draw (hr.mono (by decide)) (by rfl) (pa_cons (pv 0) (pa_cons pe_int pa_nil))))
      (pss_cons (ps_set (i := 6) nd rfl (.inr rfl) (pe_op op_sub (pe_own claw_draw (hr.mono (by decide)) (by rfl) (pa_cons (pv 0) (pa_cons (pe_op op_add (pe_op op_mulW pe_int (pv 4)) pe_int) pa_nil))) (pv 4)))
      (pss_cons (ps_if (pt_cmpR op_eq (pv 5) pe_int (nomark _)) (pss_one (ps_ret (pe_op op_rep (pe_lst (pa_cons (pv 6) pa_nil)) (pv 3)))) pss_nil)
      (pss_cons (ps_if (pt_cmpR op_eq (pv 5) pe_int (nomark _)) (pss_cons (ps_set (i := 7) nd rfl (.inr rfl) (pe_op op_add pe_int (pe_own claw_draw (hr.mono (by decide)) (by rfl) (pa_cons (pv 0) (pa_cons pe_int pa_nil)))))
      (pss_one (ps_ret (pe_lc (own := [("k", 8)]) (by rfl) nd (pi_range1 (by rfl) B.range_ (pa_cons (pv 3) pa_nil)) (blkOk_by (own := [("k", 8)]) (N := ["hand", "least", "most", "many", "reach", "kind", "low", "step", "k"]) (sc := defScope slaw_row) (by decide +kernel)) (fun _ _ _ _ _ => (pg_name (i := 8) nd rfl (.inl rfl))) (fun _ _ _ _ _ => pts_nil) (fun _ _ _ _ _ => (pe_op op_add (pe_callB (call_min2 rfl) (by rfl) B.min_ (by decide +kernel) (pa_cons (pv 6) (pa_cons (pe_op op_sub (pe_op op_pow pe_int pe_int) pe_int) pa_nil))) (pe_op op_mulW (pv 7) (pv 8)))))))) pss_nil)
      (pss_one (ps_ret (pe_callB cr_sortedI (by rfl) B.sorted_ (by decide +kernel) (pa_cons (pe_lc (own := [("k", 8)]) (by rfl) nd (pi_range1 (by rfl) B.range_ (pa_cons (pv 3) pa_nil)) (blkOk_by (own := [("k", 8)]) (N := ["hand", "least", "most", "many", "reach", "kind", "low", "step", "k"]) (sc := defScope slaw_row) (by decide +kernel)) (fun _ _ _ _ _ => (pg_name (i := 8) nd rfl (.inl rfl))) (fun _ _ _ _ _ => pts_nil) (fun _ _ _ _ _ => (pe_op op_sub (pe_own claw_draw (hr.mono (by decide)) (by rfl) (pa_cons (pv 0) (pa_cons (pe_op op_add (pe_op op_mulW pe_int (pv 4)) pe_int) pa_nil))) (pv 4)))) pa_nil)))))))))), ?_⟩
    -- many
    repeat walk_at "s"
    refine ⟨a, _, rfl, (by walk_at "hand"), (by walk_at "pos"), (by walk_at "pos"), ?_⟩
    intro r1 H1 ra1 rb1 h1 k1
    have x1 : Ext a H H1 := drawn h1 k1
    clear k1
    -- reach
    repeat walk_at "s"
    intro p2 np2
    generalize hg2 : upd H1 p2 _ = H2
    have s2 : Same H1 H2 := hg2 ▸ same_new np2
    have e2 := (congrFun hg2 p2).symm.trans upd_same
    clear hg2
    have n2 : p2 ≠ a := HandAt.ne (by walk_at "hand") np2
    repeat walk_at "s"
    refine ⟨a, _, rfl, (by walk_at "hand"), (by walk_at "pos"), (by walk_at "pos"), ?_⟩
    intro r3 H3 ra3 rb3 h3 k3
    have x3 : Ext a H2 H3 := drawn h3 k3
    clear k3
    obtain ⟨y, hy, my⟩ : ∃ y : Int, atI [V.int 1, V.int 4, V.int 30, V.int (10 ^ Int.toNat 6), V.int (10 ^ Int.toNat 15)] r3 = some (.int y) ∧ 0 < y ∧ y ≤ 1000000000000000 := by
      obtain ⟨x, h1, h2⟩ := at_draw (xs := [V.int 1, V.int 4, V.int 30, V.int (10 ^ Int.toNat 6), V.int (10 ^ Int.toNat 15)]) ra3 rb3
      simp only [List.mem_cons, List.not_mem_nil, or_false] at h2
      rcases h2 with rfl | rfl | rfl | rfl | rfl
      all_goals exact ⟨_, h1, by decide, by decide⟩
    refine ⟨_, _, _, _, rfl, rfl, (by walk_at "sq"), hy, ?_⟩
    -- kind
    repeat walk_at "s"
    refine ⟨a, _, rfl, (by walk_at "hand"), (by walk_at "pos"), (by walk_at "pos"), ?_⟩
    intro r4 H4 ra4 rb4 h4 k4
    have x4 : Ext a H3 H4 := drawn h4 k4
    clear k4
    -- low
    repeat walk_at "s"
    refine ⟨a, _, rfl, (by walk_at "hand"), (by walk_at "pos"), (by walk_at "pos"), ?_⟩
    intro r5 H5 ra5 rb5 h5 k5
    have x5 : Ext a H4 H5 := drawn h5 k5
    clear k5
    repeat walk_at "s"
    refine ⟨rfl, _, rfl, ?_⟩
    have X : Ext a H H5 := ((((x1.trans (.same s2)).trans x3).trans x4).trans x5)
    have nm : lo ≤ ((lo : Int) + r1).toNat ∧ ((lo : Int) + r1).toNat ≤ hi := by omega
    refine ite2 (fun z => ?_) (fun z => ?_)
    · -- all alike
      repeat walk_at "s"
      intro p6 np6
      generalize hg6 : upd H5 p6 _ = H6
      have s6 : Same H5 H6 := hg6 ▸ same_new np6
      have e6 := (congrFun hg6 p6).symm.trans upd_same
      clear hg6
      have n6 : p6 ≠ a := HandAt.ne (by walk_at "hand") np6
      walk_at "s"
      refine ⟨_, _, _, rfl, rfl, e6, ?_, ?_, small ?_, ?_⟩
      · omega
      · omega
      · rw [List.length_singleton]; omega
      rw [rep_one, rep_int]
      intro p7 np7
      generalize hg7 : upd H6 p7 _ = H7
      have s7 : Same H6 H7 := hg7 ▸ same_new np7
      have e7 := (congrFun hg7 p7).symm.trans upd_same
      clear hg7
      have n7 : p7 ≠ a := HandAt.ne (by walk_at "hand") np7
      refine q p7 _ H7 ((X.trans (.same s6)).trans (.same s7)) (X.free n7 (s6.free np7)) e7 (by rw [List.length_replicate]; omega) (by rw [List.length_replicate]; omega) ⟨List.pairwise_replicate.mpr (.inr (Int.le_refl _)), fun n hn => ?_⟩
      rw [List.eq_of_mem_replicate hn]
      omega
    · repeat walk_at "s"
      refine ⟨rfl, _, rfl, ?_⟩
      refine ite2 (fun z => ?_) (fun z => ?_)
      · -- by one step
        repeat walk_at "s"
        refine ⟨a, _, rfl, (by walk_at "hand"), (by walk_at "pos"), (by walk_at "pos"), ?_⟩
        intro r6 H6 ra6 rb6 h6 k6
        have x6 : Ext a H5 H6 := drawn h6 k6
        clear k6
        walk_at "s"
        repeat walk_at "s"
        intro D nD
        have nDa : D ≠ a := HandAt.ne (by walk_at "hand") nD
        obtain ⟨b, hb, b1, b2⟩ : ∃ b : Int, (if (10 ^ Int.toNat 15 - 1000 : Int) < r5 - y then (10 ^ Int.toNat 15 - 1000 : Int) else r5 - y) = b ∧ -1000000000000000 ≤ b ∧ b ≤ 999999999999000 := by
          refine ⟨_, rfl, ?_⟩
          rw [show (10 ^ Int.toNat 15 - 1000 : Int) = 999999999999000 from by decide]
          split <;> omega
        refine lc_range (lo := 0) (n := ((lo : Int) + r1).toNat) (fun i H' => Same H6 H' ∧ H' D = some (.lst ((stepped b (1 + r6) i).map V.int))) ⟨same_new nD, upd_same⟩ (fun i Hi hi' w => ?_) (fun Hi w => ?_)
        · obtain ⟨w1, w2⟩ := w
          refine ⟨rfl, ?_⟩
          repeat walk_at "s"
          refine ⟨_, _, rfl, ?_⟩
          repeat walk_at "s"
          refine ⟨_, w2, smallLt (by rw [List.length_map, stepped_len]; omega), fun c o hc => ?_, ?_⟩
          · rw [upd_ne (ne_of_none hc nD)]
            exact w1 c o hc
          · rw [upd_same, stepped_succ, List.map_append, ← hb, Int.zero_add]
            rfl
        · obtain ⟨w1, w2⟩ := w
          refine q D _ Hi ((X.trans x6).trans (.same w1)) (X.free nDa (x6.free nDa nD)) w2 (by rw [stepped_len]; omega) (by rw [stepped_len]; omega) ⟨stepped_sorted (by omega) _, fun n hn => ?_⟩
          obtain ⟨k, hk, rfl⟩ := stepped_mem hn
          have k1 : (k : Int) ≤ 300 := by omega
          have k2 := Int.mul_le_mul (show 1 + r6 ≤ 3 by omega) k1 (by omega) (by omega)
          have k3 := Int.mul_nonneg (show 0 ≤ 1 + r6 by omega) (show (0 : Int) ≤ (k : Int) by omega)
          omega
      · -- drawn
        repeat walk_at "s"
        intro D nD
        have nDa : D ≠ a := HandAt.ne (by walk_at "hand") nD
        refine lc_range (lo := 0) (n := ((lo : Int) + r1).toNat) (fun i H' => ∃ xs : List Int, xs.length = i ∧ Ext a H5 H' ∧ H' D = some (.lst (xs.map V.int)) ∧ ∀ n ∈ xs, -1000000000000000 ≤ n ∧ n ≤ 1000000000000000) ⟨[], rfl, .new nD, upd_same, fun _ z => nomatch z⟩ (fun i Hi hi' w => ?_) (fun Hi w => ?_)
        · obtain ⟨xs, w0, w1, w2, w3⟩ := w
          refine ⟨rfl, ?_⟩
          repeat walk_at "s"
          refine ⟨a, _, rfl, (by walk_at "hand"), (by walk_at "pos"), (by walk_at "pos"), ?_⟩
          intro r6 H6 ra6 rb6 h6 k6
          have x6 : Ext a Hi H6 := drawn h6 k6
          clear k6
          repeat walk_at "s"
          refine ⟨_, x6.keep _ _ w2 nDa, smallLt (by rw [List.length_map]; omega), xs ++ [r6 - y], by rw [List.length_append, w0]; rfl, ⟨fun c o hc hca => ?_, fun hh => ?_⟩, ?_, ?_⟩
          · rw [upd_ne (ne_of_none hc nD)]
            exact (w1.trans x6).keep c o hc hca
          · obtain ⟨u, v, e, r⟩ := (w1.trans x6).hand hh
            exact ⟨u, v, by rw [upd_ne nDa.symm]; exact e, r⟩
          · rw [upd_same, List.map_append]
            rfl
          · intro n hn
            rcases List.mem_append.mp hn with hn | hn
            · exact w3 n hn
            · rw [List.mem_singleton.mp hn]
              omega
        · obtain ⟨xs, w0, w1, w2, w3⟩ := w
          refine ⟨D, xs, rfl, SqL.new w2, fun ms p hp hs np => ?_⟩
          have npa : p ≠ a := HandAt.ne (w1.hand (by walk_at "hand")) np
          refine q p ms _ ((X.trans w1).trans (.new np)) (X.free npa (w1.free npa np)) upd_same (by rw [hp.length_eq]; omega) (by rw [hp.length_eq]; omega) (perm_fine hp hs w3)

theorem ok_two {f : Addr} {fd : FuncData} (B : Bt mg) (F : Fun K "_law_two" "_law_two" slaw_two f fd) (claw_draw : Cal P w K mg base 1 "_law_draw" ["hand", "limit"] spDraw) (claw_row : Cal P w K mg base 2 "_law_row" ["hand", "least", "most"] spRow) : FnOk P w K mg base CX0 3 f fd ["hand", "great"] spTwo := by
  have nd := sclaw_two.nd
  refine F.ok sclaw_two (fun vs H Q E h => ?_) (fun cdv A outer s H vs Q E hr h => ?_)
  · obtain ⟨a, b, rfl, _⟩ := h
    rfl
  · obtain ⟨a, b, rfl, h0, q⟩ := h
    refine ⟨_, (pss_cons (ps_if (pt_val (pv 1)) (pss_cons (ps_set (i := 2) nd rfl (.inl rfl) (pe_lst (pa_cons (pe_tup (pa_cons pe_int (pa_cons pe_int pa_nil))) (pa_cons (pe_tup (pa_cons pe_int (pa_cons pe_int pa_nil))) (pa_cons (pe_tup (pa_cons pe_int (pa_cons pe_int pa_nil))) (pa_cons (pe_tup (pa_cons pe_int (pa_cons pe_int pa_nil))) pa_nil))))))
      (pss_cons (ps_par (i := 3) (j := 4) (by rfl) nd rfl rfl (by decide) rfl rfl (pa_cons (pe_ix ix_list (pv 2) (pe_own claw_draw (hr.mono (by decide)) (by rfl) (pa_cons (pv 0) (pa_cons pe_int pa_nil))) (fun _ _ => rfl)) (pa_cons (pe_ix ix_list (pv 2) (pe_own claw_draw (hr.mono (by decide)) (by rfl) (pa_cons (pv 0) (pa_cons pe_int pa_nil))) (fun _ _ => rfl)) pa_nil)) (by rfl))
      (pss_cons (ps_set (i := 5) nd rfl (.inl rfl) (pe_tup (pa_cons (pe_own claw_row (hr.mono (by decide)) (by rfl) (pa_cons (pv 0) (pa_cons (pe_ix ix_tup (pv 3) pe_int (fun _ _ => rfl)) (pa_cons (pe_ix ix_tup (pv 3) pe_int (fun _ _ => rfl)) pa_nil)))) (pa_cons (pe_own claw_row (hr.mono (by decide)) (by rfl) (pa_cons (pv 0) (pa_cons (pe_ix ix_tup (pv 4) pe_int (fun _ _ => rfl)) (pa_cons (pe_ix ix_tup (pv 4) pe_int (fun _ _ => rfl)) pa_nil)))) pa_nil))))
      (pss_one (ps_ret (pe_ix ix_list (pe_lst (pa_cons (pv 5) (pa_cons (Rv.pe_rev2 (pv 5)) pa_nil))) (pe_own claw_draw (hr.mono (by decide)) (by rfl) (pa_cons (pv 0) (pa_cons pe_int pa_nil))) (fun _ _ => rfl))))))) pss_nil)
      (pss_cons (ps_set (i := 6) nd rfl (.inl rfl) (pe_ix ix_list (pe_lst (pa_cons pe_int (pa_cons pe_int pa_nil))) (pe_own claw_draw (hr.mono (by decide)) (by rfl) (pa_cons (pv 0) (pa_cons pe_int pa_nil))) (fun _ _ => rfl)))
      (pss_one (ps_ret (pe_tup (pa_cons (pe_own claw_row (hr.mono (by decide)) (by rfl) (pa_cons (pv 0) (pa_cons pe_int (pa_cons (pv 6) pa_nil)))) (pa_cons (pe_own claw_row (hr.mono (by decide)) (by rfl) (pa_cons (pv 0) (pa_cons pe_int (pa_cons (pe_ix ix_list (pe_lst (pa_cons pe_int (pa_cons pe_int pa_nil))) (pe_own claw_draw (hr.mono (by decide)) (by rfl) (pa_cons (pv 0) (pa_cons pe_int pa_nil))) (fun _ _ => rfl)) pa_nil)))) pa_nil))))))), ?_⟩
    repeat walk_at "s"
    cases b with
    | true =>
      refine iteT ?_
      repeat walk_at "s"
      intro p1 np1
      generalize hg1 : upd H p1 _ = H1
      have s1 : Same H H1 := hg1 ▸ same_new np1
      have e1 := (congrFun hg1 p1).symm.trans upd_same
      clear hg1
      have n1 : p1 ≠ a := HandAt.ne (by walk_at "hand") np1
      repeat walk_at "s"
      intro p2 np2
      generalize hg2 : upd H1 p2 _ = H2
      have s2 : Same H1 H2 := hg2 ▸ same_new np2
      have e2 := (congrFun hg2 p2).symm.trans upd_same
      clear hg2
      have n2 : p2 ≠ a := HandAt.ne (by walk_at "hand") np2
      repeat walk_at "s"
      intro p3 np3
      generalize hg3 : upd H2 p3 _ = H3
      have s3 : Same H2 H3 := hg3 ▸ same_new np3
      have e3 := (congrFun hg3 p3).symm.trans upd_same
      clear hg3
      have n3 : p3 ≠ a := HandAt.ne (by walk_at "hand") np3
      repeat walk_at "s"
      intro p4 np4
      generalize hg4 : upd H3 p4 _ = H4
      have s4 : Same H3 H4 := hg4 ▸ same_new np4
      have e4 := (congrFun hg4 p4).symm.trans upd_same
      clear hg4
      have n4 : p4 ≠ a := HandAt.ne (by walk_at "hand") np4
      repeat walk_at "s"
      intro p5 np5
      generalize hg5 : upd H4 p5 _ = H5
      have s5 : Same H4 H5 := hg5 ▸ same_new np5
      have e5 := (congrFun hg5 p5).symm.trans upd_same
      clear hg5
      have n5 : p5 ≠ a := HandAt.ne (by walk_at "hand") np5
      have pick : ∀ r : Int, 0 ≤ r → r < 4 → ∃ (u : Addr) (lo hi : Nat), atI [V.ref p1, V.ref p2, V.ref p3, V.ref p4] r = some (.ref u) ∧ H5 u = some (.tup [.int (lo : Int), .int (hi : Int)]) ∧ u ≠ a ∧ lo ≤ hi ∧ hi ≤ 300 := fun r g0 g1 => by
        obtain ⟨x, g2, g3⟩ := at_draw (xs := [V.ref p1, V.ref p2, V.ref p3, V.ref p4]) g0 g1
        simp only [List.mem_cons, List.not_mem_nil, or_false] at g3
        rcases g3 with rfl | rfl | rfl | rfl
        · exact ⟨p1, 240, 300, g2, (by walk_at "get"), n1, by decide, by decide⟩
        · exact ⟨p2, 240, 300, g2, (by walk_at "get"), n2, by decide, by decide⟩
        · exact ⟨p3, 13, 239, g2, (by walk_at "get"), n3, by decide, by decide⟩
        · exact ⟨p4, 0, 12, g2, (by walk_at "get"), n4, by decide, by decide⟩
      have X5 : Ext a H H5 := .same ((((s1.trans s2).trans s3).trans s4).trans s5)
      have h5 : HandAt H5 a := X5.hand h0
      clear s1 s2 s3 s4 e1 e2 e3 e4
      -- long, wide
      repeat walk_at "s"
      refine ⟨a, _, rfl, (by walk_at "hand"), (by walk_at "pos"), (by walk_at "pos"), ?_⟩
      intro r6 H6 ra6 rb6 h6 k6
      have x6 : Ext a H5 H6 := drawn h6 k6
      clear k6
      obtain ⟨u, lo, hi, u1, u2, u3, u4, u5⟩ := pick r6 ra6 (by omega)
      refine ⟨_, _, _, _, rfl, rfl, (by walk_at "sq"), u1, ?_⟩
      repeat walk_at "s"
      refine ⟨a, _, rfl, (by walk_at "hand"), (by walk_at "pos"), (by walk_at "pos"), ?_⟩
      intro r7 H7 ra7 rb7 h7 k7
      have x7 : Ext a H6 H7 := drawn h7 k7
      clear k7
      obtain ⟨v, lo', hi', v1, v2, v3, v4, v5⟩ := pick r7 ra7 rb7
      refine ⟨_, _, _, _, rfl, rfl, (by walk_at "sq"), v1, ?_⟩
      have u6 := (x6.trans x7).keep _ _ u2 u3
      have v6 := (x6.trans x7).keep _ _ v2 v3
      -- pair
      refine ⟨_, _, rfl, ?_⟩
      repeat walk_at "s"
      refine ⟨a, lo, hi, rfl, (by walk_at "hand"), u4, u5, ?_⟩
      intro p8 ns H8 x8 np8 e8 _ l8 f8
      have R8 : RowAt H8 a p8 ns := ⟨e8, HandAt.ne (by walk_at "hand") np8, f8, by omega⟩
      repeat walk_at "s"
      refine ⟨a, lo', hi', rfl, (by walk_at "hand"), v4, v5, ?_⟩
      intro p9 ms H9 x9 np9 e9 _ l9 f9
      have R9 : RowAt H9 a p9 ms := ⟨e9, HandAt.ne (by walk_at "hand") np9, f9, by omega⟩
      repeat walk_at "s"
      intro p10 np10
      generalize hg10 : upd H9 p10 _ = H10
      have s10 : Same H9 H10 := hg10 ▸ same_new np10
      have e10 := (congrFun hg10 p10).symm.trans upd_same
      clear hg10
      have n10 : p10 ≠ a := HandAt.ne (by walk_at "hand") np10
      -- the pair or turned
      repeat walk_at "s"
      refine ⟨_, _, _, rfl, Or.inl (Or.inl e10), ?_⟩
      intro p11 np11
      generalize hg11 : upd H10 p11 _ = H11
      have s11 : Same H10 H11 := hg11 ▸ same_new np11
      have e11 := (congrFun hg11 p11).symm.trans upd_same
      clear hg11
      have n11 : p11 ≠ a := HandAt.ne (by walk_at "hand") np11
      repeat walk_at "s"
      intro p12 np12
      generalize hg12 : upd H11 p12 _ = H12
      have s12 : Same H11 H12 := hg12 ▸ same_new np12
      have e12 := (congrFun hg12 p12).symm.trans upd_same
      clear hg12
      have n12 : p12 ≠ a := HandAt.ne (by walk_at "hand") np12
      repeat walk_at "s"
      refine ⟨a, _, rfl, (by walk_at "hand"), (by walk_at "pos"), (by walk_at "pos"), ?_⟩
      intro r13 H13 ra13 rb13 h13 k13
      have x13 : Ext a H12 H13 := drawn h13 k13
      clear k13
      have X10 : Ext a H H10 := (((X5.trans (x6.trans x7)).trans x8).trans x9).trans (.same s10)
      have X13 : Ext a H10 H13 := ((Ext.same s11).trans (.same s12)).trans x13
      have A8 : RowAt H13 a p8 ns := ((R8.up x9).up (.same s10)).up X13
      have A9 : RowAt H13 a p9 ms := (R9.up (.same s10)).up X13
      have T10 := X13.keep _ _ e10 n10
      have T11 := ((Ext.same s12).trans x13).keep _ _ e11 n11
      obtain ⟨x, g2, g3⟩ := at_draw (xs := [V.ref p10, V.ref p11]) ra13 rb13
      simp only [List.mem_cons, List.not_mem_nil, or_false] at g3
      refine ⟨_, _, _, _, rfl, rfl, SqL.new (x13.keep _ _ e12 n12), g2, ?_⟩
      rcases g3 with rfl | rfl
      · exact q p10 p8 p9 ns ms H13 (X10.trans X13) T10 n10 A8 A9
      · exact q p11 p9 p8 ms ns H13 (X10.trans X13) T11 n11 A9 A8
    | false =>
      refine iteF ?_
      have pick : ∀ r : Int, 0 ≤ r → r < 2 → ∃ m : Nat, atI [V.int 4, V.int 12] r = some (.int (m : Int)) ∧ m ≤ 12 := fun r g0 g1 => by
        obtain ⟨x, g2, g3⟩ := at_draw (xs := [V.int 4, V.int 12]) g0 g1
        simp only [List.mem_cons, List.not_mem_nil, or_false] at g3
        rcases g3 with rfl | rfl
        · exact ⟨4, g2, by decide⟩
        · exact ⟨12, g2, by decide⟩
      repeat walk_at "s"
      intro p1 np1
      generalize hg1 : upd H p1 _ = H1
      have s1 : Same H H1 := hg1 ▸ same_new np1
      have e1 := (congrFun hg1 p1).symm.trans upd_same
      clear hg1
      have n1 : p1 ≠ a := HandAt.ne (by walk_at "hand") np1
      repeat walk_at "s"
      refine ⟨a, _, rfl, (by walk_at "hand"), (by walk_at "pos"), (by walk_at "pos"), ?_⟩
      intro r2 H2 ra2 rb2 h2 k2
      have x2 : Ext a H1 H2 := drawn h2 k2
      clear k2
      obtain ⟨m, m1, m2⟩ := pick r2 ra2 rb2
      refine ⟨_, _, _, _, rfl, rfl, (by walk_at "sq"), m1, ?_⟩
      repeat walk_at "s"
      refine ⟨a, 0, m, rfl, (by walk_at "hand"), Nat.zero_le _, by omega, ?_⟩
      intro p8 ns H8 x8 np8 e8 _ l8 f8
      have R8 : RowAt H8 a p8 ns := ⟨e8, HandAt.ne (by walk_at "hand") np8, f8, by omega⟩
      repeat walk_at "s"
      intro p3 np3
      generalize hg3 : upd H8 p3 _ = H3
      have s3 : Same H8 H3 := hg3 ▸ same_new np3
      have e3 := (congrFun hg3 p3).symm.trans upd_same
      clear hg3
      have n3 : p3 ≠ a := HandAt.ne (by walk_at "hand") np3
      repeat walk_at "s"
      refine ⟨a, _, rfl, (by walk_at "hand"), (by walk_at "pos"), (by walk_at "pos"), ?_⟩
      intro r4 H4 ra4 rb4 h4 k4
      have x4 : Ext a H3 H4 := drawn h4 k4
      clear k4
      obtain ⟨m', m1', m2'⟩ := pick r4 ra4 rb4
      refine ⟨_, _, _, _, rfl, rfl, (by walk_at "sq"), m1', ?_⟩
      repeat walk_at "s"
      refine ⟨a, 0, m', rfl, (by walk_at "hand"), Nat.zero_le _, by omega, ?_⟩
      intro p9 ms H9 x9 np9 e9 _ l9 f9
      have R9 : RowAt H9 a p9 ms := ⟨e9, HandAt.ne (by walk_at "hand") np9, f9, by omega⟩
      repeat walk_at "s"
      intro p10 np10
      generalize hg10 : upd H9 p10 _ = H10
      have s10 : Same H9 H10 := hg10 ▸ same_new np10
      have e10 := (congrFun hg10 p10).symm.trans upd_same
      clear hg10
      have n10 : p10 ≠ a := HandAt.ne (by walk_at "hand") np10
      have X8 : Ext a H H8 := ((Ext.same s1).trans x2).trans x8
      have X10 : Ext a H8 H10 := (((Ext.same s3).trans x4).trans x9).trans (.same s10)
      exact q p10 p8 p9 ns ms H10 (X8.trans X10) e10 n10 (R8.up X10) (R9.up (.same s10))

theorem ok_asked {f : Addr} {fd : FuncData} (B : Bt mg) (F : Fun K "_law_asked_numbers" "_law_asked_numbers" slaw_asked_numbers f fd) (claw_draw : Cal P w K mg base 1 "_law_draw" ["hand", "limit"] spDraw) : FnOk P w K mg base CX0 2 f fd ["hand", "one", "other"] spAsked := by
  have nd := sclaw_asked_numbers.nd
  refine F.ok sclaw_asked_numbers (fun vs H Q E h => ?_) (fun cdv A outer s H vs Q E hr h => ?_)
  · obtain ⟨a, p, t, ns, ms, rfl, _⟩ := h
    rfl
  · obtain ⟨a, p, t, ns, ms, rfl, h0, RP, RT, q⟩ := h
    have hu := hr.units
    refine ⟨_, (pss_cons (ps_set (i := 3) nd rfl (.inl rfl) (pe_lst (pa_cons pe_int (pa_cons (pe_op op_pow pe_int pe_int) (pa_cons (pe_op op_sub pe_int (pe_op op_pow pe_int pe_int)) (pa_cons (pe_op op_sub (pe_own claw_draw (hr.mono (by decide)) (by rfl) (pa_cons (pv 0) (pa_cons pe_int pa_nil))) pe_int) (pa_cons (pe_op op_sub (pe_own claw_draw (hr.mono (by decide)) (by rfl) (pa_cons (pv 0) (pa_cons (pe_op op_add (pe_op op_mulW pe_int (pe_op op_pow pe_int pe_int)) pe_int) pa_nil))) (pe_op op_mulW pe_int (pe_op op_pow pe_int pe_int))) pa_nil)))))))
      (pss_cons (ps_for PassesOwn.never rfl (pi_range1 (by rfl) B.range_ (pa_cons (pe_op op_mulW pe_int (pe_callTy call_int1 (by rfl) B.int_ (by decide +kernel) (pa_cons (pe_and (pe_cmpR (op_neD hu) (pv 1) (pe_lst pa_nil) (nomark _)) (pe_one (pe_cmpR (op_neD hu) (pv 2) (pe_lst pa_nil) (nomark _)))) pa_nil))) pa_nil)) (pg_name (i := 4) nd rfl (.inl rfl)) (pss_cons (ps_set (i := 5) nd rfl (.inl rfl) (pe_op op_add (pe_ix ix_list (pv 1) (pe_own claw_draw (hr.mono (by decide)) (by rfl) (pa_cons (pv 0) (pa_cons (pe_callB call_len_seq (by rfl) B.len_ (by decide +kernel) (pa_cons (pv 1) pa_nil)) pa_nil))) (fun _ _ => rfl)) (pe_ix ix_list (pv 2) (pe_own claw_draw (hr.mono (by decide)) (by rfl) (pa_cons (pv 0) (pa_cons (pe_callB call_len_seq (by rfl) B.len_ (by decide +kernel) (pa_cons (pv 2) pa_nil)) pa_nil))) (fun _ _ => rfl))))
      (pss_one (ps_set (i := 3) nd rfl (.inl rfl) (pe_op op_cat (pv 3) (pe_lst (pa_cons (pe_op op_add (pe_op op_sub (pv 5) pe_int) (pe_own claw_draw (hr.mono (by decide)) (by rfl) (pa_cons (pv 0) (pa_cons pe_int pa_nil)))) pa_nil)))))))
      (pss_one (ps_ret (pv 3))))), ?_⟩
    repeat walk_at "s"
    refine ⟨a, _, rfl, (by walk_at "hand"), (by walk_at "pos"), (by walk_at "pos"), ?_⟩
    intro r1 H1 ra1 rb1 h1 k1
    have x1 : Ext a H H1 := drawn h1 k1
    clear k1
    repeat walk_at "s"
    refine ⟨a, _, rfl, (by walk_at "hand"), (by walk_at "pos"), (by walk_at "pos"), ?_⟩
    intro r2 H2 ra2 rb2 h2 k2
    have x2 : Ext a H1 H2 := drawn h2 k2
    clear k2
    repeat walk_at "s"
    intro p3 np3
    generalize hg3 : upd H2 p3 _ = H3
    have s3 : Same H2 H3 := hg3 ▸ same_new np3
    have e3 := (congrFun hg3 p3).symm.trans upd_same
    clear hg3
    have n3 : p3 ≠ a := HandAt.ne (by walk_at "hand") np3
    obtain ⟨zs, ez, lz, bz⟩ : ∃ zs : List Int, H3 p3 = some (.lst (zs.map V.int)) ∧ zs.length = 5 ∧ Mid zs := by
      refine ⟨[_, _, _, _, _], e3, rfl, fun z hz => ?_⟩
      simp only [List.mem_cons, List.not_mem_nil, or_false] at hz
      rcases hz with rfl | rfl | rfl | rfl | rfl
      · decide +kernel
      · decide +kernel
      · decide +kernel
      · omega
      · have z1 : (2 * 10 ^ Int.toNat 15 : Int) = 2000000000000000 := by decide +kernel
        have z2 : (4 * 10 ^ Int.toNat 15 + 1 : Int) = 4000000000000001 := by decide +kernel
        rw [z1]
        have z3 : r2 < 4000000000000001 := by rw [← z2]; exact rb2
        omega
    clear e3
    have X3 : Ext a H H3 := (x1.trans x2).trans (.same s3)
    -- how many turns
    repeat walk_at "s"
    intro p4 np4
    generalize hg4 : upd H3 p4 _ = H4
    have s4 : Same H3 H4 := hg4 ▸ same_new np4
    have e4 := (congrFun hg4 p4).symm.trans upd_same
    clear hg4
    have n4 : p4 ≠ a := HandAt.ne (by walk_at "hand") np4
    have PP : RowAt H4 a p ns := ((((RP.up x1).up x2).up (.same s3)).up (.same s4))
    have TT : RowAt H4 a t ms := ((((RT.up x1).up x2).up (.same s3)).up (.same s4))
    have ez4 := s4 _ _ ez
    refine ⟨di ns, di [], dp_ints PP.sq, dp_ints (ns := []) (SqL.new e4), shaped_ints _, shaped_ints _, ?_⟩
    rw [eqv_ints]
    by_cases hn : ns = []
    · rw [decide_eq_true hn]
      repeat walk_at "s"
      refine .inr ⟨_, rfl, ?_⟩
      repeat walk_at "s"
      refine for_range (lo := 0) (n := 0) (fun i σ H' => H' = H4 ∧ σ = [some (.ref a), some (.ref p), some (.ref t), some (.ref p3), none, none]) ⟨rfl, rfl⟩ (fun i σ Hi hi _ => absurd hi (Nat.not_lt_zero i)) (fun σ Hi w => ?_)
      obtain ⟨rfl, rfl⟩ := w
      exact ⟨_, rfl, q p3 zs _ (X3.trans (.same s4)) ((x1.trans x2).free n3 np3) ez4 (by omega) bz⟩
    rw [decide_eq_false hn]
    repeat walk_at "s"
    intro p5 np5
    generalize hg5 : upd H4 p5 _ = H5
    have s5 : Same H4 H5 := hg5 ▸ same_new np5
    have e5 := (congrFun hg5 p5).symm.trans upd_same
    clear hg5
    have n5 : p5 ≠ a := HandAt.ne (by walk_at "hand") np5
    refine ⟨di ms, di [], dp_ints (TT.up (.same s5)).sq, dp_ints (ns := []) (SqL.new e5), shaped_ints _, shaped_ints _, ?_⟩
    rw [eqv_ints]
    have ez5 := s5 _ _ ez4
    by_cases hm : ms = []
    · rw [decide_eq_true hm]
      repeat walk_at "s"
      refine .inr ⟨_, rfl, ?_⟩
      repeat walk_at "s"
      refine for_range (lo := 0) (n := 0) (fun i σ H' => H' = H5 ∧ σ = [some (.ref a), some (.ref p), some (.ref t), some (.ref p3), none, none]) ⟨rfl, rfl⟩ (fun i σ Hi hi _ => absurd hi (Nat.not_lt_zero i)) (fun σ Hi w => ?_)
      obtain ⟨rfl, rfl⟩ := w
      exact ⟨_, rfl, q p3 zs _ ((X3.trans (.same s4)).trans (.same s5)) ((x1.trans x2).free n3 np3) ez5 (by omega) bz⟩
    rw [decide_eq_false hm]
    repeat walk_at "s"
    refine .inr ⟨_, rfl, ?_⟩
    repeat walk_at "s"
    have hn0 : 0 < ns.length := List.length_pos_iff.mpr hn
    have hm0 : 0 < ms.length := List.length_pos_iff.mpr hm
    have X5 : Ext a H H5 := (X3.trans (.same s4)).trans (.same s5)
    refine for_range (lo := 0) (n := 4) (fun i σ H' => ∃ (r : Addr) (ys : List Int) (v4 v5 : Option V), Ext a H H' ∧ H r = none ∧ r ≠ a ∧ H' r = some (.lst (ys.map V.int)) ∧ ys.length = 5 + i ∧ Mid ys ∧ σ = [some (.ref a), some (.ref p), some (.ref t), some (.ref r), v4, v5])
      ⟨p3, zs, none, none, X5, (x1.trans x2).free n3 np3, n3, ez5, lz, bz, rfl⟩ (fun i σ H6 hi w => ?_) (fun σ Hi w => ?_)
    · obtain ⟨r, ys, v4, v5, X6, nr, nra, er, lr, br, rfl⟩ := w
      have P6 := RP.up X6
      have T6 := RT.up X6
      have h6 : HandAt H6 a := X6.hand h0
      have lp := RP.len
      have lt := RT.len
      clear X3 X5 x1 x2 s3 s4 s5
      repeat walk_at "s"
      refine ⟨_, _, rfl, .inl P6.sq, ?_⟩
      rw [List.length_map]
      refine ⟨a, _, rfl, h6, by omega, by omega, ?_⟩
      intro r7 H7 ra7 rb7 h7 k7
      have x7 : Ext a H6 H7 := drawn h7 k7
      obtain ⟨x, g1, g2⟩ := at_draw (xs := ns) ra7 rb7
      refine ⟨_, _, _, .int x, rfl, rfl, (P6.up x7).sq, at_map g1, ?_⟩
      repeat walk_at "s"
      refine ⟨_, _, rfl, .inl (T6.up x7).sq, ?_⟩
      rw [List.length_map]
      refine ⟨a, _, rfl, h7, by omega, by omega, ?_⟩
      intro r8 H8 ra8 rb8 h8 k8
      have x8 : Ext a H7 H8 := drawn h8 k8
      obtain ⟨y, g3, g4⟩ := at_draw (xs := ms) ra8 rb8
      refine ⟨_, _, _, .int y, rfl, rfl, ((T6.up x7).up x8).sq, at_map g3, ?_⟩
      repeat walk_at "s"
      refine ⟨a, _, rfl, (by walk_at "hand"), (by walk_at "pos"), (by walk_at "pos"), ?_⟩
      intro r9 H9 ra9 rb9 h9 k9
      have x9 : Ext a H8 H9 := drawn h9 k9
      clear k9
      repeat walk_at "s"
      intro p10 np10
      generalize hg10 : upd H9 p10 _ = H10
      have s10 : Same H9 H10 := hg10 ▸ same_new np10
      have e10 := (congrFun hg10 p10).symm.trans upd_same
      clear hg10
      have n10 : p10 ≠ a := HandAt.ne (by walk_at "hand") np10
      have er10 := s10 _ _ (((x7.trans x8).trans x9).keep _ _ er nra)
      refine ⟨_, _, _, _, rfl, rfl, er10, e10, small (by rw [List.length_map, lr]; show 5 + i + 1 ≤ 100000; omega), ?_⟩
      intro p11 np11
      generalize hg11 : upd H10 p11 _ = H11
      have s11 : Same H10 H11 := hg11 ▸ same_new np11
      have e11 := (congrFun hg11 p11).symm.trans upd_same
      clear hg11
      have n11 : p11 ≠ a := HandAt.ne (by walk_at "hand") np11
      have X11 : Ext a H6 H11 := (((x7.trans x8).trans x9).trans (.same s10)).trans (.same s11)
      have fx := RP.fine.2 x g2
      have fy := RT.fine.2 y g4
      refine ⟨p11, ys ++ [x + y - 1 + r9], _, _, X6.trans X11, X6.free n11 ((((x7.trans x8).trans x9).trans (.same s10)).free n11 np11), n11, ?_, by rw [List.length_append, lr]; rfl, fun z hz => ?_, rfl⟩
      · rw [← map_app1]
        exact e11
      · rcases List.mem_append.mp hz with hz | hz
        · exact br z hz
        · rw [List.mem_singleton.mp hz]
          omega
    · obtain ⟨r, ys, v4, v5, X6, nr, nra, er, lr, br, rfl⟩ := w
      exact ⟨_, rfl, q r ys Hi X6 nr er (by omega) br⟩

theorem ok_many_below {f : Addr} {fd : FuncData} (B : Bt mg) (F : Fun K "many_below" "many_below" smany_below f fd) : FnOk P w K mg base CX0 1 f fd ["row", "number"] (spBelow K) := by
  have nd := scmany_below.nd
  refine F.ok scmany_below (fun vs H Q E h => ?_) (fun cdv A outer s H vs Q E hr h => ?_)
  · obtain ⟨p, ns, n, rfl, _⟩ := h
    rfl
  · obtain ⟨p, ns, n, rfl, hS, hsort, q⟩ := h
    refine ⟨_, (pss_cons (ps_set (i := 2) nd rfl (.inl rfl) pe_int)
      (pss_cons (ps_set (i := 3) nd rfl (.inl rfl) (pe_callB call_len_seq (by rfl) B.len_ (by decide +kernel) (pa_cons (pv 0) pa_nil)))
      (pss_cons (ps_while PassesOwn.never (pt_cmpR op_lt (pv 2) (pv 3) (nomark _)) (pss_cons (ps_set (i := 4) nd rfl (.inl rfl) (pe_op op_fdivW (pe_op op_add (pv 2) (pv 3)) pe_int))
      (pss_one (ps_if (pt_cmpR op_lt (pe_ix ix_list (pv 0) (pv 4) (fun _ _ => rfl)) (pv 1) (nomark _)) (pss_one (ps_set (i := 2) nd rfl (.inl rfl) (pe_op op_add (pv 4) pe_int))) (pss_one (ps_set (i := 3) nd rfl (.inl rfl) (pv 4)))))))
      (pss_one (ps_ret (pv 2)))))), ?_⟩
    walk_at "s"
    refine ⟨_, _, rfl, .inl hS, ?_⟩
    rw [List.length_map]
    refine ⟨fun m σ H1 => ∃ (lo hi : Nat) (v : Option V), σ = [some (.ref p), some (.int n), some (.int lo), some (.int hi), v] ∧ H1 = H ∧ m = hi - lo ∧ lo ≤ cntB ns n ∧ cntB ns n ≤ hi ∧ hi ≤ ns.length,
      ⟨_, 0, ns.length, none, rfl, rfl, rfl, Nat.zero_le _, cntB_le ns n, Nat.le_refl _⟩, fun m σ H1 w => ?_⟩
    obtain ⟨lo, hi, v, rfl, rfl, rfl, h1, h2, h3⟩ := w
    repeat walk_at "s"
    refine ite2 (fun z => ?_) (fun z => ?_)
    · have z1 : (lo : Int) < hi := of_decide_eq_true z
      refine ⟨_, fun σ' H' y => y, ?_⟩
      have e : ((lo : Int) + hi) / 2 = (((lo + hi) / 2 : Nat) : Int) := by omega
      obtain ⟨x, hx⟩ : ∃ x, ns[(lo + hi) / 2]? = some x := ⟨_, List.getElem?_eq_getElem (by omega)⟩
      have key := cntB_lt (n := n) hsort hx
      repeat walk_at "s"
      refine ⟨_, _, _, .int x, rfl, rfl, hS, ?_, ?_⟩
      · show atI _ (((lo : Int) + hi) / 2) = _
        rw [e]
        exact atI_nat (by rw [List.getElem?_map, hx]; rfl)
      repeat walk_at "s"
      refine ite2 (fun y => ?_) (fun y => ?_)
      · have y1 : x < n := of_decide_eq_true y
        repeat walk_at "s"
        refine ⟨_, ?_, (lo + hi) / 2 + 1, hi, some (V.int (((lo + hi) / 2 : Nat) : Int)), ?_, rfl, rfl, ?_, h2, h3⟩
        · omega
        · show [some (V.ref p), some (V.int n), some (V.int (((lo : Int) + hi) / 2 + 1)), some (V.int hi), some (V.int (((lo : Int) + hi) / 2))] = _
          rw [e]
          rfl
        · have := key.mp y1
          omega
      · have y1 : ¬ x < n := fun w => y (decide_eq_true w)
        repeat walk_at "s"
        refine ⟨_, ?_, lo, (lo + hi) / 2, some (V.int (((lo + hi) / 2 : Nat) : Int)), ?_, rfl, rfl, h1, ?_, ?_⟩
        · omega
        · show [some (V.ref p), some (V.int n), some (V.int lo), some (V.int (((lo : Int) + hi) / 2)), some (V.int (((lo : Int) + hi) / 2))] = _
          rw [e]
        · have := fun w => y1 (key.mpr w)
          omega
        · omega
    · have z1 : ¬ (lo : Int) < hi := fun y => z (decide_eq_true y)
      have e : cntB ns n = lo := by omega
      rw [e] at q
      exact ⟨_, rfl, q⟩

theorem ok_sums_below {f : Addr} {fd : FuncData} (B : Bt mg) (F : Fun K "sums_below" "sums_below" ssums_below f fd) : FnOk P w K mg base CX0 1 f fd ["one", "other", "number"] (spSums K) := by
  have nd := scsums_below.nd
  refine F.ok scsums_below (fun vs H Q E h => ?_) (fun cdv A outer s H vs Q E hr h => ?_)
  · obtain ⟨p, t, ns, ms, n, rfl, _⟩ := h
    rfl
  · obtain ⟨p, t, ns, ms, n, rfl, hS, hT, hsort, hsm, q⟩ := h
    refine ⟨_, (pss_cons (ps_set (i := 3) nd rfl (.inl rfl) pe_int)
      (pss_cons (ps_set (i := 4) nd rfl (.inl rfl) (pe_callB call_len_seq (by rfl) B.len_ (by decide +kernel) (pa_cons (pv 1) pa_nil)))
      (pss_cons (ps_for PassesOwn.never rfl (pi_list (pv 0)) (pg_name (i := 5) nd rfl (.inl rfl)) (pss_cons (ps_while PassesOwn.never (PW.pt (pw_and (pt_cmpR op_gt (pv 4) pe_int (nomark _)) (pw_and1 (pt_cmpR op_ge (pe_op op_add (pv 5) (pe_ix ix_list (pv 1) (pe_op op_sub (pv 4) pe_int) (fun _ _ => rfl))) (pv 2) (nomark _))))) (pss_one (ps_aug (i := 4) nd rfl (.inl rfl) pe_int ip_sub)))
      (pss_one (ps_aug (i := 3) nd rfl (.inl rfl) (pv 4) ip_add))))
      (pss_one (ps_ret (pv 3)))))), ?_⟩
    walk_at "s"
    refine ⟨_, _, rfl, .inl hT, ?_⟩
    rw [List.length_map]
    refine ⟨_, rfl, _, rfl, ⟨_, hS⟩, ?_⟩
    refine for_list (K := K) (a := p) (xs := ns.map V.int) (fun i σ H' => H' = H ∧ ∃ (en : Nat) (v5 : Option V), σ = [some (.ref p), some (.ref t), some (.int n), some (.int (cntS (ns.take i) ms n : Nat)), some (.int (en : Int)), v5] ∧ en ≤ ms.length ∧ ∀ (j : Nat) (x : Int), i ≤ j → ns[j]? = some x → cntB ms (n - x) ≤ en)
      ⟨rfl, ms.length, none, rfl, Nat.le_refl _, fun j x _ _ => cntB_le _ _⟩ (fun i σ Hi _ w => by rw [w.1]; exact hS) (fun i v σ Hi hv w => ?_) (fun σ Hi w => ?_)
    · obtain ⟨rfl, en, v5, rfl, hen, hall⟩ := w
      obtain ⟨x, hx, rfl⟩ := int_at hv
      have after : ∀ (j : Nat) (y : Int), i + 1 ≤ j → ns[j]? = some y → cntB ms (n - y) ≤ cntB ms (n - x) := fun j y hj hy => cntB_mono (by have := sorted_le hsort hx hy (by omega); omega)
      refine ⟨fun m σ H1 => ∃ e : Nat, σ = [some (.ref p), some (.ref t), some (.int n), some (.int (cntS (ns.take i) ms n : Nat)), some (.int (e : Int)), some (.int x)] ∧ H1 = Hi ∧ m = e ∧ cntB ms (n - x) ≤ e ∧ e ≤ ms.length,
        ⟨_, en, rfl, rfl, rfl, hall i x (Nat.le_refl _) hx, hen⟩, fun m σ H1 w => ?_⟩
      obtain ⟨e, rfl, rfl, rfl, h1, h2⟩ := w
      have done : ∀ (e' : Nat), e' = cntB ms (n - x) → (((cntS (ns.take i) ms n : Nat) : Int) + (e' : Int)) = ((cntS (ns.take (i + 1)) ms n : Nat) : Int) := fun e' he => by
        rw [take_snoc hx, cntS_snoc, he]
        omega
      repeat walk_at "s"
      refine ite2 (fun z => ?_) (fun z => ?_)
      · have z1 : (0 : Int) < (m : Int) := of_decide_eq_true z
        obtain ⟨y, hy⟩ : ∃ y, ms[m - 1]? = some y := ⟨_, List.getElem?_eq_getElem (by omega)⟩
        have key := cntB_lt (n := n - x) hsm hy
        repeat walk_at "s"
        refine ⟨_, _, _, .int y, rfl, rfl, hT, ?_, ?_⟩
        · show atI _ ((m : Int) - 1) = _
          rw [show (m : Int) - 1 = ((m - 1 : Nat) : Int) from by omega]
          exact atI_nat (by rw [List.getElem?_map, hy]; rfl)
        repeat walk_at "s"
        refine ite2 (fun u => ?_) (fun u => ?_)
        · have u1 : n ≤ x + y := of_decide_eq_true u
          refine ⟨_, fun σ' H' k => k, ?_⟩
          repeat walk_at "s"
          refine ⟨m - 1, by omega, m - 1, ?_, rfl, rfl, ?_, by omega⟩
          · show [some (V.ref p), some (V.ref t), some (V.int n), some (V.int (cntS (ns.take i) ms n : Nat)), some (V.int ((m : Int) - 1)), some (V.int x)] = _
            rw [show (m : Int) - 1 = ((m - 1 : Nat) : Int) from by omega]
          · have : ¬ y < n - x := by omega
            have := fun z => this (key.mpr z)
            omega
        · have u1 : ¬ n ≤ x + y := fun k => u (decide_eq_true k)
          have e1 : m = cntB ms (n - x) := by
            have := key.mp (by omega)
            omega
          repeat walk_at "s"
          refine ⟨rfl, m, some (.int x), ?_, h2, fun j y hj hy => by rw [e1]; exact after j y hj hy⟩
          rw [← done m e1]
          rfl
      · have z1 : ¬ (0 : Int) < (m : Int) := fun k => z (decide_eq_true k)
        have e1 : m = cntB ms (n - x) := by omega
        repeat walk_at "s"
        refine ⟨rfl, m, some (.int x), ?_, h2, fun j y hj hy => by rw [e1]; exact after j y hj hy⟩
        rw [← done m e1]
        rfl
    · obtain ⟨rfl, en, v5, rfl, hen, hall⟩ := w
      rw [List.length_map, take_all]
      exact ⟨_, rfl, q⟩

theorem ok_sums_to {f : Addr} {fd : FuncData} (F : Fun K "sums_to" "sums_to" ssums_to f fd) (csums_below : Cal P w K mg base 1 "sums_below" ["one", "other", "number"] (spSums K)) : FnOk P w K mg base CX0 2 f fd ["one", "other", "number"] (spSumsTo K) := by
  have nd := scsums_to.nd
  refine F.ok scsums_to (fun vs H Q E h => ?_) (fun cdv A outer s H vs Q E hr h => ?_)
  · obtain ⟨p, t, ns, ms, n, rfl, _⟩ := h
    rfl
  · obtain ⟨p, t, ns, ms, n, rfl, hS, hT, hsort, hsm, q⟩ := h
    refine ⟨_, (pss_one (ps_ret (pe_own csums_below (hr.mono (by decide)) (by rfl) (pa_cons (pv 0) (pa_cons (pv 1) (pa_cons (pe_op op_add (pv 2) pe_int) pa_nil)))))), ?_⟩
    repeat walk_at "s"
    exact ⟨p, t, ns, ms, n + 1, rfl, hS, hT, hsort, hsm, q⟩

theorem ok_joined {f : Addr} {fd : FuncData} (B : Bt mg) (F : Fun K "joined" "joined" sjoined f fd) : FnOk P w K mg base CX0 1 f fd ["one", "other"] spJoined := by
  have nd := scjoined.nd
  refine F.ok scjoined (fun vs H Q E h => ?_) (fun cdv A outer s H vs Q E hr h => ?_)
  · obtain ⟨p, t, ns, ms, rfl, _⟩ := h
    rfl
  · obtain ⟨p, t, ns, ms, rfl, hp, ht, hl, q⟩ := h
    refine ⟨_, (pss_one (ps_ret (pe_callB cr_sortedI (by rfl) B.sorted_ (by decide +kernel) (pa_cons (pe_op op_cat (pv 0) (pv 1)) pa_nil)))), ?_⟩
    repeat walk_at "s"
    refine ⟨_, _, _, _, rfl, rfl, hp, ht, small (by rw [List.length_map, List.length_map]; omega), ?_⟩
    intro p1 np1
    generalize hg1 : upd H p1 _ = H1
    have s1 : Same H H1 := hg1 ▸ same_new np1
    have e1 := (congrFun hg1 p1).symm.trans upd_same
    clear hg1
    rw [← List.map_append] at e1
    refine ⟨p1, ns ++ ms, rfl, SqL.new e1, fun js r h1 h2 nr => ?_⟩
    exact q r js _ (s1.trans (same_new nr)) (s1.free nr) upd_same h1 h2

theorem ok_turned {f : Addr} {fd : FuncData} (F : Fun K "_law_turned" "_law_turned" slaw_turned f fd) : FnOk P w K mg base CX0 1 f fd ["row"] (spTurned K) := by
  have nd := sclaw_turned.nd
  refine F.ok sclaw_turned (fun vs H Q E h => ?_) (fun cdv A outer s H vs Q E hr h => ?_)
  · obtain ⟨p, ns, rfl, _⟩ := h
    rfl
  · obtain ⟨p, ns, rfl, hS, hl, q⟩ := h
    refine ⟨_, (pss_one (ps_ret (pe_lc (own := [("number", 1)]) (by rfl) nd (pi_list (pe_revL (pv 0))) (blkOk_by (own := [("number", 1)]) (N := ["row", "number"]) (sc := defScope slaw_turned) (by decide +kernel)) (fun _ _ _ _ _ => (pg_name (i := 1) nd rfl (.inl rfl))) (fun _ _ _ _ _ => pts_nil) (fun _ _ _ _ _ => (pe_op op_sub pe_int (pv 1)))))), ?_⟩
    repeat walk_at "s"
    refine ⟨_, _, rfl, hS, ?_⟩
    intro p1 np1
    generalize hg1 : upd H p1 _ = H1
    have s1 : Same H H1 := hg1 ▸ same_new np1
    have e1 := (congrFun hg1 p1).symm.trans upd_same
    clear hg1
    rw [← List.map_reverse] at e1
    refine ⟨_, rfl, ⟨_, SqL.new e1⟩, ?_⟩
    intro D nD
    refine lc_list (K := K) (a := p1) (xs := ns.reverse.map V.int) (fun i H' => Same H1 H' ∧ H' D = some (.lst (((ns.reverse.take i).map fun x => 0 - x).map V.int))) ⟨same_new nD, upd_same⟩ (fun i Hi _ w => w.1.seq (SqL.new e1)) (fun i x Hi hx w => ?_) (fun H2 w => ?_)
    · obtain ⟨w1, w2⟩ := w
      obtain ⟨y, hy, rfl⟩ := int_at hx
      refine ⟨rfl, ?_⟩
      repeat walk_at "s"
      have hl2 : (ns.reverse.take i).length ≤ 10000 := by
        have := List.length_take_le' i ns.reverse
        rw [List.length_reverse] at this
        omega
      refine ⟨_, w2, smallLt (by rw [List.length_map, List.length_map]; omega), same_app nD w1, ?_⟩
      rw [upd_same, take_snoc hy, map_app1, List.map_append, List.map_append, List.map_append]
      rfl
    · obtain ⟨w1, w2⟩ := w
      rw [List.length_map, take_all] at w2
      exact q D H2 (s1.trans w1) (s1.free nD) w2

theorem ok_right7 {f : Addr} {fd : FuncData} (B : Bt mg) (F : Fun K "_law_right" "_law_right" slaw_right f fd) (csums_below : Cal P w K mg base 1 "sums_below" ["one", "other", "number"] (spSums K)) (csums_to : Cal P w K mg base 2 "sums_to" ["one", "other", "number"] (spSumsTo K))
    (cmany_below : Cal P w K mg base 1 "many_below" ["row", "number"] (spBelow K)) (cjoined : Cal P w K mg base 1 "joined" ["one", "other"] spJoined) (claw_turned : Cal P w K mg base 1 "_law_turned" ["row"] (spTurned K)) : FnOk P w K mg base CX0 3 f fd ["one", "other", "third", "number", "by"] (spRight7 K) := by
  have nd := sclaw_right.nd
  refine F.ok sclaw_right (fun vs H Q E h => ?_) (fun cdv A outer s H vs Q E hr h => ?_)
  · obtain ⟨p, t, u, ns, ms, ks, n, b, rfl, _⟩ := h
    rfl
  · obtain ⟨p, t, u, ns, ms, ks, n, b, rfl, hP, hT, hU, fn, fm, fk, ln, lm, lk, n1, n2, q⟩ := h
    have hu := hr.units
    refine ⟨_, (pss_cons (ps_set (i := 5) nd rfl (.inl rfl) (pe_own csums_below (hr.mono (by decide)) (by rfl) (pa_cons (pv 0) (pa_cons (pv 1) (pa_cons (pv 3) pa_nil)))))
      (pss_cons (ps_if (PW.pt (pw_or (pt_cmpR op_ne (pe_own csums_below (hr.mono (by decide)) (by rfl) (pa_cons (pv 1) (pa_cons (pv 0) (pa_cons (pv 3) pa_nil)))) (pv 5) (nomark _)) (pw_or1 (pt_cmpR op_ne (pe_own csums_to (hr.mono (by decide)) (by rfl) (pa_cons (pv 0) (pa_cons (pv 1) (pa_cons (pe_op op_sub (pv 3) pe_int) pa_nil)))) (pv 5) (nomark _))))) (pss_one (ps_ret pe_bl)) pss_nil)
      (pss_cons (ps_if (pt_cmpR op_ne (pe_own csums_below (hr.mono (by decide)) (by rfl) (pa_cons (pe_own cjoined (hr.mono (by decide)) (by rfl) (pa_cons (pv 0) (pa_cons (pv 2) pa_nil))) (pa_cons (pv 1) (pa_cons (pv 3) pa_nil)))) (pe_op op_add (pv 5) (pe_own csums_below (hr.mono (by decide)) (by rfl) (pa_cons (pv 2) (pa_cons (pv 1) (pa_cons (pv 3) pa_nil))))) (nomark _)) (pss_one (ps_ret pe_bl)) pss_nil)
      (pss_cons (ps_if (pt_cmpR op_ne (pe_own csums_below (hr.mono (by decide)) (by rfl) (pa_cons (pe_lc (own := [("first", 6)]) (by rfl) nd (pi_list (pv 0)) (blkOk_by (own := [("first", 6)]) (N := ["one", "other", "third", "number", "by", "told", "first", "some", "times"]) (sc := defScope slaw_right) (by decide +kernel)) (fun _ _ _ _ _ => (pg_name (i := 6) nd rfl (.inl rfl))) (fun _ _ _ _ _ => pts_nil) (fun _ _ _ _ _ => (pe_op op_add (pv 6) (pv 4)))) (pa_cons (pv 1) (pa_cons (pe_op op_add (pv 3) (pv 4)) pa_nil)))) (pv 5) (nomark _)) (pss_one (ps_ret pe_bl)) pss_nil)
      (pss_cons (ps_if (pt_cmpR op_ne (pe_own csums_to (hr.mono (by decide)) (by rfl) (pa_cons (pe_own claw_turned (hr.mono (by decide)) (by rfl) (pa_cons (pv 0) pa_nil)) (pa_cons (pe_own claw_turned (hr.mono (by decide)) (by rfl) (pa_cons (pv 1) pa_nil)) (pa_cons (pe_op op_sub pe_int (pv 3)) pa_nil)))) (pe_op op_sub (pe_op op_mulW (pe_callB call_len_seq (by rfl) B.len_ (by decide +kernel) (pa_cons (pv 0) pa_nil)) (pe_callB call_len_seq (by rfl) B.len_ (by decide +kernel) (pa_cons (pv 1) pa_nil))) (pv 5)) (nomark _)) (pss_one (ps_ret pe_bl)) pss_nil)
      (pss_cons (ps_setLc (i := 8) (own := [("some", 7)]) (by rfl) nd rfl rfl (sw_true rfl rfl rfl (by decide +kernel)) (pi_tup (pe_tup (pa_cons (pv 0) (pa_cons (pv 1) pa_nil)))) (blkOk_by (own := [("some", 7)]) (N := ["one", "other", "third", "number", "by", "told", "first", "some", "times"]) (sc := defScope slaw_right) (by decide +kernel)) (fun _ _ _ _ _ => (pg_name (i := 7) nd rfl (.inl rfl))) (fun _ _ _ _ _ => pts_nil) (fun _ _ _ _ _ => (pe_lc (own := [("first", 6)]) (by rfl) nd (pi_listK (K := K) rfl (pv 7)) (blkOk_by (own := [("first", 6)]) (N := ["one", "other", "third", "number", "by", "told", "first", "some", "times"]) (sc := compScopeAt slaw_right 5) (by decide +kernel)) (fun _ _ _ _ _ => (pg_name (i := 6) nd rfl (.inl rfl))) (fun _ _ _ _ _ => pts_nil) (fun _ _ _ _ _ => (pe_op op_mulW (pv 6) pe_int)))))
      (pss_cons (ps_if (pt_cmpR op_ne (pe_own csums_below (hr.mono (by decide)) (by rfl) (pa_cons (pe_ix ix_list (pv 8) pe_int (fun _ _ => rfl)) (pa_cons (pe_ix ix_list (pv 8) pe_int (fun _ _ => rfl)) (pa_cons (pe_op op_mulW (pv 3) pe_int) pa_nil)))) (pv 5) (nomark _)) (pss_one (ps_ret pe_bl)) pss_nil)
      (pss_one (ps_ret (pe_cmpR op_eq (pe_own csums_below (hr.mono (by decide)) (by rfl) (pa_cons (pe_lst (pa_cons (pv 4) pa_nil)) (pa_cons (pv 1) (pa_cons (pv 3) pa_nil)))) (pe_own cmany_below (hr.mono (by decide)) (by rfl) (pa_cons (pv 1) (pa_cons (pe_op op_sub (pv 3) (pv 4)) pa_nil))) (nomark _))))))))))), ?_⟩
    repeat walk_at "s"
    refine ⟨p, t, ns, ms, n, rfl, SqL.new hP, SqL.new hT, fn.1, fm.1, ?_⟩
    repeat walk_at "s"
    refine ⟨t, p, ms, ns, n, rfl, SqL.new hT, SqL.new hP, fm.1, fn.1, ?_⟩
    rw [cntS_comm ns ms n]
    repeat walk_at "s"
    refine ne_same rfl ?_
    repeat walk_at "s"
    refine ⟨p, t, ns, ms, n - 1, rfl, SqL.new hP, SqL.new hT, fn.1, fm.1, ?_⟩
    rw [show n - 1 + 1 = n from by omega]
    repeat walk_at "s"
    refine ne_same rfl ?_
    -- joined
    repeat walk_at "s"
    refine ⟨p, u, ns, ks, rfl, hP, hU, by omega, ?_⟩
    intro r js H1 s1 nr er pj sj
    repeat walk_at "s"
    refine ⟨r, t, js, ms, n, rfl, SqL.new er, SqL.new (s1 _ _ hT), sj, fm.1, ?_⟩
    repeat walk_at "s"
    refine ⟨u, t, ks, ms, n, rfl, SqL.new (s1 _ _ hU), SqL.new (s1 _ _ hT), fk.1, fm.1, ?_⟩
    have c1 : ((cntS js ms n : Nat) : Int) = ((cntS ns ms n : Nat) : Int) + ((cntS ks ms n : Nat) : Int) := by
      rw [cntS_perm pj, cntS_append]
      omega
    rw [c1]
    repeat walk_at "s"
    refine ne_same rfl ?_
    -- moved
    repeat walk_at "s"
    refine ⟨⟨_, SqL.new (s1 _ _ hP)⟩, ?_⟩
    intro D nD
    refine lc_list (K := K) (a := p) (xs := ns.map V.int) (fun j H' => Same H1 H' ∧ H' D = some (.lst (((ns.take j).map fun x => x + b).map V.int))) ⟨same_new nD, upd_same⟩ (fun j Hj _ w => w.1.seq (SqL.new (s1 _ _ hP))) (fun j x Hj hj w => ?_) (fun H2 w => ?_)
    · obtain ⟨w1, w2⟩ := w
      obtain ⟨y, hy, rfl⟩ := int_at hj
      refine ⟨rfl, ?_⟩
      repeat walk_at "s"
      exact map_turn (f := fun x => x + b) nD w1 w2 hy (by omega)
    obtain ⟨s2, w2⟩ := w
    rw [List.length_map, take_all] at w2
    have S2 := s1.trans s2
    repeat walk_at "s"
    refine ⟨D, t, _, ms, n + b, rfl, SqL.new w2, SqL.new (S2 _ _ hT), shift_sorted b fn.1, fm.1, ?_⟩
    rw [cntS_shift]
    repeat walk_at "s"
    refine ne_same rfl ?_
    -- turned
    repeat walk_at "s"
    refine ⟨p, ns, rfl, SqL.new (S2 _ _ hP), by omega, ?_⟩
    intro r3 H3 s3 nr3 er3
    repeat walk_at "s"
    refine ⟨t, ms, rfl, SqL.new (s3 _ _ (S2 _ _ hT)), by omega, ?_⟩
    intro r4 H4 s4 nr4 er4
    have S4 := (S2.trans s3).trans s4
    repeat walk_at "s"
    refine ⟨r3, r4, turned ns, turned ms, 0 - n, rfl, SqL.new (s4 _ _ er3), SqL.new er4, turned_sorted fn.1, turned_sorted fm.1, ?_⟩
    repeat walk_at "s"
    refine ⟨p, _, rfl, .inl (SqL.new (S4 _ _ hP)), ?_⟩
    rw [List.length_map]
    repeat walk_at "s"
    refine ⟨t, _, rfl, .inl (SqL.new (S4 _ _ hT)), ?_⟩
    rw [List.length_map]
    repeat walk_at "s"
    have c2 : ((ns.length : Nat) : Int) * ((ms.length : Nat) : Int) - ((cntS ns ms n : Nat) : Int) = ((cntS (turned ns) (turned ms) (0 - n + 1) : Nat) : Int) := by
      have h1 := cntS_turned ns ms n
      have h2 : (((ns.length * ms.length : Nat)) : Int) = ((ns.length : Nat) : Int) * ((ms.length : Nat) : Int) := Int.natCast_mul _ _
      omega
    show rNe (V.int _) (V.int (((ns.length : Nat) : Int) * ((ms.length : Nat) : Int) - ((cntS ns ms n : Nat) : Int))) _ _
    rw [c2]
    refine ne_same rfl ?_
    -- times three
    repeat walk_at "s"
    intro p5 np5
    generalize hg5 : upd H4 p5 _ = H5
    have s5 : Same H4 H5 := hg5 ▸ same_new np5
    have e5 := (congrFun hg5 p5).symm.trans upd_same
    clear hg5
    refine ⟨_, rfl, ⟨_, Or.inl (Or.inl e5)⟩, ?_⟩
    intro D6 nD6
    refine lc_tup (K := K) (a := p5) (xs := [V.ref p, V.ref t]) (fun j H' => Same H5 H' ∧ ∃ rs : List Addr, rs.length = j ∧ H' D6 = some (.lst (rs.map V.ref)) ∧ ∀ (i : Nat) (r : Addr), rs[i]? = some r → r ≠ D6 ∧ H' r = some (.lst ((([ns, ms].getD i []).map fun x => x * 3).map V.int)))
      ⟨same_new nD6, [], rfl, upd_same, fun i r h => by simp at h⟩ (fun j Hj _ w => .inl (.inl (w.1 _ _ e5))) (fun j x Hj hj w => ?_) (fun H6 w => ?_)
    · obtain ⟨w1, rs, w2, w3, w4⟩ := w
      obtain ⟨pp, kk, hp1, hp2, hp3, hp4, hp5⟩ : ∃ (pp : Addr) (kk : List Int), x = .ref pp ∧ Hj pp = some (.lst (kk.map V.int)) ∧ [ns, ms].getD j [] = kk ∧ kk.length ≤ 300 ∧ Fine kk := by
        match j, hj with
        | 0, hj =>
          obtain rfl := Option.some.inj hj
          exact ⟨p, ns, rfl, w1 _ _ (s5 _ _ (S4 _ _ hP)), rfl, ln, fn⟩
        | 1, hj =>
          obtain rfl := Option.some.inj hj
          exact ⟨t, ms, rfl, w1 _ _ (s5 _ _ (S4 _ _ hT)), rfl, lm, fm⟩
        | j + 2, hj => simp at hj
      subst hp1
      refine ⟨rfl, ?_⟩
      refine ⟨_, rfl, _, rfl, ⟨_, SqL.new hp2⟩, ?_⟩
      intro D7 nD7
      refine lc_list (K := K) (a := pp) (xs := kk.map V.int) (fun i H' => Same Hj H' ∧ H' D7 = some (.lst (((kk.take i).map fun x => x * 3).map V.int))) ⟨same_new nD7, upd_same⟩ (fun i Hi _ w => w.1.seq (SqL.new hp2)) (fun i x Hi hi w => ?_) (fun H7 w => ?_)
      · obtain ⟨v1, v2⟩ := w
        obtain ⟨y, hy, rfl⟩ := int_at hi
        have by1 := hp5.2 y (List.mem_of_getElem? hy)
        refine ⟨rfl, ?_⟩
        repeat walk_at "s"
        exact map_turn (f := fun x => x * 3) nD7 v1 v2 hy (by omega)
      obtain ⟨v1, v2⟩ := w
      rw [List.length_map, take_all] at v2
      have n67 : D7 ≠ D6 := (ne_of_none w3 nD7).symm
      have hjl : j < 2 := (List.getElem?_eq_some_iff.mp hj).1
      refine ⟨_, v1 _ _ w3, smallLt (by rw [List.length_map]; omega), same_app nD6 (w1.trans v1), rs ++ [D7], by rw [List.length_append, w2]; rfl, by rw [upd_same, List.map_append]; rfl, fun i r h => ?_⟩
      by_cases hil : i < rs.length
      · rw [List.getElem?_append_left hil] at h
        obtain ⟨q1, q2⟩ := w4 i r h
        exact ⟨q1, by rw [upd_ne q1]; exact v1 _ _ q2⟩
      · have hil2 := (List.getElem?_eq_some_iff.mp h).1
        rw [List.length_append, List.length_singleton] at hil2
        have e : i = rs.length := by omega
        subst e
        rw [List.getElem?_append_right (Nat.le_refl _), Nat.sub_self] at h
        obtain rfl : D7 = r := Option.some.inj h
        exact ⟨n67, by rw [upd_ne n67, w2, hp3]; exact v2⟩
    obtain ⟨s6, rs, w2, w3, w4⟩ := w
    obtain ⟨r1, r2, rfl⟩ : ∃ r1 r2, rs = [r1, r2] := by
      match rs, w2 with
      | [r1, r2], _ => exact ⟨r1, r2, rfl⟩
    have a1 : H6 r1 = some (.lst ((ns.map fun x => x * 3).map V.int)) := (w4 0 r1 rfl).2
    have a2 : H6 r2 = some (.lst ((ms.map fun x => x * 3).map V.int)) := (w4 1 r2 rfl).2
    have w3' : H6 D6 = some (.lst [V.ref r1, V.ref r2]) := w3
    repeat walk_at "s"
    refine ⟨r1, r2, _, _, n * 3, rfl, SqL.new a1, SqL.new a2, three_sorted fn.1, three_sorted fm.1, ?_⟩
    rw [cntS_three]
    repeat walk_at "s"
    refine ne_same rfl ?_
    have S6 := (S4.trans s5).trans s6
    -- a row of one number
    repeat walk_at "s"
    intro p8 np8
    generalize hg8 : upd H6 p8 _ = H8
    have s8 : Same H6 H8 := hg8 ▸ same_new np8
    have e8 := (congrFun hg8 p8).symm.trans upd_same
    clear hg8
    repeat walk_at "s"
    refine ⟨p8, t, [b], ms, n, rfl, SqL.new e8, SqL.new (s8 _ _ (S6 _ _ hT)), List.pairwise_singleton _ _, fm.1, ?_⟩
    repeat walk_at "s"
    refine ⟨t, ms, n - b, rfl, SqL.new (s8 _ _ (S6 _ _ hT)), fm.1, ?_⟩
    rw [cntS_one]
    refine eq_same rfl ?_
    exact q H8 (S6.trans s8)

theorem ok_law7 {f : Addr} {fd : FuncData} (B : Bt mg) (F : Fun K "law" "law" slaw f fd) (csums_below : Cal P w K mg base 1 "sums_below" ["one", "other", "number"] (spSums K)) (csums_to : Cal P w K mg base 2 "sums_to" ["one", "other", "number"] (spSumsTo K))
    (claw_hand : Cal P w K mg base 1 "_law_hand" ["cell", "k"] spHand) (claw_draw : Cal P w K mg base 1 "_law_draw" ["hand", "limit"] spDraw) (claw_cells : Cal P w K mg base 1 "_law_cells" ["script", "many"] (spCells K)) (claw_great : Cal P w K mg base 1 "_law_great" ["script"] (spGreat K))
    (claw_row : Cal P w K mg base 2 "_law_row" ["hand", "least", "most"] spRow) (claw_two : Cal P w K mg base 3 "_law_two" ["hand", "great"] spTwo) (claw_asked_numbers : Cal P w K mg base 2 "_law_asked_numbers" ["hand", "one", "other"] spAsked)
    (claw_right : Cal P w K mg base 3 "_law_right" ["one", "other", "third", "number", "by"] (spRight7 K)) : FnOk P w K mg base CX0 4 f fd ["script"] (spLaw K) := by
  have nd := sclaw.nd
  refine F.ok sclaw (fun vs H Q E h => ?_) (fun cdv A outer s H vs Q E hr h => ?_)
  · obtain ⟨a, ns, rfl, _⟩ := h
    rfl
  · obtain ⟨sc, ns, rfl, hS, hlen, q⟩ := h
    have hu := hr.units
    refine ⟨_, (pss_cons (ps_for PassesOwn.never rfl (pi_list (pe_own claw_cells (hr.mono (by decide)) (by rfl) (pa_cons (pv 0) (pa_cons pe_int pa_nil)))) (pg_tup rfl (pgs_cons (pg_name (i := 1) nd rfl (.inl rfl)) (pgs_cons (pg_name (i := 2) nd rfl (.inl rfl)) pgs_nil))) (pss_cons (ps_set (i := 3) nd rfl (.inl rfl) (pe_own claw_hand (hr.mono (by decide)) (by rfl) (pa_cons (pv 2) (pa_cons (pv 1) pa_nil))))
      (Evl.pss_cut (ps_asg (pe_own claw_two (hr.mono (by decide)) (by rfl) (pa_cons (pv 3) (pa_cons (pe_and (pe_cmpR op_eq (pv 1) pe_int (nomark _)) (pe_one (pe_own claw_great (hr.mono (by decide)) (by rfl) (pa_cons (pv 0) pa_nil)))) pa_nil))) (pg_tup rfl (pgs_cons (pg_name (i := 4) nd rfl (.inr rfl)) (pgs_cons (pg_name (i := 5) nd rfl (.inr rfl)) pgs_nil))))
      (pss_cons (ps_set (i := 4) nd rfl (.inr rfl) (pe_callB cr_sortedI (by rfl) B.sorted_ (by decide +kernel) (pa_cons (pe_lc (own := [("number", 6)]) (by rfl) nd (pi_list (pv 4)) (blkOk_by (own := [("number", 6)]) (N := ["script", "k", "cell", "hand", "one", "other", "number", "third", "by", "some", "counts"]) (sc := defScope slaw) (by decide +kernel)) (fun _ _ _ _ _ => (pg_name (i := 6) nd rfl (.inl rfl))) (fun _ _ _ _ _ => pts_nil) (fun _ _ _ _ _ => (pe_op op_fdivW (pv 6) pe_int))) pa_nil)))
      (pss_cons (ps_set (i := 5) nd rfl (.inr rfl) (pe_callB cr_sortedI (by rfl) B.sorted_ (by decide +kernel) (pa_cons (pe_lc (own := [("number", 6)]) (by rfl) nd (pi_list (pv 5)) (blkOk_by (own := [("number", 6)]) (N := ["script", "k", "cell", "hand", "one", "other", "number", "third", "by", "some", "counts"]) (sc := defScope slaw) (by decide +kernel)) (fun _ _ _ _ _ => (pg_name (i := 6) nd rfl (.inl rfl))) (fun _ _ _ _ _ => pts_nil) (fun _ _ _ _ _ => (pe_op op_fdivW (pv 6) pe_int))) pa_nil)))
      (pss_cons (ps_set (i := 7) nd rfl (.inr rfl) (pe_lc (own := [("number", 6)]) (by rfl) nd (pi_list (pe_own claw_row (hr.mono (by decide)) (by rfl) (pa_cons (pv 3) (pa_cons pe_int (pa_cons pe_int pa_nil))))) (blkOk_by (own := [("number", 6)]) (N := ["script", "k", "cell", "hand", "one", "other", "number", "third", "by", "some", "counts"]) (sc := defScope slaw) (by decide +kernel)) (fun _ _ _ _ _ => (pg_name (i := 6) nd rfl (.inl rfl))) (fun _ _ _ _ _ => pts_nil) (fun _ _ _ _ _ => (pe_op op_fdivW (pv 6) pe_int))))
      (pss_cons (ps_set (i := 8) nd rfl (.inr rfl) (pe_op op_sub (pe_own claw_draw (hr.mono (by decide)) (by rfl) (pa_cons (pv 3) (pa_cons (pe_op op_pow pe_int pe_int) pa_nil))) (pe_op op_mulW pe_int (pe_op op_pow pe_int pe_int))))
      (pss_cons (ps_setLc (i := 9) (own := [("number", 6)]) (by rfl) nd rfl rfl (sw_true rfl rfl rfl (by decide +kernel)) (pi_list (pe_own claw_asked_numbers (hr.mono (by decide)) (by rfl) (pa_cons (pv 3) (pa_cons (pv 4) (pa_cons (pv 5) pa_nil))))) (blkOk_by (own := [("number", 6)]) (N := ["script", "k", "cell", "hand", "one", "other", "number", "third", "by", "some", "counts"]) (sc := defScope slaw) (by decide +kernel)) (fun _ _ _ _ _ => (pg_name (i := 6) nd rfl (.inl rfl))) (fun _ _ _ _ _ => pts_nil) (fun _ _ _ _ _ => (pe_op op_fdivW (pv 6) pe_int)))
      (pss_cons (ps_set (i := 9) nd rfl (.inl rfl) (pe_callB cr_sortedI (by rfl) B.sorted_ (by decide +kernel) (pa_cons (pe_op op_cat (pv 9) (pe_slice sl_list (pe_own claw_asked_numbers (hr.mono (by decide)) (by rfl) (pa_cons (pv 3) (pa_cons (pv 4) (pa_cons (pv 5) pa_nil)))) (po_some pe_int) po_none)) pa_nil)))
      (pss_cons (ps_if (pt_cmpR (op_neD hu) (pe_lc (own := [("number", 6)]) (by rfl) nd (pi_list (pv 9)) (blkOk_by (own := [("number", 6)]) (N := ["script", "k", "cell", "hand", "one", "other", "number", "third", "by", "some", "counts"]) (sc := defScope slaw) (by decide +kernel)) (fun _ _ _ _ _ => (pg_name (i := 6) nd rfl (.inl rfl))) (fun _ _ _ _ _ => (pts_one (pt_not (pt_val (pe_own claw_right (hr.mono (by decide)) (by rfl) (pa_cons (pv 4) (pa_cons (pv 5) (pa_cons (pv 7) (pa_cons (pv 6) (pa_cons (pv 8) pa_nil)))))))))) (fun _ _ _ _ _ => (pv 6))) (pe_lst pa_nil) (nomark _)) (pss_one (ps_ret pe_bl)) pss_nil)
      (pss_cons (ps_setLc (i := 10) (own := [("number", 6)]) (by rfl) nd rfl rfl (sw_true rfl rfl rfl (by decide +kernel)) (pi_list (pv 9)) (blkOk_by (own := [("number", 6)]) (N := ["script", "k", "cell", "hand", "one", "other", "number", "third", "by", "some", "counts"]) (sc := defScope slaw) (by decide +kernel)) (fun _ _ _ _ _ => (pg_name (i := 6) nd rfl (.inl rfl))) (fun _ _ _ _ _ => pts_nil) (fun _ _ _ _ _ => (pe_own csums_below (hr.mono (by decide)) (by rfl) (pa_cons (pv 4) (pa_cons (pv 5) (pa_cons (pv 6) pa_nil))))))
      (pss_one (ps_if (PW.pt (pw_or (pt_cmpR (op_neD hu) (pv 10) (pe_callB cr_sortedI (by rfl) B.sorted_ (by decide +kernel) (pa_cons (pv 10) pa_nil)) (nomark _)) (pw_or1 (pt_cmpR op_ne (pe_own csums_to (hr.mono (by decide)) (by rfl) (pa_cons (pv 4) (pa_cons (pv 5) (pa_cons (pe_op op_pow pe_int pe_int) pa_nil)))) (pe_op op_mulW (pe_callB call_len_seq (by rfl) B.len_ (by decide +kernel) (pa_cons (pv 4) pa_nil)) (pe_callB call_len_seq (by rfl) B.len_ (by decide +kernel) (pa_cons (pv 5) pa_nil))) (nomark _))))) (pss_one (ps_ret pe_bl)) pss_nil)))))))))))))
      (pss_one (ps_ret pe_bl))), ?_⟩
    repeat walk_at "s"
    refine ⟨sc, 24, ns, rfl, hS, hlen, by decide, ?_⟩
    intro H1 p1 ts cs s1 np1 e1 l1 lc1 t1
    refine ⟨_, rfl, ⟨_, SqL.new e1⟩, ?_⟩
    refine for_list (K := K) (a := p1) (xs := ts.map V.ref) (fun i σ H' => Same H1 H' ∧ ∃ v1 v2 v3 v4 v5 v6 v7 v8 v9 v10, σ = [some (.ref sc), v1, v2, v3, v4, v5, v6, v7, v8, v9, v10]) ⟨Same.refl _, _, _, _, _, _, _, _, _, _, _, rfl⟩ (fun i σ Hi _ w => w.1.seq (SqL.new e1)) (fun i x σ H2 hx w => ?_) (fun σ H2 w => ?_)
    · obtain ⟨s2, v1, v2, v3, v4, v5, v6, v7, v8, v9, v10, rfl⟩ := w
      obtain ⟨t, ht, rfl⟩ := ref_at hx
      obtain ⟨c, hc⟩ : ∃ c, cs[i]? = some c := ⟨_, List.getElem?_eq_getElem (by have := (List.getElem?_eq_some_iff.mp ht).1; omega)⟩
      have hi : i < 64 := by have := (List.getElem?_eq_some_iff.mp hc).1; omega
      have hT := s2 _ _ (t1 i t c ht hc)
      refine ⟨t, _, rfl, .inl (.inl hT), rfl, _, _, rfl, _, _, rfl, rfl, ?_⟩
      -- hand
      repeat walk_at "s"
      refine ⟨c, i, rfl, by omega, by omega, ?_⟩
      intro a hx hy na hx0 hy0 hy1
      generalize hg : upd H2 a _ = H3
      have s3 : Same H2 H3 := hg ▸ same_new na
      have h3 : HandAt H3 a := ⟨hx, hy, by rw [← hg]; exact upd_same, hx0, hy0, hy1⟩
      clear hg
      -- one, other
      refine ⟨fun σ' H' => ∃ p q ns ms, Ext a H3 H' ∧ RowAt H' a p ns ∧ RowAt H' a q ms ∧ σ' = [some (.ref sc), some (.int i), some (.int c), some (.ref a), some (.ref p), some (.ref q), v6, v7, v8, v9, v10], ?_, ?_⟩
      · repeat walk_at "s"
        refine ⟨rfl, _, rfl, ?_⟩
        refine ite2 (fun z => ?_) (fun z => ?_)
        · repeat walk_at "s"
          refine ⟨sc, ns, rfl, s3.seq (s2.seq (s1.seq hS)), fun b => ?_⟩
          repeat walk_at "s"
          refine ⟨a, b, rfl, h3, ?_⟩
          intro tt p q' ms ms' H4 x4 et nt R4 R4'
          exact ⟨tt, _, rfl, Or.inl (Or.inl et), rfl, _, _, rfl, _, _, rfl, rfl, p, q', ms, ms', x4, R4, R4', rfl⟩
        · repeat walk_at "s"
          refine ⟨a, false, rfl, h3, ?_⟩
          intro tt p q' ms ms' H4 x4 et nt R4 R4'
          exact ⟨tt, _, rfl, Or.inl (Or.inl et), rfl, _, _, rfl, _, _, rfl, rfl, p, q', ms, ms', x4, R4, R4', rfl⟩
      rintro σ' H4 ⟨p, t', ns1, ms1, X4, RP, RT, rfl⟩
      have h4 : HandAt H4 a := X4.hand h3
      have lp := RP.len
      have lt := RT.len
      -- one
      repeat walk_at "s"
      refine ⟨⟨_, RP.sq⟩, ?_⟩
      intro D5 nD5
      refine lc_list (K := K) (a := p) (xs := (ns1).map V.int) (fun j H' => Same H4 H' ∧ H' D5 = some (.lst ((((ns1).take j).map fun x => x / 4).map V.int))) ⟨same_new nD5, upd_same⟩ (fun j Hj _ w => w.1.seq RP.sq) (fun j x Hj hj w => ?_) (fun H5 w => ?_)
      · obtain ⟨w1, w2⟩ := w
        obtain ⟨y, hy, rfl⟩ := int_at hj
        refine ⟨rfl, ?_⟩
        repeat walk_at "s"
        exact map_turn (f := fun x => x / 4) nD5 w1 w2 hy (by omega)
      obtain ⟨sD5, eD5⟩ := w
      rw [List.length_map, take_all] at eD5
      refine ⟨D5, (ns1).map fun x => x / 4, rfl, SqL.new eD5, fun cc p6 pc hc npp6 => ?_⟩
      obtain rfl : ((ns1).map fun x => x / 4) = cc := (sorted_one pc hc (div_fine RP.fine).1).symm
      generalize hgp6 : upd H5 p6 _ = H6
      have sp6 : Same H5 H6 := hgp6 ▸ same_new npp6
      have ep6 := (congrFun hgp6 p6).symm.trans upd_same
      clear hgp6
      have h6 : HandAt H6 a := (h4.same sD5).same sp6
      have S6 := sD5.trans sp6
      have R6 : RowAt H6 a p6 (ns1.map fun x => x / 4) := ⟨ep6, HandAt.ne (h4.same sD5) npp6, div_fine RP.fine, by rw [List.length_map]; omega⟩
      have RT6 := RT.up (.same S6)
      -- other
      repeat walk_at "s"
      refine ⟨⟨_, RT6.sq⟩, ?_⟩
      intro D7 nD7
      refine lc_list (K := K) (a := t') (xs := (ms1).map V.int) (fun j H' => Same H6 H' ∧ H' D7 = some (.lst ((((ms1).take j).map fun x => x / 4).map V.int))) ⟨same_new nD7, upd_same⟩ (fun j Hj _ w => w.1.seq RT6.sq) (fun j x Hj hj w => ?_) (fun H7 w => ?_)
      · obtain ⟨w1, w2⟩ := w
        obtain ⟨y, hy, rfl⟩ := int_at hj
        refine ⟨rfl, ?_⟩
        repeat walk_at "s"
        exact map_turn (f := fun x => x / 4) nD7 w1 w2 hy (by omega)
      obtain ⟨sD7, eD7⟩ := w
      rw [List.length_map, take_all] at eD7
      refine ⟨D7, (ms1).map fun x => x / 4, rfl, SqL.new eD7, fun cc p8 pc hc npp8 => ?_⟩
      obtain rfl : ((ms1).map fun x => x / 4) = cc := (sorted_one pc hc (div_fine RT.fine).1).symm
      generalize hgp8 : upd H7 p8 _ = H8
      have sp8 : Same H7 H8 := hgp8 ▸ same_new npp8
      have ep8 := (congrFun hgp8 p8).symm.trans upd_same
      clear hgp8
      have h8 : HandAt H8 a := (h6.same sD7).same sp8
      have S8 := sD7.trans sp8
      have R8 := R6.up (.same S8)
      have T8 : RowAt H8 a p8 (ms1.map fun x => x / 4) := ⟨ep8, HandAt.ne (h6.same sD7) npp8, div_fine RT.fine, by rw [List.length_map]; omega⟩
      have X8 : Ext a H2 H8 := ((Ext.same s3).trans X4).trans (.same (S6.trans S8))
      clear sD5 sp6 sD7 sp8 S6 S8 X4 RP RT RT6 R6 eD5 ep6 eD7 ep8
      generalize hns : (ns1.map fun x => x / 4) = ns at R8 ⊢
      generalize hms : (ms1.map fun x => x / 4) = ms at T8 ⊢
      -- third
      repeat walk_at "s"
      refine ⟨a, 0, 12, rfl, h8, Nat.zero_le _, by decide, ?_⟩
      intro p9 ns9 H9 x9 np9 e9 _ l9 f9
      refine ⟨_, rfl, ⟨_, SqL.new e9⟩, ?_⟩
      intro D10 nD10
      refine lc_list (K := K) (a := p9) (xs := (ns9).map V.int) (fun j H' => Same H9 H' ∧ H' D10 = some (.lst ((((ns9).take j).map fun x => x / 4).map V.int))) ⟨same_new nD10, upd_same⟩ (fun j Hj _ w => w.1.seq (SqL.new e9)) (fun j x Hj hj w => ?_) (fun H10 w => ?_)
      · obtain ⟨w1, w2⟩ := w
        obtain ⟨y, hy, rfl⟩ := int_at hj
        refine ⟨rfl, ?_⟩
        repeat walk_at "s"
        exact map_turn (f := fun x => x / 4) nD10 w1 w2 hy (by omega)
      obtain ⟨sD10, eD10⟩ := w
      rw [List.length_map, take_all] at eD10
      have h10 : HandAt H10 a := (x9.hand h8).same sD10
      have T10 : RowAt H10 a D10 (ns9.map fun x => x / 4) := ⟨eD10, HandAt.ne (x9.hand h8) nD10, div_fine f9, by rw [List.length_map]; omega⟩
      have X10 : Ext a H8 H10 := x9.trans (.same sD10)
      have A10 := R8.up X10
      have B10 := T8.up X10
      clear x9 sD10 e9 eD10
      -- by
      repeat walk_at "s"
      refine ⟨a, _, rfl, (by walk_at "hand"), (by walk_at "pos"), (by walk_at "pos"), ?_⟩
      intro r11 H11 ra11 rb11 h11 k11
      have x11 : Ext a H10 H11 := drawn h11 k11
      clear k11
      have b11 : r11 < 100000000000000 := by
        have z : (10 ^ Int.toNat 14 : Int) = 100000000000000 := by decide +kernel
        rw [← z]
        exact rb11
      repeat walk_at "s"
      -- some
      refine ⟨a, p6, p8, ns, ms, rfl, h11, A10.up x11, B10.up x11, ?_⟩
      intro p12 zs H12 x12 np12 e12 l12 m12
      refine ⟨_, rfl, ⟨_, SqL.new e12⟩, ?_⟩
      intro D13 nD13
      refine lc_list (K := K) (a := p12) (xs := (zs).map V.int) (fun j H' => Same H12 H' ∧ H' D13 = some (.lst ((((zs).take j).map fun x => x / 4).map V.int))) ⟨same_new nD13, upd_same⟩ (fun j Hj _ w => w.1.seq (SqL.new e12)) (fun j x Hj hj w => ?_) (fun H13 w => ?_)
      · obtain ⟨w1, w2⟩ := w
        obtain ⟨y, hy, rfl⟩ := int_at hj
        refine ⟨rfl, ?_⟩
        repeat walk_at "s"
        exact map_turn (f := fun x => x / 4) nD13 w1 w2 hy (by omega)
      obtain ⟨sD13, eD13⟩ := w
      rw [List.length_map, take_all] at eD13
      have h13 : HandAt H13 a := (x12.hand h11).same sD13
      have nD13a : D13 ≠ a := HandAt.ne (x12.hand h11) nD13
      have X13 : Ext a H10 H13 := (x11.trans x12).trans (.same sD13)
      have A13 := A10.up X13
      have B13 := B10.up X13
      have C13 := T10.up X13
      clear x11 x12 sD13 e12
      -- sorted(some + ..)
      repeat walk_at "s"
      refine ⟨a, p6, p8, ns, ms, rfl, h13, A13, B13, ?_⟩
      intro p14 zs2 H14 x14 np14 e14 l14 m14
      repeat walk_at "s"
      refine ⟨_, _, rfl, SqL.new e14, ?_⟩
      intro p15 np15
      generalize hg15 : upd H14 p15 _ = H15
      have s15 : Same H14 H15 := hg15 ▸ same_new np15
      have e15 := (congrFun hg15 p15).symm.trans upd_same
      clear hg15
      obtain ⟨u1, g1, g2, g3⟩ := cut_map (ns := zs2) (some 5) none
      rw [g1] at e15
      refine ⟨_, _, _, _, rfl, rfl, s15 _ _ (x14.keep _ _ eD13 nD13a), e15, small (by rw [List.length_map, List.length_map, List.length_map]; omega), ?_⟩
      intro p16 np16
      generalize hg16 : upd H15 p16 _ = H16
      have s16 : Same H15 H16 := hg16 ▸ same_new np16
      have e16 := (congrFun hg16 p16).symm.trans upd_same
      clear hg16
      rw [← List.map_append] at e16
      refine ⟨p16, (zs.map fun x => x / 4) ++ u1, rfl, SqL.new e16, fun ss p17 ps hs np17 => ?_⟩
      generalize hg17 : upd H16 p17 _ = H17
      have s17 : Same H16 H17 := hg17 ▸ same_new np17
      have e17 := (congrFun hg17 p17).symm.trans upd_same
      clear hg17
      have ls : ss.length ≤ 1000 := by rw [ps.length_eq, List.length_append, List.length_map]; omega
      have ms17 : Mid ss := fun z hz => by
        rcases List.mem_append.mp (ps.mem_iff.mp hz) with h | h
        · exact mid_div m12 z h
        · exact m14 z (g3 z h)
      have X17 : Ext a H13 H17 := x14.trans (.same ((s15.trans s16).trans s17))
      have A17 := A13.up X17
      have B17 := B13.up X17
      have C17 := C13.up X17
      clear x14 s15 s16 s17 e14 e15 e16 eD13
      -- all right
      repeat walk_at "s"
      refine ⟨⟨_, SqL.new e17⟩, ?_⟩
      intro D2 nD2
      refine lc_list (K := K) (a := p17) (xs := ss.map V.int) (fun j H' => Same H17 H' ∧ H' D2 = some (.lst (([] : List Int).map V.int))) ⟨same_new nD2, upd_same⟩ (fun j Hj _ w => w.1.seq (SqL.new e17)) (fun j x Hj hj w => ?_) (fun H18 w => ?_)
      · obtain ⟨w1, w2⟩ := w
        obtain ⟨y, hy, rfl⟩ := int_at hj
        have my := ms17 y (List.mem_of_getElem? hy)
        refine ⟨rfl, ?_⟩
        repeat walk_at "s"
        refine ⟨p6, p8, D10, ns, ms, _, y, _, rfl, w1 _ _ A17.at_, w1 _ _ B17.at_, w1 _ _ C17.at_, A17.fine, B17.fine, C17.fine, A17.len, B17.len, C17.len, by omega, by omega, fun H' sH => ?_⟩
        repeat walk_at "s"
        exact ⟨w1.trans sH, sH _ _ w2⟩
      obtain ⟨s18, w2⟩ := w
      repeat walk_at "s"
      intro p19 np19
      generalize hg19 : upd H18 p19 _ = H19
      have s19 : Same H18 H19 := hg19 ▸ same_new np19
      have e19 := (congrFun hg19 p19).symm.trans upd_same
      clear hg19
      refine ⟨di [], di [], dp_ints (ns := []) (SqL.new (s19 _ _ w2)), dp_ints (ns := []) (SqL.new e19), shaped_ints _, shaped_ints _, ?_⟩
      rw [eqv_ints, decide_eq_true rfl]
      have S19 : Same H17 H19 := s18.trans s19
      clear s18 s19 w2 e19
      -- counts
      repeat walk_at "s"
      refine ⟨⟨_, SqL.new (S19 _ _ e17)⟩, ?_⟩
      intro D3 nD3
      refine lc_list (K := K) (a := p17) (xs := ss.map V.int) (fun j H' => Same H19 H' ∧ H' D3 = some (.lst (((ss.take j).map fun z => ((cntS ns ms z : Nat) : Int)).map V.int))) ⟨same_new nD3, upd_same⟩ (fun j Hj _ w => w.1.seq (SqL.new (S19 _ _ e17))) (fun j x Hj hj w => ?_) (fun H20 w => ?_)
      · obtain ⟨w1, w2⟩ := w
        obtain ⟨y, hy, rfl⟩ := int_at hj
        refine ⟨rfl, ?_⟩
        repeat walk_at "s"
        refine ⟨p6, p8, ns, ms, y, rfl, w1.seq (S19.seq A17.sq), w1.seq (S19.seq B17.sq), A17.fine.1, B17.fine.1, ?_⟩
        exact map_turn (f := fun z => ((cntS ns ms z : Nat) : Int)) nD3 w1 w2 hy (by omega)
      obtain ⟨s20, w2⟩ := w
      rw [List.length_map, take_all] at w2
      repeat walk_at "s"
      refine ⟨D3, ss.map fun z => ((cntS ns ms z : Nat) : Int), rfl, SqL.new w2, fun cc p21 pc hc np21 => ?_⟩
      obtain rfl : (ss.map fun z => ((cntS ns ms z : Nat) : Int)) = cc := (sorted_one pc hc (map_cntS_sorted hs)).symm
      generalize hg21 : upd H20 p21 _ = H21
      have s21 : Same H20 H21 := hg21 ▸ same_new np21
      have e21 := (congrFun hg21 p21).symm.trans upd_same
      clear hg21
      refine ⟨_, _, dp_ints (SqL.new (s21 _ _ w2)), dp_ints (SqL.new e21), shaped_ints _, shaped_ints _, ?_⟩
      rw [eqv_ints, decide_eq_true rfl]
      have S21 := S19.trans (s20.trans s21)
      -- all together
      repeat walk_at "s"
      refine ⟨p6, p8, ns, ms, _, rfl, S21.seq A17.sq, S21.seq B17.sq, A17.fine.1, B17.fine.1, ?_⟩
      repeat walk_at "s"
      refine ⟨_, _, rfl, .inl (S21.seq A17.sq), ?_⟩
      rw [List.length_map]
      repeat walk_at "s"
      refine ⟨_, _, rfl, .inl (S21.seq B17.sq), ?_⟩
      rw [List.length_map]
      have lA := A17.len
      have lB := B17.len
      repeat walk_at "s"
      have all : ((ns.length : Nat) : Int) * ((ms.length : Nat) : Int) = ((cntS ns ms (10 ^ Int.toNat 40 + 1) : Nat) : Int) := by
        rw [cntS_all, Int.natCast_mul]
        intro x hx y hy
        have hxx := A17.fine.2 x hx
        have hyy := B17.fine.2 y hy
        have z : (10 ^ Int.toNat 40 + 1 : Int) = 10000000000000000000000000000000000000001 := by decide +kernel
        rw [z]
        omega
      show rNe (V.int _) (V.int (((ns.length : Nat) : Int) * ((ms.length : Nat) : Int))) _ _
      rw [all]
      refine ne_same rfl ?_
      repeat walk_at "s"
      have XX : Ext a H2 H21 := (((X8.trans X10).trans X13).trans X17).trans (.same S21)
      exact ⟨s2.trans (XX.made na), _, _, _, _, _, _, _, _, _, _, rfl⟩
    · obtain ⟨s2, v1, v2, v3, v4, v5, v6, v7, v8, v9, v10, rfl⟩ := w
      exact q H2

end
theorem all_mk {l : PySem.W.OpenLaw} {w : World} {K : PySem.W.Frag} {h : Heap} {mg : Str → Option Value} {fa f0 f1 f2 f3 f4 f5 f6 f7 f8 f9 f10 f11 f12 f13 : Addr} (X : K.In h) (G : h.Ns mainGlobals mg) (hfa : mg "law" = some (.ref fa))
    {od0 an0 od1 an1 od2 an2 od3 an3 od4 an4 od5 an5 od6 an6 od7 an7 od8 an8 od9 an9 od10 an10 od11 an11 od12 an12 od13 an13 : Option Addr} {sl0 sl1 sl2 sl3 sl4 sl5 sl6 sl7 sl8 sl9 sl10 sl11 sl12 sl13 : Array (Option Value)} {oc0 kV0 dc0 pm0 cd0 ct0 oc1 kV1 dc1 pm1 cd1 ct1 oc2 kV2 dc2 pm2 cd2 ct2 oc3 kV3 dc3 pm3 cd3 ct3 oc4 kV4 dc4 pm4 cd4 ct4 oc5 kV5 dc5 pm5 cd5 ct5 oc6 kV6 dc6 pm6 cd6 ct6 oc7 kV7 dc7 pm7 cd7 ct7 oc8 kV8 dc8 pm8 cd8 ct8 oc9 kV9 dc9 pm9 cd9 ct9 oc10 kV10 dc10 pm10 cd10 ct10 oc11 kV11 dc11 pm11 cd11 ct11 oc12 kV12 dc12 pm12 cd12 ct12 oc13 kV13 dc13 pm13 cd13 ct13 : Value}
    (a0 : PySem.W.nsIn K mainGlobals "_law_hand" = some (some (.ref f0))) (l0 : K.lookup f0 = some ⟨oc0, od0, .func (PySem.W.fnOf "_law_hand" "_law_hand" (defArgs slaw_hand) (defBody slaw_hand) (defScope slaw_hand) .none kV0 dc0 pm0 an0 cd0 ct0), sl0⟩) (c0 : PySem.W.codeIn K cd0 "_law_hand" = true) (k0 : PySem.W.keepIn K (.ref f0) = true)
    (a1 : PySem.W.nsIn K mainGlobals "_law_draw" = some (some (.ref f1))) (l1 : K.lookup f1 = some ⟨oc1, od1, .func (PySem.W.fnOf "_law_draw" "_law_draw" (defArgs slaw_draw) (defBody slaw_draw) (defScope slaw_draw) .none kV1 dc1 pm1 an1 cd1 ct1), sl1⟩) (c1 : PySem.W.codeIn K cd1 "_law_draw" = true) (k1 : PySem.W.keepIn K (.ref f1) = true)
    (a2 : PySem.W.nsIn K mainGlobals "_law_cells" = some (some (.ref f2))) (l2 : K.lookup f2 = some ⟨oc2, od2, .func (PySem.W.fnOf "_law_cells" "_law_cells" (defArgs slaw_cells) (defBody slaw_cells) (defScope slaw_cells) .none kV2 dc2 pm2 an2 cd2 ct2), sl2⟩) (c2 : PySem.W.codeIn K cd2 "_law_cells" = true) (k2 : PySem.W.keepIn K (.ref f2) = true)
    (a3 : PySem.W.nsIn K mainGlobals "_law_great" = some (some (.ref f3))) (l3 : K.lookup f3 = some ⟨oc3, od3, .func (PySem.W.fnOf "_law_great" "_law_great" (defArgs slaw_great) (defBody slaw_great) (defScope slaw_great) .none kV3 dc3 pm3 an3 cd3 ct3), sl3⟩) (c3 : PySem.W.codeIn K cd3 "_law_great" = true) (k3 : PySem.W.keepIn K (.ref f3) = true)
    (a4 : PySem.W.nsIn K mainGlobals "_law_row" = some (some (.ref f4))) (l4 : K.lookup f4 = some ⟨oc4, od4, .func (PySem.W.fnOf "_law_row" "_law_row" (defArgs slaw_row) (defBody slaw_row) (defScope slaw_row) .none kV4 dc4 pm4 an4 cd4 ct4), sl4⟩) (c4 : PySem.W.codeIn K cd4 "_law_row" = true) (k4 : PySem.W.keepIn K (.ref f4) = true)
    (a5 : PySem.W.nsIn K mainGlobals "_law_two" = some (some (.ref f5))) (l5 : K.lookup f5 = some ⟨oc5, od5, .func (PySem.W.fnOf "_law_two" "_law_two" (defArgs slaw_two) (defBody slaw_two) (defScope slaw_two) .none kV5 dc5 pm5 an5 cd5 ct5), sl5⟩) (c5 : PySem.W.codeIn K cd5 "_law_two" = true) (k5 : PySem.W.keepIn K (.ref f5) = true)
    (a6 : PySem.W.nsIn K mainGlobals "many_below" = some (some (.ref f6))) (l6 : K.lookup f6 = some ⟨oc6, od6, .func (PySem.W.fnOf "many_below" "many_below" (defArgs smany_below) (defBody smany_below) (defScope smany_below) .none kV6 dc6 pm6 an6 cd6 ct6), sl6⟩) (c6 : PySem.W.codeIn K cd6 "many_below" = true) (k6 : PySem.W.keepIn K (.ref f6) = true)
    (a7 : PySem.W.nsIn K mainGlobals "sums_below" = some (some (.ref f7))) (l7 : K.lookup f7 = some ⟨oc7, od7, .func (PySem.W.fnOf "sums_below" "sums_below" (defArgs ssums_below) (defBody ssums_below) (defScope ssums_below) .none kV7 dc7 pm7 an7 cd7 ct7), sl7⟩) (c7 : PySem.W.codeIn K cd7 "sums_below" = true) (k7 : PySem.W.keepIn K (.ref f7) = true)
    (a8 : PySem.W.nsIn K mainGlobals "sums_to" = some (some (.ref f8))) (l8 : K.lookup f8 = some ⟨oc8, od8, .func (PySem.W.fnOf "sums_to" "sums_to" (defArgs ssums_to) (defBody ssums_to) (defScope ssums_to) .none kV8 dc8 pm8 an8 cd8 ct8), sl8⟩) (c8 : PySem.W.codeIn K cd8 "sums_to" = true) (k8 : PySem.W.keepIn K (.ref f8) = true)
    (a9 : PySem.W.nsIn K mainGlobals "joined" = some (some (.ref f9))) (l9 : K.lookup f9 = some ⟨oc9, od9, .func (PySem.W.fnOf "joined" "joined" (defArgs sjoined) (defBody sjoined) (defScope sjoined) .none kV9 dc9 pm9 an9 cd9 ct9), sl9⟩) (c9 : PySem.W.codeIn K cd9 "joined" = true) (k9 : PySem.W.keepIn K (.ref f9) = true)
    (a10 : PySem.W.nsIn K mainGlobals "_law_turned" = some (some (.ref f10))) (l10 : K.lookup f10 = some ⟨oc10, od10, .func (PySem.W.fnOf "_law_turned" "_law_turned" (defArgs slaw_turned) (defBody slaw_turned) (defScope slaw_turned) .none kV10 dc10 pm10 an10 cd10 ct10), sl10⟩) (c10 : PySem.W.codeIn K cd10 "_law_turned" = true) (k10 : PySem.W.keepIn K (.ref f10) = true)
    (a11 : PySem.W.nsIn K mainGlobals "_law_asked_numbers" = some (some (.ref f11))) (l11 : K.lookup f11 = some ⟨oc11, od11, .func (PySem.W.fnOf "_law_asked_numbers" "_law_asked_numbers" (defArgs slaw_asked_numbers) (defBody slaw_asked_numbers) (defScope slaw_asked_numbers) .none kV11 dc11 pm11 an11 cd11 ct11), sl11⟩) (c11 : PySem.W.codeIn K cd11 "_law_asked_numbers" = true) (k11 : PySem.W.keepIn K (.ref f11) = true)
    (a12 : PySem.W.nsIn K mainGlobals "_law_right" = some (some (.ref f12))) (l12 : K.lookup f12 = some ⟨oc12, od12, .func (PySem.W.fnOf "_law_right" "_law_right" (defArgs slaw_right) (defBody slaw_right) (defScope slaw_right) .none kV12 dc12 pm12 an12 cd12 ct12), sl12⟩) (c12 : PySem.W.codeIn K cd12 "_law_right" = true) (k12 : PySem.W.keepIn K (.ref f12) = true)
    (a13 : PySem.W.nsIn K mainGlobals "law" = some (some (.ref f13))) (l13 : K.lookup f13 = some ⟨oc13, od13, .func (PySem.W.fnOf "law" "law" (defArgs slaw) (defBody slaw) (defScope slaw) .none kV13 dc13 pm13 an13 cd13 ct13), sl13⟩) (c13 : PySem.W.codeIn K cd13 "law" = true) (k13 : PySem.W.keepIn K (.ref f13) = true)
    (zlen : PySem.W.nsIn K mainGlobals "len" = some none)
    (zlist : PySem.W.nsIn K mainGlobals "list" = some none)
    (zenumerate : PySem.W.nsIn K mainGlobals "enumerate" = some none)
    (zint : PySem.W.nsIn K mainGlobals "int" = some none)
    (zbool : PySem.W.nsIn K mainGlobals "bool" = some none)
    (zsum : PySem.W.nsIn K mainGlobals "sum" = some none)
    (zsorted : PySem.W.nsIn K mainGlobals "sorted" = some none)
    (zmin : PySem.W.nsIn K mainGlobals "min" = some none)
    (zmax : PySem.W.nsIn K mainGlobals "max" = some none)
    (zrange : PySem.W.nsIn K mainGlobals "range" = some none)
    (zisinstance : PySem.W.nsIn K mainGlobals "isinstance" = some none)
    (zrepr : PySem.W.nsIn K mainGlobals "repr" = some none)
    : ∃ fd : FuncData, (∀ (s : Shared) (v : Value), BindsTo s fd ⟨[v], []⟩ [("script", v)]) ∧ ∀ base : Heap, K.In base → base.Ns mainGlobals mg → FnOk l.prog w K mg base CX0 4 fa fd ["script"] (spLaw K) := by
  have e := hfa.symm.trans (PySem.W.mg_of X G a13)
  cases e
  have B : Bt mg := ⟨PySem.W.mg_none_of X G zlen, PySem.W.mg_none_of X G zlist, PySem.W.mg_none_of X G zenumerate, PySem.W.mg_none_of X G zint, PySem.W.mg_none_of X G zbool, PySem.W.mg_none_of X G zsum, PySem.W.mg_none_of X G zsorted, PySem.W.mg_none_of X G zmin, PySem.W.mg_none_of X G zmax, PySem.W.mg_none_of X G zrange, PySem.W.mg_none_of X G zisinstance, PySem.W.mg_none_of X G zrepr⟩
  have F0 := fun_mk (st := slaw_hand) l0 c0 k0
  have b0 := F0.binds (ps := ["cell", "k"]) fun _ _ _ _ _ _ us hl => match us, hl with | [_, _], _ => rfl
  have F1 := fun_mk (st := slaw_draw) l1 c1 k1
  have b1 := F1.binds (ps := ["hand", "limit"]) fun _ _ _ _ _ _ us hl => match us, hl with | [_, _], _ => rfl
  have F2 := fun_mk (st := slaw_cells) l2 c2 k2
  have b2 := F2.binds (ps := ["script", "many"]) fun _ _ _ _ _ _ us hl => match us, hl with | [_, _], _ => rfl
  have F3 := fun_mk (st := slaw_great) l3 c3 k3
  have b3 := F3.binds (ps := ["script"]) fun _ _ _ _ _ _ us hl => match us, hl with | [_], _ => rfl
  have F4 := fun_mk (st := slaw_row) l4 c4 k4
  have b4 := F4.binds (ps := ["hand", "least", "most"]) fun _ _ _ _ _ _ us hl => match us, hl with | [_, _, _], _ => rfl
  have F5 := fun_mk (st := slaw_two) l5 c5 k5
  have b5 := F5.binds (ps := ["hand", "great"]) fun _ _ _ _ _ _ us hl => match us, hl with | [_, _], _ => rfl
  have F6 := fun_mk (st := smany_below) l6 c6 k6
  have b6 := F6.binds (ps := ["row", "number"]) fun _ _ _ _ _ _ us hl => match us, hl with | [_, _], _ => rfl
  have F7 := fun_mk (st := ssums_below) l7 c7 k7
  have b7 := F7.binds (ps := ["one", "other", "number"]) fun _ _ _ _ _ _ us hl => match us, hl with | [_, _, _], _ => rfl
  have F8 := fun_mk (st := ssums_to) l8 c8 k8
  have b8 := F8.binds (ps := ["one", "other", "number"]) fun _ _ _ _ _ _ us hl => match us, hl with | [_, _, _], _ => rfl
  have F9 := fun_mk (st := sjoined) l9 c9 k9
  have b9 := F9.binds (ps := ["one", "other"]) fun _ _ _ _ _ _ us hl => match us, hl with | [_, _], _ => rfl
  have F10 := fun_mk (st := slaw_turned) l10 c10 k10
  have b10 := F10.binds (ps := ["row"]) fun _ _ _ _ _ _ us hl => match us, hl with | [_], _ => rfl
  have F11 := fun_mk (st := slaw_asked_numbers) l11 c11 k11
  have b11 := F11.binds (ps := ["hand", "one", "other"]) fun _ _ _ _ _ _ us hl => match us, hl with | [_, _, _], _ => rfl
  have F12 := fun_mk (st := slaw_right) l12 c12 k12
  have b12 := F12.binds (ps := ["one", "other", "third", "number", "by"]) fun _ _ _ _ _ _ us hl => match us, hl with | [_, _, _, _, _], _ => rfl
  have F13 := fun_mk (st := slaw) l13 c13 k13
  have b13 := F13.binds (ps := ["script"]) fun _ _ _ _ _ _ us hl => match us, hl with | [_], _ => rfl
  refine ⟨PySem.W.fnOf "law" "law" (defArgs slaw) (defBody slaw) (defScope slaw) .none kV13 dc13 pm13 an13 cd13 ct13, fun s v => .of_eq rfl, fun base _ _ => ?_⟩
  have g0 : Cal l.prog w K mg base 1 "_law_hand" ["cell", "k"] spHand := ⟨_, _, ok_hand F0, PySem.W.mg_of X G a0, k0, b0⟩
  have g1 : Cal l.prog w K mg base 1 "_law_draw" ["hand", "limit"] spDraw := ⟨_, _, ok_draw F1, PySem.W.mg_of X G a1, k1, b1⟩
  have g2 : Cal l.prog w K mg base 1 "_law_cells" ["script", "many"] (spCells K) := ⟨_, _, ok_cells B F2, PySem.W.mg_of X G a2, k2, b2⟩
  have g3 : Cal l.prog w K mg base 1 "_law_great" ["script"] (spGreat K) := ⟨_, _, ok_great B F3, PySem.W.mg_of X G a3, k3, b3⟩
  have g4 : Cal l.prog w K mg base 2 "_law_row" ["hand", "least", "most"] spRow := ⟨_, _, ok_row B F4 g1, PySem.W.mg_of X G a4, k4, b4⟩
  have g5 : Cal l.prog w K mg base 3 "_law_two" ["hand", "great"] spTwo := ⟨_, _, ok_two B F5 g1 g4, PySem.W.mg_of X G a5, k5, b5⟩
  have g6 : Cal l.prog w K mg base 1 "many_below" ["row", "number"] (spBelow K) := ⟨_, _, ok_many_below B F6, PySem.W.mg_of X G a6, k6, b6⟩
  have g7 : Cal l.prog w K mg base 1 "sums_below" ["one", "other", "number"] (spSums K) := ⟨_, _, ok_sums_below B F7, PySem.W.mg_of X G a7, k7, b7⟩
  have g8 : Cal l.prog w K mg base 2 "sums_to" ["one", "other", "number"] (spSumsTo K) := ⟨_, _, ok_sums_to F8 g7, PySem.W.mg_of X G a8, k8, b8⟩
  have g9 : Cal l.prog w K mg base 1 "joined" ["one", "other"] spJoined := ⟨_, _, ok_joined B F9, PySem.W.mg_of X G a9, k9, b9⟩
  have g10 : Cal l.prog w K mg base 1 "_law_turned" ["row"] (spTurned K) := ⟨_, _, ok_turned F10, PySem.W.mg_of X G a10, k10, b10⟩
  have g11 : Cal l.prog w K mg base 2 "_law_asked_numbers" ["hand", "one", "other"] spAsked := ⟨_, _, ok_asked B F11 g1, PySem.W.mg_of X G a11, k11, b11⟩
  have g12 : Cal l.prog w K mg base 3 "_law_right" ["one", "other", "third", "number", "by"] (spRight7 K) := ⟨_, _, ok_right7 B F12 g7 g8 g6 g9 g10, PySem.W.mg_of X G a12, k12, b12⟩
  exact ok_law7 B F13 g7 g8 g0 g1 g2 g3 g4 g5 g11 g12
end Sp
open PySem PySem.W PyProof.Rows
set_option maxRecDepth 100000 in
set_option maxHeartbeats 0 in
theorem PySem.Challenge.cw_sumplace_k07_whole_sums_counted_otherwis_holds : PySem.Challenge.rw_sumplace_k07_whole_sums_counted_otherwis.Holds := by
  w_on; o_law; k_head; (case hw => w_witness2)
  k_fill
  refine L2.walk_of (l := PySem.Challenge.rw_sumplace_k07_whole_sums_counted_otherwis) (n := 63) (k := 4) (x := "script") (CX := fun _ => L2.CX0) (sp := fun w => Sp.spLaw _) rfl (by decide) rfl ⟨rfl, by decide, by decide⟩ (fun w h Y => PySem.W.kIn_of Y) ?F (fun _ _ a ns hl _ hS => ⟨a, ns, rfl, hS, hl, fun _ => rfl⟩) (fun _ _ _ _ _ h => h)
  case F =>
    intro w mg fa h KX G hmg
    refine' Sp.all_mk KX G hmg ?a0 ?l0 ?c0 ?k0 ?a1 ?l1 ?c1 ?k1 ?a2 ?l2 ?c2 ?k2 ?a3 ?l3 ?c3 ?k3 ?a4 ?l4 ?c4 ?k4 ?a5 ?l5 ?c5 ?k5 ?a6 ?l6 ?c6 ?k6 ?a7 ?l7 ?c7 ?k7 ?a8 ?l8 ?c8 ?k8 ?a9 ?l9 ?c9 ?k9 ?a10 ?l10 ?c10 ?k10 ?a11 ?l11 ?c11 ?k11 ?a12 ?l12 ?c12 ?k12 ?a13 ?l13 ?c13 ?k13 ?zlen ?zlist ?zenumerate ?zint ?zbool ?zsum ?zsorted ?zmin ?zmax ?zrange ?zisinstance ?zrepr
    (case a0 => k_is)
    (case l0 => k_is)
    (case c0 => k_is)
    (case k0 => k_is)
    (case a1 => k_is)
    (case l1 => k_is)
    (case c1 => k_is)
    (case k1 => k_is)
    (case a2 => k_is)
    (case l2 => k_is)
    (case c2 => k_is)
    (case k2 => k_is)
    (case a3 => k_is)
    (case l3 => k_is)
    (case c3 => k_is)
    (case k3 => k_is)
    (case a4 => k_is)
    (case l4 => k_is)
    (case c4 => k_is)
    (case k4 => k_is)
    (case a5 => k_is)
    (case l5 => k_is)
    (case c5 => k_is)
    (case k5 => k_is)
    (case a6 => k_is)
    (case l6 => k_is)
    (case c6 => k_is)
    (case k6 => k_is)
    (case a7 => k_is)
    (case l7 => k_is)
    (case c7 => k_is)
    (case k7 => k_is)
    (case a8 => k_is)
    (case l8 => k_is)
    (case c8 => k_is)
    (case k8 => k_is)
    (case a9 => k_is)
    (case l9 => k_is)
    (case c9 => k_is)
    (case k9 => k_is)
    (case a10 => k_is)
    (case l10 => k_is)
    (case c10 => k_is)
    (case k10 => k_is)
    (case a11 => k_is)
    (case l11 => k_is)
    (case c11 => k_is)
    (case k11 => k_is)
    (case a12 => k_is)
    (case l12 => k_is)
    (case c12 => k_is)
    (case k12 => k_is)
    (case a13 => k_is)
    (case l13 => k_is)
    (case c13 => k_is)
    (case k13 => k_is)
    (case zlen => k_is)
    (case zlist => k_is)
    (case zenumerate => k_is)
    (case zint => k_is)
    (case zbool => k_is)
    (case zsum => k_is)
    (case zsorted => k_is)
    (case zmin => k_is)
    (case zmax => k_is)
    (case zrange => k_is)
    (case zisinstance => k_is)
    (case zrepr => k_is)
