import PyProof.Rows.All
import Wide.All
import OpenK.AllK
import Wide.FinOn
import Lean
import PyProof.EqAt
import PyProof.EqKinds
import PyProof.TupleCall
import PyProof.DictWalks
import PyProof.ExcAttrAll.ValueError
import PyProof.ExcBaseAll.ValueError
import PyProof.ZipIter
import PyProof.SumWalk
import PyProof.Rows.SortShellK
import PyProof.Rows.SortStr
import PyProof.DictKinds
import PyProof.Rows.CallKwBuiltin
import PySem.Challenge.RW_ownshelf_k21_added_and_dropped
set_option Elab.async false
set_option linter.all false
set_option maxRecDepth 100000
set_option maxHeartbeats 8000000
set_option compiler.extract_closed false
set_option compiler.reuse false
set_option bootstrap.genMatcherCode false
abbrev zFr:=PySem.W.Frag
abbrev zLA:=List (PySem.Str×PySem.Addr)
abbrev zAO:=List (PySem.Addr×PySem.Obj)
abbrev zVP:=PySem.Value->PySem.Shared->Prop
abbrev zMg:=PySem.Str->Option PySem.Value
abbrev z42:=@List.length_append
abbrev z43:=@PySem.wpAny_bind
abbrev z44:=@Nat.le_refl
abbrev z45:=@Nat.lt_of_lt_of_le
abbrev z46:=@List.mem_cons_of_mem
abbrev z47:=@List.pairwise_append
abbrev z48:=@PySem.Heap.get?_push_of_some
abbrev z49:=@List.getElem?_eq_getElem
abbrev z5a:=@PyProof.Rows.wpS_bind
abbrev z5b:=@List.getElem?_eq_some_iff
abbrev z5c:=@List.mem_append_right
abbrev z5d:=@List.mem_cons_self
abbrev z5e:=@Bool.false_eq_true
abbrev z5f:=@List.size_toArray
abbrev z5g:=@List.mem_singleton
abbrev z5h:=@Nat.le_add_right
abbrev z5i:=@List.append_assoc
abbrev z5j:=@List.map_cons
abbrev z5k:=@PyProof.Rows.wpS_pure
abbrev z5l:=@PySem.Heap.lt_size
abbrev z5m:=@List.length_take
abbrev z5n:=@PySem.wpAny_pure
abbrev z5o:=@decide_eq_false
abbrev z5p:=@List.mem_cons
abbrev z5q:=@Nat.ne_of_lt
abbrev z5r:=@Nat.le_of_ble_eq_true
abbrev z5s:=@if_pos
abbrev z5t:=@List.getElem?_append_right
abbrev z5u:=@Nat.le_trans
abbrev z5v:=@List.getElem_of_mem
abbrev z5w:=@List.length_drop
abbrev z5x:=@List.mem_append
abbrev z5y:=@if_neg
abbrev z5z:=@decide_eq_true
abbrev z50:=@List.append_nil
abbrev z51:=@List.mem_of_getElem?
abbrev z52:=@List.forall_mem_cons
abbrev z53:=@PySem.Heap.get?_push_size
abbrev z54:=@Nat.zero_le
abbrev z55:=@List.getElem?_append_left
abbrev z56:=@Array.getElem?_eq_getElem
abbrev z57:=@List.mem_of_mem_take
abbrev z58:=@Option.some.inj
abbrev z59:=@Array.toList_append
abbrev z6a:=@List.take_append_drop
abbrev z6b:=@List.getElem?_set_self
abbrev z6c:=@Array.size_push
abbrev z6d:=@List.all_eq_true
abbrev z6e:=@Array.getElem?_toList
abbrev z6f:=@Int.emod_lt_of_pos
abbrev z6g:=@PySem.W.mg_none_of
abbrev z6h:=@List.mem_map_of_mem
abbrev z6i:=@if_false
abbrev z6j:=@List.take_of_length_le
abbrev z6k:=@List.mem_append_left
abbrev z6l:=@Bool.and_eq_true
abbrev z6m:=@Bool.false_ne_true
abbrev z6n:=@List.cons_lt_cons_iff
abbrev z6o:=@List.length_reverse
abbrev z6p:=@PySem.W.kia_one
abbrev z6q:=@decide_eq_decide
abbrev z6r:=@PySem.wpAny_truthy_bool
abbrev z6s:=@List.getElem?_map
abbrev z6t:=@List.pairwise_iff_getElem
abbrev z6u:=@List.getElem?_set_ne
abbrev z6v:=@PyProof.Rows.wpS_forRange
abbrev z6w:=@PySem.wpAny_Call_Name_kw
abbrev z6x:=@Nat.lt_of_le_of_lt
abbrev z6y:=@Nat.le_of_lt
abbrev z6z:=@Int.emod_nonneg
abbrev z60:=@PySem.sizeLine_eq
abbrev z61:=@if_true
abbrev z62:=@List.not_lt
abbrev z63:=@List.pairwise_cons
abbrev z64:=@List.drop_of_length_le
abbrev z65:=@PyProof.Rows.wpS_mono
abbrev z66:=@List.drop_append_of_le_length
abbrev z67:=@List.take_append_of_le_length
abbrev z68:=@Nat.lt_or_ge
abbrev z69:=@Nat.lt_irrefl
abbrev z7a:=@congrArg
abbrev z7b:=@List.mem_of_mem_drop
abbrev z7c:=@PySem.wpAny_mono
abbrev z7d:=@PySem.mem_of_lookup
abbrev z7e:=@of_decide_eq_true
abbrev z7f:=@List.getElem_take
abbrev z7g:=@List.getElem_drop
abbrev z7h:=@PySem.Heap.get?_update_ne
abbrev z7i:=@List.drop_eq_getElem_cons
abbrev z7j:=@List.length_map
abbrev z7k:=@List.cons.injEq
abbrev z7l:=@PySem.W.callWith_K
abbrev z7m:=@Option.isSome_iff_exists
abbrev z7n:=@List.mem_reverse
abbrev z7o:=@Array.toList_extract
abbrev z7p:=@List.reverse_reverse
abbrev z7q:=@Ne.symm
abbrev z7r:=@Bool.not_true
abbrev z7s:=@List.pairwise_singleton
abbrev z7t:=@Nat.add_sub_cancel_left
abbrev z7u:=@PyProof.Rows.callWith_type1
abbrev z7v:=@List.nodup_cons
abbrev z7w:=@List.of_mem_zip
abbrev z7x:=@Nat.add_lt_add_left
abbrev z7y:=@Nat.min_eq_left
abbrev z7z:=@List.length_pos_iff
abbrev z70:=@List.Perm.append_right
abbrev z71:=@beq_iff_eq
abbrev z72:=@List.mem_map
abbrev z73:=@List.Perm.append_left
abbrev z74:=@Nat.add_assoc
abbrev z75:=@List.eraseIdx_append_of_length_le
abbrev z76:=@PySem.W.hideAll_none
abbrev z77:=@PySem.Heap.get?_none_of_le
abbrev z78:=@List.getElem?_take_of_lt
abbrev z79:=@PyProof.Rows.slot_tuple_getitem
abbrev z8a:=@List.length_set
abbrev z8b:=@Nat.le_antisymm
abbrev z8c:=@Nat.not_lt_zero
abbrev z8d:=@PySem.W.hideAll_get
abbrev z8e:=@decide_eq_false_iff_not
abbrev z8f:=@PySem.wpAny_execs_cons
abbrev z8g:=@List.getElem_mem
abbrev z8h:=@PySem.Heap.size_update
abbrev z8i:=@Nat.not_lt
abbrev z8j:=@PyProof.Rows.wpS_modify
abbrev z8k:=@List.Perm.refl
abbrev z8l:=@List.filter_eq_nil_iff
abbrev z8m:=@Nat.add_sub_cancel
abbrev z8n:=@List.forIn_cons
abbrev z8o:=@List.map_map
abbrev z8p:=@List.perm_append_comm
abbrev z8q:=@List.Pairwise.sublist
abbrev z8r:=@Nat.add_lt_of_lt_sub'
abbrev z8s:=@PySem.wpAny_newObj_type
abbrev z8t:=@List.reverse_cons
abbrev z8u:=@PySem.W.mg_of
abbrev z8v:=@Bool.eq_false_iff
abbrev z8w:=@Nat.lt_succ_of_lt
abbrev z8x:=@Array.toList_push
abbrev z8y:=@Array.toList_reverse
abbrev z8z:=@List.drop_zero
abbrev z80:=@List.lt_irrefl
abbrev z81:=@beq_eq_false_iff_ne
abbrev z82:=@List.reverse_append
abbrev z83:=@Nat.add_sub_cancel'
abbrev z84:=@List.flatten_append
abbrev z85:=@List.filter_eq_self
abbrev z86:=@PySem.codeAny_mono
abbrev z87:=@PySem.F.args_tuple_add_2
abbrev z88:=@Nat.sub_self
abbrev z89:=@Array.findIdx?_eq_some_iff_getElem
abbrev z9a:=@List.mem_filter
abbrev z9b:=@PySem.wpAny_passesOwn
abbrev z9c:=@PySem.F.entry_tuple_add
abbrev z9d:=@List.getElem?_drop
abbrev z9e:=@List.filter_cons_of_neg
abbrev z9f:=@PySem.F.slot_tuple_add
abbrev z9g:=@PySem.Heap.get?_update_other
abbrev z9h:=@List.flatten_singleton
abbrev z9i:=@Nat.le_succ
abbrev z9j:=@List.take_sublist
abbrev z9k:=@List.nodup_append
abbrev z9l:=@List.pairwise_map
abbrev z9m:=@Nat.le_of_lt_succ
abbrev z9n:=@Array.size_append
abbrev z9o:=@List.drop_drop
abbrev z9p:=@PySem.Heap.get?_update_self
abbrev z9q:=@Nat.zero_add
abbrev z9r:=@Nat.succ.inj
abbrev z9s:=@Nat.lt_succ_self
abbrev z9t:=@Nat.max_eq_right
abbrev z9u:=@List.le_antisymm
abbrev z9v:=@PySem.wpAny_attempt
abbrev z9w:=@Bool.and_true
abbrev z9x:=@PySem.wpAny_call
abbrev z9y:=@PySem.wpAny_execs_nil
abbrev z9z:=@PySem.W.plainGet_of
abbrev z90:=@PySem.F.attrBase_ValueError
abbrev z91:=@PyProof.Rows.wpS_get
abbrev z92:=@Nat.add_le_add_left
abbrev z93:=@Bool.eq_iff_iff
abbrev z94:=@PySem.PassesOwn.never
abbrev z95:=@Array.toList_setIfInBounds
abbrev z96:=@List.length_eraseIdx_of_lt
abbrev z97:=@PySem.W.of_hideAll
abbrev z98:=@PySem.Calls.spliced_cons
abbrev z99:=@List.getElem?_take
abbrev qaa:=@PyProof.Rows.listItems_at
abbrev qab:=@decide_eq_true_iff
abbrev qac:=@List.filter_append
abbrev qad:=@Bool.false_and
abbrev qae:=@PySem.wpAny_loadPart
abbrev qaf:=@PySem.Heap.size_push
abbrev qag:=@List.drop_left
abbrev qah:=@Nat.add_le_add
abbrev qai:=@PySem.W.kitx_list
abbrev qaj:=@Array.size_setIfInBounds
abbrev qak:=@Nat.sub_pos_of_lt
abbrev qal:=@PyProof.Rows.size_push'
abbrev qam:=@List.cons.inj
abbrev qan:=@List.getElem_inj
abbrev qao:=@Nat.succ_le_succ
abbrev qap:=@PySem.concat_meets
abbrev qaq:=@Nat.min_le_left
abbrev qar:=@Int.ofNat_lt
abbrev qas:=@Int.add_zero
abbrev qat:=@Bool.not_false
abbrev qau:=@List.take_left
abbrev qav:=@List.take_take
abbrev qaw:=@Nat.sub_le
noncomputable section
namespace L2
open PySem PySem.Spec PyProof.Rows
abbrev Key:=Sum Int Str
def zzi:Key->Value->Bool
 | .inl k,v=>Value.isInt k v
 | .inr x,v=>Value.isStrOf x v
def z4m(w:World):Key->Int
 | .inl k=>hashInt k
 | .inr x=>hashStr w x
theorem jm:∀{k:Key}{v:Value},zzi k v=true->(∃i t,k=Sum.inl i/\v=Value.int i t)\/(∃x t,k=Sum.inr x/\v=Value.str x t)
 | .inl i,v,h=>by obtain⟨t,e⟩:=Value.isInt_shape (k:=i) (v:=v) h;exact .inl ⟨i,t,rfl,e⟩
 | .inr x,v,h=>by obtain⟨t,e⟩:=Value.isStrOf_shape (x:=x) (v:=v) h;exact .inr ⟨x,t,rfl,e⟩
theorem zzg(a b:Int):decide ((Sum.inl a:Key)=Sum.inl b)=(a==b):=by
 by_cases e:a=b
 · subst e;simp
 · have h:¬ (Sum.inl a:Key)=Sum.inl b:=fun q=>e (Sum.inl.inj q);rw[z5o h];exact(z81.mpr e).symm
theorem zzc(a b:Str):decide ((Sum.inr a:Key)=Sum.inr b)=decide (a=b):=by
 by_cases e:a=b
 · subst e;simp
 · have h:¬ (Sum.inr a:Key)=Sum.inr b:=fun q=>e (Sum.inr.inj q);rw[z5o h,z5o e]
theorem zzf(a:Int)(b:Str):decide ((Sum.inl a:Key)=Sum.inr b)=false:=z5o (fun q=>nomatch q)
theorem zzd(a:Str)(b:Int):decide ((Sum.inr a:Key)=Sum.inl b)=false:=z5o (fun q=>nomatch q)
def zoc(prog:Program)(w:World):PySem.KeyKind prog w Key where
 is:=zzi
 hash:=z4m w
 inj:=fun v a b ha hb=>by
   rcases jm ha with⟨i,t,rfl,rfl⟩ | ⟨x,t,rfl,rfl⟩
   · rcases jm hb with⟨j,u,rfl,e⟩ | ⟨y,u,rfl,e⟩
     · injection e with e1 _;rw[e1]
     · exact nomatch e
   · rcases jm hb with⟨j,u,rfl,e⟩ | ⟨y,u,rfl,e⟩
     · exact nomatch e
     · injection e with e1 _;rw[e1]
 byValue:=fun k v h=>by rcases jm h with⟨i,t,rfl,rfl⟩ | ⟨x,t,rfl,rfl⟩<;>rfl
 pyHash:=fun hv h=>by
   rcases jm hv with⟨i,t,rfl,rfl⟩ | ⟨x,t,rfl,rfl⟩
   · exact wpAny_pyHash_int h
   · exact wpAny_pyHash_str h
 eqBool:=fun hu hv h=>by
   rcases jm hu with⟨i,t,rfl,rfl⟩ | ⟨x,t,rfl,rfl⟩
   · rcases jm hv with⟨j,u,rfl,rfl⟩ | ⟨y,u,rfl,rfl⟩
     · rw[zzg]at h;exact wpAny_eqBool_int h
     · rw[zzf]at h;exact SeqAt.EqAt.int_str i t y u _ _ _ _ h
   · rcases jm hv with⟨j,u,rfl,rfl⟩ | ⟨y,u,rfl,rfl⟩
     · rw[zzd]at h;exact SeqAt.EqAt.str_int x t j u _ _ _ _ h
     · rw[zzc]at h;exact wpAny_eqBool_str h
 «strs»:=fun k x t v h=>by
   rcases jm h with⟨i,u,rfl,e⟩ | ⟨y,u,rfl,e⟩
   · exact nomatch e
   · injection e with e1 _;subst e1;cases v<;>rfl
inductive V where
 |non | bl (b:Bool) | int (i:Int) | str (x:Str) | byt (b:Array UInt8) | flt (b:UInt64) | ref (a:Addr) | ty (n:String)
 deriving DecidableEq
def RelV:V->Value->Prop
 | .non,u=>u=Value.none
 | .bl b,u=>u=Value.bool b
 | .int i,u=>∃t,u=Value.int i t
 | .str x,u=>∃t,u=Value.str x t
 | .byt b,u=>∃t,u=Value.bytes b t
 | .flt b,u=>∃t,u=Value.float b t
 | .ref a,u=>u=Value.ref a
 | .ty n,u=>u=Value.type n
abbrev Vals:List V->List Value->Prop:=Paired RelV
theorem Vals.length{xs:List V}{us:List Value}(r:Vals xs us):xs.length=us.length:=Paired.length r
theorem Vals.get:∀{xs:List V}{us:List Value}{i:Nat}{x:V},Vals xs us->xs[i]? = some x->∃u,us[i]? = some u/\RelV x u
 |_,_,_,_,.nil,e=>by simp at e
 |_,_,0,_,.cons r _,e=>by simp at e;subst e;exact⟨_,rfl,r⟩
 | _,_,i+1,x,.cons _ t,e=>by obtain⟨u,h1,h2⟩:=Vals.get (i:=i) (x:=x) t (by simpa using e);exact⟨u,by simpa using h1,h2⟩
theorem Vals.append:∀{xs ys:List V}{us ws:List Value},Vals xs us->Vals ys ws->Vals (xs++ys) (us++ws)
 |_,_,_,_,.nil,s=>s
 |_,_,_,_,.cons r t,s=>.cons r (Vals.append t s)
theorem Vals.take:∀{xs:List V}{us:List Value} (n:Nat),Vals xs us->Vals (xs.take n) (us.take n)
 |_,_,0,_=>.nil
 |_,_,_+1,.nil=>.nil
 |_,_,n+1,.cons r t=>.cons r (Vals.take n t)
theorem Vals.drop:∀{xs:List V}{us:List Value} (n:Nat),Vals xs us->Vals (xs.drop n) (us.drop n)
 |_,_,0,r=>r
 |_,_,_+1,.nil=>.nil
 |_,_,n+1,.cons _ t=>Vals.drop n t
def RelO:Option V->Option Value->Prop
 |some v,some u=>RelV v u
 |none,none=>True
 |_,_=>False
def KV{κ:Type}:List (κ×V)->List (κ×Value)->Prop:=Paired fun(p:κ×V) (q:κ×Value)=>p.1=q.1/\RelV p.2 q.2
def kV:Key->V
 | .inl i=>.int i
 | .inr x=>.str x
inductive HO where
   |lst (xs:List V)
   |tup (xs:List V)
   |dK (kvs:List (Key×V)) | dT (kvs:List (List Key×V))
   |set (S:Int->Bool) (n:Nat)
   |ins (C dx:Addr) (fs:List (Str×V))
   |own (x:Addr)
   |xd (fs:List (Str×V))
   |met (f x:Addr)
   |rng (lo hi:Int)
   |frz (o:Obj) (u:HO)
   |tbl (ps:Array Value)
   |ext (φ:Heap->Prop)
abbrev Hp:=Addr->Option HO
def upd(H:Hp)(a:Addr)(o:HO):Hp:=fun b=>if b=a then some o else H b
theorem qo{H:Hp}{a:Addr}{o:HO}:upd H a o a=some o:=by unfold upd;rw[z5s rfl]
theorem qd{H:Hp}{a b:Addr}{o:HO}(h:b≠a):upd H a o b=H b:=by unfold upd;rw[z5y h]
theorem qy{H:Hp}{a b:Addr}{o:HO}(h:H a=some o)(h':H b=none):a≠b:=by intro e;subst e;rw[h]at h';cases h'
section
variable (P:Program) (w:World)
def ObjOk(H:Hp)(h:Heap)(a:Addr):HO->Prop
 | .lst xs=>xs.length<=sizeLine/\∃(its:List Value) (n:Nat),Vals xs its/\h.get? a=some { cls:=.type "list",data:=.seq its.toArray n }
 | .tup xs=>xs.length<=sizeLine/\∃its:List Value,Vals xs its/\IsTup h a its.toArray
 | .dK kvs=>kvs.length<=sizeLine/\(a==sysModules)=false/\∃vs,KV kvs vs/\h.DictOf (zoc P w) a vs
 | .dT kvs=>kvs.length<=sizeLine/\(a==sysModules)=false/\∃xs:List (List Key×Addr×Value),
     Paired (fun(p:List Key×V) (q:List Key×Addr×Value)=>p.1=q.1/\H q.2.1=some (.tup (p.1.map kV))/\RelV p.2 q.2.2) kvs xs /\
     ∃o es ep,h.get? a=some o/\o.ExactDict/\o.data=.dict es ep/\es.toList=xs.map (entryOfKey (tupleKind (zoc P w)))/\(xs.map (·.1)).Nodup
 | .set S n=>h.SetOf (intKind P w) a S n
 | .ins C dx fs=>H dx=some (.own a)/\fs.length<=1000/\dx≠a/\h.get? a=some (PySem.W.instObj C dx) /\
     ∃mA,h.Ns1 dx mA/\(∀f,RelO (fs.lookup f) (mA f))/\PySem.Within mA (fs.map (·.1))
 | .own _=>∃o,h.get? a=some o
 | .xd fs=>∃mA,h.Ns1 a mA/\∀f,RelO (fs.lookup f) (mA f)
 | .rng lo hi=>∃t u v,h.get? a=some { cls:=.type "range",data:=.fields #[.int lo t,.int hi u,.int 1 v] }
 | .frz o u=>h.get? a=some o/\ObjOk H h a u
 | .tbl ps=>h.get? a=some { cls:=.none,data:=.fields ps }
 | .met f x=>h.get? a=some (PySem.W.methodObj (.ref f) (.ref x))
 | .ext φ=>φ h/\(∃o,h.get? a=some o)/\∀h1 h2:Heap,φ h1->(∀o,h1.get? a=some o->h2.get? a=some o)->φ h2
def HOk(H:Hp)(h:Heap):Prop:=∀a o,H a=some o->ObjOk P w H h a o
end
section
variable {P:Program}{w:World}{H H':Hp}{h h':Heap}{a:Addr}{o:HO}
theorem ObjOk.lt(x:ObjOk P w H h a o):a<h.objs.size:=by
 cases o with
 |lst xs=>obtain⟨_,_,_,_,e⟩:=x;exact z5l e
 |tup xs=>obtain⟨_,_,_,p⟩:=x;exact p.lt
 |dK kvs=>obtain⟨_,_,_,_,o,_,_,e,_⟩:=x;exact z5l e
 |dT kvs=>obtain⟨_,_,_,_,o,_,_,e,_⟩:=x;exact z5l e
 |set S n=>obtain⟨o,_,_,_,e,_⟩:=x;exact z5l e
 |ins C dx fs=>obtain⟨_,_,_,e,_⟩:=x;exact z5l e
 |own y=>obtain⟨_,e⟩:=x;exact z5l e
 |xd fs=>obtain⟨_,⟨_,_,_,e,_⟩,_⟩:=x;exact z5l e
 |rng lo hi=>obtain⟨_,_,_,e⟩:=x;exact z5l e
 |frz ob u=>obtain⟨e,_⟩:=x;exact z5l e
 |tbl ps=>exact z5l (show h.get? a=some _ from x)
 |met f y=>exact z5l (show h.get? a=some _ from x)
 |ext φ=>obtain⟨_,⟨_,e⟩,_⟩:=x;exact z5l e
theorem Paired.mapP{α β:Type}{F G:α->β->Prop}:∀{l₁:List α}{l₂:List β},Paired F l₁ l₂->(∀a b,F a b->G a b)->Paired G l₁ l₂
 |_,_,.nil,_=>.nil
 |_,_,.cons r t,f=>.cons (f _ _ r) (Paired.mapP t f)
theorem ObjOk.stay(x:ObjOk P w H h a o)(k:∀b u,(b=a\/H b=some (.own a))->h.get? b=some u->h'.get? b=some u)
   (ho:∀b,H b=some (.own a)->H' b=some (.own a)) (ht:∀b xs,H b=some (.tup xs)->H' b=some (.tup xs)):ObjOk P w H' h' a o:=by
 induction o with
 |lst xs=>obtain⟨z,its,n,r,e⟩:=x;exact⟨z,its,n,r,k _ _ (.inl rfl) e⟩
 |tup xs=>obtain⟨z,its,r,ob,e,c⟩:=x;exact⟨z,its,r,ob,k _ _ (.inl rfl) e,c⟩
 |dK kvs=>obtain⟨z,y,vs,r,ob,es,ep,e,c⟩:=x;exact⟨z,y,vs,r,ob,es,ep,k _ _ (.inl rfl) e,c⟩
 | dT kvs=>
   obtain⟨z,y,xs,r,ob,es,ep,e,c⟩:=x;exact⟨z,y,xs,Paired.mapP r fun p q z=>⟨z.1,ht _ _ z.2.1,z.2.2⟩,ob,es,ep,k _ _ (.inl rfl) e,c⟩
 |set S n=>obtain⟨ob,es,ep,t,e,c⟩:=x;exact⟨ob,es,ep,t,k _ _ (.inl rfl) e,c⟩
 | ins C dx fs=>
   obtain⟨d,z,ne,e,mA,⟨od,es,ep,e2,c⟩,r⟩:=x;exact⟨ho _ d,z,ne,k _ _ (.inl rfl) e,mA,⟨od,es,ep,k _ _ (.inr d) e2,c⟩,r⟩
 |own y=>obtain⟨ob,e⟩:=x;exact⟨ob,k _ _ (.inl rfl) e⟩
 |xd fs=>obtain⟨mA,⟨od,es,ep,e,c⟩,r⟩:=x;exact⟨mA,⟨od,es,ep,k _ _ (.inl rfl) e,c⟩,r⟩
 |rng lo hi=>obtain⟨t,u,v,e⟩:=x;exact⟨t,u,v,k _ _ (.inl rfl) e⟩
 |frz ob u ih=>obtain⟨e,q⟩:=x;exact⟨k _ _ (.inl rfl) e,ih q⟩
 | tbl ps=>
   have e:h.get? a=some { cls:=.none,data:=.fields ps }:=x;show h'.get? a=some { cls:=.none,data:=.fields ps };exact k a _ (.inl rfl) e
 | met f y=>
   have e:h.get? a=some (PySem.W.methodObj (.ref f) (.ref y)):=x;show h'.get? a=some (PySem.W.methodObj (.ref f) (.ref y));exact k a _ (.inl rfl) e
 |ext φ=>obtain⟨p,⟨o,e⟩,st⟩:=x;exact⟨st _ _ p fun o q=>k _ _ (.inl rfl) q,⟨o,k _ _ (.inl rfl) e⟩,st⟩
theorem HOk.lt(x:HOk P w H h)(e:H a=some o):a<h.objs.size:=(x a o e).lt
theorem HOk.fresh(x:HOk P w H h)(e:h.objs.size<=a):H a=none:=by
 cases q:H a with
 |none=>rfl
 |some u=>exact absurd (z45 (x.lt q) e) (z69 _)
theorem HOk.kept(x:HOk P w H h)(k:∀b u,h.get? b=some u->h'.get? b=some u):HOk P w H h':=fun a o e=>
 (x a o e).stay (fun b u _ q=>k b u q) (fun _ q=>q) fun _ _ q=>q
theorem HOk.laid(x:HOk P w H h)(k:∀b u,h.get? b=some u->h'.get? b=some u)(hp:h.objs.size<=a)(new:ObjOk P w (upd H a o) h' a o):HOk P w (upd H a o) h':=fun b u e=>by
 have hn:=x.fresh hp;by_cases hb:b=a
 · subst hb;rw[qo]at e;cases e;exact new
 · rw[qd hb]at e;exact(x b u e).stay (fun c v _ q=>k c v q) (fun c q=>by rw[qd (qy q hn)];exact q) fun c xs q=>by rw[qd (qy q hn)];exact q
end
def Rd(H:Hp)(a:Addr)(u:HO):Prop:=H a=some u\/∃o,H a=some (.frz o u)
theorem Rd.ok{P:Program}{w:World}{H:Hp}{h:Heap}{a:Addr}{u:HO}(r:Rd H a u)(x:HOk P w H h):ObjOk P w H h a u:=by
 rcases r with r | ⟨o,r⟩
 · exact x a u r
 · obtain⟨_,q⟩:=x a _ r;exact q
def Mut:Option HO->Prop
 |some (.lst _)=>True
 |some (.dK _)=>True
 |some (.dT _)=>True
 |some (.set _ _)=>True
 |some (.ins _ _ _)=>True
 |some (.ext _)=>True
 |_=>False
section
variable {P:Program}{w:World}{H:Hp}{h h':Heap}{x e:Addr}{o':HO}
theorem HOk.write(ok:HOk P w H h)(mu:Mut (H x))(he:e=x\/H e=some (.own x))(k:∀b u,b≠e->h.get? b=some u->h'.get? b=some u)(heo:∃u,h'.get? e=some u)
   (new:ObjOk P w (upd H x o') h' x o'):HOk P w (upd H x o') h':=fun b u q=>by
 have nown:∀c y,H c=some (.own y)->c≠x:=fun c y r z=>by subst z;rw[r]at mu;exact mu
 have ntup:∀c xs,H c=some (.tup xs)->c≠x:=fun c xs r z=>by subst z;rw[r]at mu;exact mu
 by_cases hb:b=x
 · subst hb;rw[qo]at q;cases q;exact new
 · rw[qd hb]at q;by_cases hbe:b=e
   · have q':H b=some (.own x):=by
       rcases he with z | z
       · exact absurd (hbe.trans z) hb
       · rw[hbe];exact z
     rw[q]at q';cases q';obtain⟨v,hv⟩:=heo;exact⟨v,by rw[hbe];exact hv⟩
   · refine(ok b u q).stay (fun c v hc r=>k c v ?_ r) (fun c r=>by rw[qd (nown c b r)];exact r) fun c xs r=>by rw[qd (ntup c xs r)];exact r
     rcases hc with rfl | hc
     · exact hbe
     · rintro rfl;rcases he with z | z
       · exact nown c b hc z
       · rw[hc]at z;cases z;exact hb rfl
end
structure Un (fs ex:List Addr) (H H':Hp) (h h':Heap):Prop where
 keep:∀b o,h.get? b=some o->H b=none->b∉fs->b∉ex->h'.get? b=some o
 slot:∀b o,h.get? b=some o->H b=none->b∈fs->b∉ex->∃sl,h'.get? b=some { o with slots:=sl }
 free:∀b o,h.get? b=some o->H b=none->b∉ex->H' b=none
 there:∀b o,h.get? b=some o->b∉ex->∃o',h'.get? b=some o'
 tups:∀b xs,H b=some (.tup xs)->H' b=some (.tup xs)
 frzs:∀b o u,H b=some (.frz o u)->H' b=some (.frz o u)
 tbls:∀b ps,H b=some (.tbl ps)->∃more,H' b=some (.tbl (ps++more))
section
variable {fs fs' ex ex':List Addr}{H H1 H2:Hp}{h h1 h2 h':Heap}{a x e:Addr}{o:HO}
theorem Un.any(u:Un fs ex H H1 h h1){b:Addr}{ob:Obj}(q:h.get? b=some ob)(n:H b=none)(hx:b∉ex):∃sl,h1.get? b=some { ob with slots:=sl }:=by
 by_cases hb:b∈fs
 · exact u.slot b ob q n hb hx
 · exact⟨ob.slots,u.keep b ob q n hb hx⟩
theorem Un.kept(k:∀b u,h.get? b=some u->h'.get? b=some u):Un fs ex H H h h' :=
 ⟨fun b ob q _ _ _=>k b ob q,fun b ob q _ _ _=>⟨ob.slots,k b ob q⟩,fun _ _ _ n _=>n,fun b ob q _=>⟨ob,k b ob q⟩,fun _ _ q=>q,fun _ _ _ q=>q,fun _ ps q=>⟨#[],by rw[q];simp⟩⟩
theorem Un.refl:Un fs ex H H h h:=Un.kept fun _ _ q=>q
theorem Un.laid(k:∀b u,h.get? b=some u->h'.get? b=some u)(hp:h.objs.size<=a)(hn:H a=none):Un fs ex H (upd H a o) h h' where
 keep:=fun b u q _ _ _=>k b u q
 slot:=fun b u q _ _ _=>⟨u.slots,k b u q⟩
 free:=fun b u q n _=>by rw[qd (z5q (z45 (z5l q) hp))];exact n
 there:=fun b u q _=>⟨u,k b u q⟩
 tups:=fun b xs q=>by rw[qd (qy q hn)];exact q
 frzs:=fun b u xs q=>by rw[qd (qy q hn)];exact q
 tbls:=fun b ps q=>⟨#[],by rw[qd (qy q hn),q];simp⟩
theorem Un.write(mu:Mut (H x))(he:e=x\/H e=some (.own x))(k:∀b u,b≠e->h.get? b=some u->h'.get? b=some u)(heo:∃u,h'.get? e=some u):Un fs ex H (upd H x o) h h':=by
 have hx:∀b,H b=none->b≠x:=fun b n z=>by subst z;rw[n]at mu;exact mu
 have hb:∀b,H b=none->b≠e:=fun b n z=>by
   subst z;rcases he with r | r
   · exact hx b n r
   · rw[n]at r;cases r
 have hm:∀b u,H b=some u->¬ Mut (some u)->b≠x:=fun b u q nm z=>by subst z;rw[q]at mu;exact nm mu
 refine⟨fun b u q n _ _=>k b u (hb b n) q,fun b u q n _ _=>⟨u.slots,k b u (hb b n) q⟩,fun b u q n _=>by rw[qd (hx b n)];exact n,fun b u q _=>?_,
   fun b xs q=>by rw[qd (hm b _ q fun z=>z)];exact q,fun b u xs q=>by rw[qd (hm b _ q fun z=>z)];exact q,fun b ps q=>⟨#[],by rw[qd (hm b _ q fun z=>z),q];simp⟩⟩
 by_cases hbe:b=e
 · subst hbe;exact heo
 · exact⟨u,k b u hbe q⟩
end
def trk(h:Heap)(H:Hp):List Addr:=(List.range h.objs.size).filter fun a=>(H a).isSome
def zrf(h:Heap)(H:Hp):Heap:=PySem.W.hideAll h (trk h H)
theorem zos(h:Heap)(H:Hp):(zrf h H).objs.size=h.objs.size:=PySem.W.hideAll_size _ _
theorem zgd{h:Heap}{H:Hp}{b:Addr}{o:Obj}(e:h.get? b=some o)(n:H b=none):(zrf h H).get? b=some o :=
 z8d _ e fun hm=>by have q:(H b).isSome=true:=(z9a.mp hm).2;rw[n]at q;simp at q
theorem zvf{h:Heap}{H:Hp}{b:Addr}{o:Obj}(e:(zrf h H).get? b=some o):h.get? b=some o/\H b=none:=by
 have e':h.get? b=some o:=z97 (trk h H) e;refine⟨e',?_⟩;cases q:H b with
 |none=>rfl
 | some x=>
   have hm:b∈trk h H:=z9a.mpr ⟨List.mem_range.mpr (z5l e'),by simp[q]⟩;have z:(zrf h H).get? b=none:=z76 (trk h H) hm;rw[z]at e;cases e
def zwn(g h:Heap)(L:Addr):zAO:=(List.range h.objs.size).filterMap fun a=>if a=L\/(g.get? a).isSome=true then none else (h.get? a).map fun o=>(a,o)
def rest(g h:Heap)(L d:Addr):zAO:=(zwn g h L).filter fun p=>decide (p.1≠d)
structure Mod (K:zFr) (mg:zMg) (base:Heap):Prop where
 kin:K.In base
 glob:base.Ns mainGlobals mg
 blt:∃mb,base.Ns builtinsNs mb/\∀x:Str,x≠"__name__"->mb x=bootBuiltins x
 nolimit:base.NoLimit
structure Cx where
 prog:Program
 w:World
 K:zFr
 mg:zMg
 base:Heap
 A:Around
 N:List Str
 s₀:Shared
 H₀:Hp
 env:Env
 outer:List Env
 stack:List Env
 ex:List Addr
 fn:Str->Bool
 calm:Bool
 pn:zAO
 xe:zVP
def frs(l:List Env):List Addr:=l.filterMap (·.frame)
abbrev Cx.fs(X:Cx):List Addr:=frs X.outer
def Vis(sc:Scope)(x:Str):Prop:=sc.names.lookup x=some .local\/sc.names.lookup x=some .cell\/sc.names.lookup x=some .free
def Loc(sc:Scope)(x:Str):Prop:=sc.names.lookup x=some .local\/sc.names.lookup x=some .cell
def z4y(env:Env)(h:Heap)(m:zMg)(x:Str)(u:Value):Prop :=
 (env.kindOf x=some .local/\m x=some u)\/((env.kindOf x=some .cell\/env.kindOf x=some .free)/\∃c,env.cells.lookup x=some c/\h.IsCell c (some u))
structure Cx.Ok (X:Cx):Prop where
 mod:Mod X.K X.mg X.base
 kind:X.env.scope.kind=.function
 glob:X.env.globals=mainGlobals
 blt:X.env.builtins=builtinsNs
 above:X.s₀.heap.objs.size<=X.env.locals
 inj:∀x y c,X.env.cells.lookup x=some c->X.env.cells.lookup y=some c->x=y
 has:∀x,(X.env.kindOf x=some .cell\/X.env.kindOf x=some .free)->∃c,X.env.cells.lookup x=some c
 cab:∀x c,X.fn x=true->X.env.cells.lookup x=some c->X.s₀.heap.objs.size<=c
 hd:X.calm=true->X.A.handled=none
 frames:X.A.frames=some X.stack
 stk:X.stack=X.outer\/(X.stack=X.env::X.outer/\X.env.frame=some X.env.locals)
 exf:∀b∈X.ex,b≠X.env.locals/\∀x c,X.env.cells.lookup x=some c->c≠b
 bs:∀b o,X.base.get? b=some o->X.s₀.heap.get? b=some o/\X.H₀ b=none
 bsz:X.base.objs.size<=X.s₀.heap.objs.size
 noex:∀b o,X.base.get? b=some o->b∉X.ex
 exfs:∀b∈X.ex,b∉X.fs
 funs:X.s₀.heap.FunFrames X.base X.outer
 frf:∀b∈X.fs,X.H₀ b=none
structure Inv (X:Cx) (pins:zAO) (σ:List (Option V)) (H:Hp) (s:Shared):Prop where
 ok:X.Ok
 os:s.os=X.s₀.os
 bare:AllBare s.gens
 base:Un X.fs X.ex X.H₀ H X.s₀.heap s.heap
 loc:∃m,s.heap.Ns X.env.locals m/\∀(i:Nat) (x:Str) (v:V),X.N[i]? = some x->σ[i]? = some (some v)->Vis X.env.scope x->∃u,RelV v u/\z4y X.env s.heap m x u
 cell:∀x c,X.env.cells.lookup x=some c->∃v,s.heap.IsCell c v
 free:H X.env.locals=none
 freeC:∀x c,X.env.cells.lookup x=some c->H c=none
 pin:∀p∈X.pn++pins,s.heap.get? p.1=some p.2/\H p.1=none/\p.1≠X.env.locals/\p.1∉X.fs/\∀v,p.2.data≠.cell v
 hok:HOk X.prog X.w H s.heap
 len:σ.length=X.N.length
section
variable {X:Cx}{pins:zAO}{σ:List (Option V)}{H H':Hp}{s:Shared}{h':Heap}
theorem Cx.Ok.nofr(ok:X.Ok){b:Addr}{o:Obj}(e:X.base.get? b=some o):b∉X.fs:=fun hb=>by have:=(ok.funs.mem hb).1;rw[e]at this;cases this
theorem Inv.bs(I:Inv X pins σ H s):∀b o,X.base.get? b=some o->s.heap.get? b=some o/\H b=none:=fun b o e=>
 ⟨I.base.keep b o (I.ok.bs b o e).1 (I.ok.bs b o e).2 (I.ok.nofr e) (I.ok.noex b o e),I.base.free b o (I.ok.bs b o e).1 (I.ok.bs b o e).2 (I.ok.noex b o e)⟩
theorem Inv.bk(I:Inv X pins σ H s):∀b o,X.base.get? b=some o->s.heap.get? b=some o:=fun b o e=>(I.bs b o e).1
theorem Inv.mod(I:Inv X pins σ H s):Mod X.K X.mg X.base:=I.ok.mod
theorem Inv.kIn(I:Inv X pins σ H s):X.K.In s.heap:=I.ok.mod.kin.keeps I.bk
theorem Inv.lt(I:Inv X pins σ H s):X.env.locals<s.heap.objs.size:=let⟨_,hn,_⟩:=I.loc;hn.lt
theorem Inv.sz(I:Inv X pins σ H s):X.s₀.heap.objs.size<=s.heap.objs.size:=z5u I.ok.above (z6y I.lt)
theorem Inv.nofs(I:Inv X pins σ H s){a:Addr}(h:s.heap.objs.size<=a):a∉X.fs:=fun hb=>by obtain⟨_,o,ho,_⟩:=I.ok.funs.mem hb;exact absurd (z45 (z5l ho) (z5u I.sz h)) (z69 _)
theorem Inv.cne(I:Inv X pins σ H s):∀x c,X.env.cells.lookup x=some c->c≠X.env.locals:=fun x c e z=>by obtain⟨v,o,ho,hd⟩:=I.cell x c e;obtain⟨m,⟨o',es,ep,ho',hd',_⟩,_⟩:=I.loc;rw[z,ho']at ho;cases ho;rw[hd']at hd;cases hd
theorem Inv.funs(I:Inv X pins σ H s):s.heap.FunFrames X.base X.outer:=by
 have all:∀(l:List Env),(∀b∈frs l,b∈X.fs)->X.s₀.heap.FunFrames X.base l->s.heap.FunFrames X.base l:=by
   intro l
   induction l with
   |nil=>intro _ _;trivial
   | cons env r ih=>
     intro hs hl;obtain⟨hk,⟨L,o,hf,hn,ho,hd⟩,hr⟩:=hl;have hL:L∈X.fs:=hs L (by unfold frs;rw[List.filterMap_cons,hf];exact z5d);obtain⟨sl,e⟩:=I.base.slot L o ho (I.ok.frf L hL) hL fun z=>I.ok.exfs L z hL;exact⟨hk,⟨L,_,hf,hn,e,hd⟩,ih (fun b hb=>hs b (by unfold frs;rw[List.filterMap_cons,hf];exact z46 _ hb)) hr⟩
 exact all X.outer (fun _ hb=>hb) I.ok.funs
theorem Inv.stack(I:Inv X pins σ H s):s.heap.FunFrames X.base X.stack:=by
 rcases I.ok.stk with e | ⟨e,hf⟩
 · rw[e];exact I.funs
 · rw[e];obtain⟨m,hn,_⟩:=I.loc;refine .cons (by rw[I.ok.kind];decide) hf hn ?_ I.funs;exact z77 (z5u I.ok.bsz I.ok.above)
theorem Inv.stkSub(I:Inv X pins σ H s):∀b∈frs X.stack,b∈X.env.locals::X.fs:=fun b hb=>by
 rcases I.ok.stk with e | ⟨e,hf⟩
 · rw[e]at hb;exact z46 _ hb
 · rw[e]at hb;unfold frs at hb;rw[List.filterMap_cons,hf]at hb;exact hb
theorem Inv.stkFree(I:Inv X pins σ H s):∀b∈frs X.stack,H b=none:=fun b hb=>by
 rcases z5p.mp (I.stkSub b hb)with e | hb
 · rw[e];exact I.free
 · obtain⟨_,o,ho,_⟩:=I.ok.funs.mem hb;exact I.base.free b o ho (I.ok.frf b hb) fun z=>I.ok.exfs b z hb
theorem Inv.step{g':Array GenState}{t':Nat}{d':Drawn}{ch:List Addr}(I:Inv X pins σ H s)
   (hch:∀b∈ch,(b∈X.ex\/X.s₀.heap.objs.size<=b)/\b≠X.env.locals/\(∀x c,X.env.cells.lookup x=some c->c≠b)/\∀p∈X.pn++pins,p.1≠b)
   (keep:∀b o,b≠X.env.locals->b∉X.fs->b∉ch->s.heap.get? b=some o->H b=none->h'.get? b=some o)
   (slot:∀b o,b≠X.env.locals->b∈X.fs->b∉ch->s.heap.get? b=some o->H b=none->∃sl,h'.get? b=some { o with slots:=sl }) (free:∀b o,b∉ch->s.heap.get? b=some o->H b=none->H' b=none)
   (there:∀b o,b∉ch->s.heap.get? b=some o->∃o',h'.get? b=some o')
   (tups:∀b xs,H b=some (.tup xs)->H' b=some (.tup xs)) (frzs:∀b o u,H b=some (.frz o u)->H' b=some (.frz o u)) (tbls:∀b ps,H b=some (.tbl ps)->∃more,H' b=some (.tbl (ps++more)))
   (ns:∀m,s.heap.Ns X.env.locals m->h'.Ns X.env.locals m) (hok:HOk X.prog X.w H' h') (hg:AllBare g') :
   Inv X pins σ H' { s with heap:=h',gens:=g',drawn:=d',toks:=t' }:=by
 have neL:∀b o,X.s₀.heap.get? b=some o->b≠X.env.locals:=fun b o e=>z5q (z45 (z5l e) I.ok.above);have neC:∀b o,X.s₀.heap.get? b=some o->b∉X.ex->b∉ch:=fun b o e hx hb=>by
   rcases(hch b hb).1 with z | z
   · exact hx z
   · exact absurd (z45 (z5l e) z) (z69 _)
 have cellK:∀x c,X.env.cells.lookup x=some c->∀v,s.heap.IsCell c v->h'.IsCell c v:=fun x c e v ⟨o,ho,hd⟩=>by
   have nch:c∉ch:=fun z=>(hch c z).2.2.1 x c e rfl;by_cases hc:c∈X.fs
   · obtain⟨sl,q⟩:=slot c o (I.cne x c e) hc nch ho (I.freeC x c e);exact⟨_,q,hd⟩
   · exact⟨o,keep c o (I.cne x c e) hc nch ho (I.freeC x c e),hd⟩
 refine⟨I.ok,I.os,hg,⟨fun b o e n hb hx=>?_,fun b o e n hb hx=>?_,fun b o e n hx=>?_,fun b o e hx=>?_,fun b xs e=>tups b xs (I.base.tups b xs e),fun b o xs e=>frzs b o xs (I.base.frzs b o xs e),fun b ps e=>?_⟩,?_,fun x c e=>?_,?_,fun x c e=>?_,fun p hp=>?_,hok,I.len⟩
 · exact keep b o (neL b o e) hb (neC b o e hx) (I.base.keep b o e n hb hx) (I.base.free b o e n hx)
 · obtain⟨sl,e1⟩:=I.base.slot b o e n hb hx;obtain⟨sl',e2⟩:=slot b _ (neL b o e) hb (neC b o e hx) e1 (I.base.free b o e n hx);exact⟨sl',e2⟩
 · obtain⟨o',e1⟩:=I.base.there b o e hx;exact free b o' (neC b o e hx) e1 (I.base.free b o e n hx)
 · obtain⟨o',e1⟩:=I.base.there b o e hx;exact there b o' (neC b o e hx) e1
 · obtain⟨m1,e1⟩:=I.base.tbls b ps e;obtain⟨m2,e2⟩:=tbls b _ e1;exact⟨m1++m2,by rw[e2,Array.append_assoc]⟩
 · obtain⟨m,hn,hl⟩:=I.loc;refine⟨m,ns m hn,fun i x v e1 e2 e3=>?_⟩;obtain⟨u,r,l⟩:=hl i x v e1 e2 e3;refine⟨u,r,?_⟩;rcases l with l | ⟨k,c,e,z⟩
   · exact .inl l
   · exact .inr ⟨k,c,e,cellK x c e _ z⟩
 · obtain⟨v,z⟩:=I.cell x c e;exact⟨v,cellK x c e v z⟩
 · obtain⟨m,⟨o,_,_,ho,_⟩,_⟩:=I.loc;exact free _ o (fun z=>(hch _ z).2.1 rfl) ho I.free
 · obtain⟨v,o,ho,hd⟩:=I.cell x c e;exact free c o (fun z=>(hch c z).2.2.1 x c e rfl) ho (I.freeC x c e)
 · obtain⟨e,n,ne,nf,d⟩:=I.pin p hp;have nch:p.1∉ch:=fun z=>(hch p.1 z).2.2.2 p hp rfl;exact⟨keep p.1 p.2 ne nf nch e n,free p.1 p.2 nch e n,ne,nf,d⟩
theorem Inv.un{t':Nat}(I:Inv X pins σ H s)(u:Un X.fs [] H H' s.heap h')(hok:HOk X.prog X.w H' h'):Inv X pins σ H' { s with heap:=h',toks:=t' }:=by
 obtain⟨m,⟨o,es,ep,ho,r⟩,_⟩:=id I.loc;obtain⟨sl,hL⟩:=u.any ho I.free (by simp);exact I.step (g':=s.gens) (d':=s.drawn) (ch:=[]) (fun _ z=>nomatch z) (fun b o _ hb _ e n=>u.keep b o e n hb (by simp)) (fun b o _ hb _ e n=>u.slot b o e n hb (by simp)) (fun b o _ e n=>u.free b o e n (by simp)) (fun b o _ e=>u.there b o e (by simp)) u.tups u.frzs u.tbls (fun m' hm=>by
   obtain⟨o',es',ep',ho',r'⟩:=hm;rw[ho]at ho';cases ho';exact⟨_,es',ep',hL,r'⟩) hok I.bare
theorem Inv.call{g':Array GenState}{t':Nat}{d':Drawn}{ch:List Addr}(I:Inv X pins σ H s)(u:Un (frs X.stack) ch H H' s.heap h')(hok:HOk X.prog X.w H' h')(hg:AllBare g')
   (hch:∀b∈ch,(b∈X.ex\/X.s₀.heap.objs.size<=b)/\b≠X.env.locals/\(∀x c,X.env.cells.lookup x=some c->c≠b)/\∀p∈X.pn++pins,p.1≠b) :
   Inv X pins σ H' { s with heap:=h',gens:=g',drawn:=d',toks:=t' }:=by
 obtain⟨m,⟨o,es,ep,ho,r⟩,_⟩:=id I.loc;obtain⟨sl,hL⟩:=u.any ho I.free fun z=>(hch _ z).2.1 rfl;exact I.step (ch:=ch) hch (fun b o hL hb hc e n=>u.keep b o e n (fun z=>(z5p.mp (I.stkSub b z)).elim hL hb) hc) (fun b o _ _ hc e n=>u.any e n hc) (fun b o hc e n=>u.free b o e n hc) (fun b o hc e=>u.there b o e hc) u.tups u.frzs u.tbls (fun m' hm=>by
   obtain⟨o',es',ep',ho',r'⟩:=hm;rw[ho]at ho';cases ho';exact⟨_,es',ep',hL,r'⟩) hok hg
theorem Inv.turned{t':Nat}{it:Addr}(I:Inv X pins σ H s)(k:∀b o,b≠it->s.heap.get? b=some o->h'.get? b=some o)(hn:H it=none)(hL:it≠X.env.locals)
   (h1:it∈X.ex\/X.s₀.heap.objs.size<=it) (h2:∀x c,X.env.cells.lookup x=some c->c≠it) (h3:∀p∈X.pn++pins,p.1≠it):Inv X pins σ H { s with heap:=h',toks:=t' }:=by
 have nit:∀b u,H b=some u->b≠it:=fun b u e z=>by rw[z,hn]at e;cases e
 refine I.step (g':=s.gens) (d':=s.drawn) (ch:=[it]) (fun b hb=>?_) (fun b o _ _ hc e _=>k b o (fun z=>hc (by simp[z])) e) (fun b o _ _ hc e _=>⟨o.slots,k b o (fun z=>hc (by simp[z])) e⟩) (fun _ _ _ _ n=>n)
   (fun b o hc e=>⟨o,k b o (fun z=>hc (by simp[z])) e⟩) (fun _ _ e=>e) (fun _ _ _ e=>e) (fun b ps e=>⟨#[],by rw[e];simp⟩) (fun m hm=>?_) (fun b u e=>?_) I.bare
 · have e:b=it:=by simpa using hb
   subst e;exact⟨h1,hL,h2,h3⟩
 · obtain⟨o,es,ep,ho,r⟩:=hm;exact⟨o,es,ep,k _ o (z7q hL) ho,r⟩
 · refine(I.hok b u e).stay (fun c v hc q=>k c v ?_ q) (fun _ q=>q) fun _ _ q=>q;rcases hc with z | z
   · rw[z];exact nit b u e
   · exact nit c _ z
theorem Inv.tok(I:Inv X pins σ H s)(t:Nat):Inv X pins σ H { s with toks:=t }:=I.un (h':=s.heap) (t':=t) Un.refl I.hok
theorem Inv.kept{t':Nat}(I:Inv X pins σ H s)(k:∀b u,s.heap.get? b=some u->h'.get? b=some u):Inv X pins σ H { s with heap:=h',toks:=t' }:=I.un (Un.kept k) (I.hok.kept k)
theorem Inv.laid{a:Addr}{o:HO}{t':Nat}(I:Inv X pins σ H s)(k:∀b u,s.heap.get? b=some u->h'.get? b=some u)(hp:s.heap.objs.size<=a)(new:ObjOk X.prog X.w (upd H a o) h' a o) :
   Inv X pins σ (upd H a o) { s with heap:=h',toks:=t' }:=I.un (Un.laid k hp (I.hok.fresh hp)) (I.hok.laid k hp new)
theorem Inv.write{x e:Addr}{o:HO}{t':Nat}(I:Inv X pins σ H s)(mu:Mut (H x))(he:e=x\/H e=some (.own x))(k:∀b u,b≠e->s.heap.get? b=some u->h'.get? b=some u)(heo:∃u,h'.get? e=some u)
   (new:ObjOk X.prog X.w (upd H x o) h' x o):Inv X pins σ (upd H x o) { s with heap:=h',toks:=t' }:=I.un (Un.write mu he k heo) (I.hok.write mu he k heo new)
theorem Inv.pins_of{pins':zAO}(I:Inv X pins σ H s)(h:∀p∈pins',s.heap.get? p.1=some p.2/\H p.1=none/\p.1≠X.env.locals/\p.1∉X.fs/\∀v,p.2.data≠.cell v):Inv X pins' σ H s :=
 ⟨I.ok,I.os,I.bare,I.base,I.loc,I.cell,I.free,I.freeC,fun p hp=>(z5x.mp hp).elim (fun z=>I.pin p (z6k _ z)) (h p),I.hok,I.len⟩
theorem zf1{N:List Str}(hN:N.Nodup){i j:Nat}{x:Str}(a:N[i]? = some x)(b:N[j]? = some x):i=j:=by obtain⟨h1,e1⟩:=z5b.mp a;obtain⟨h2,e2⟩:=z5b.mp b;exact(qan hN).mp (e1.trans e2.symm)
theorem zg5{M:Model}{A:Around}{E:zVP}{i:Nat}{x:Str}{v:V}{u:Value}{Q:Unit->Shared->Prop}(I:Inv X pins σ H s)(hN:X.N.Nodup)(hi:X.N[i]? = some x)(hx:Loc X.env.scope x)(r:RelV v u)
   (h:∀s',Inv X pins (σ.set i (some v)) H s'->(∃a,Heap.SameBut a s.heap s'.heap/\(a=X.env.locals\/X.env.cells.lookup x=some a))->Q () s') (hf:X.fn x=true\/X.env.scope.names.lookup x=some .local:=by first | exact .inl rfl | exact .inr rfl | assumption):wpAny M A (storeName X.env x u) Q E s:=by
 obtain⟨m,hn,hl⟩:=id I.loc;have hcls:(X.env.scope.kind==.class||(X.env.scope.kind==.module&&X.env.locals != X.env.globals))=false:=by rw[I.ok.kind];rfl
 have hiσ:i<σ.length:=by rw[I.len];exact(z5b.mp hi).1
 have cne:=I.cne;have tracked:∀{a:Addr}{h':Heap},(∃o,s.heap.get? a=some o/\H a=none)->Heap.SameBut a s.heap h'->HOk X.prog X.w H h':=fun {a h'} ha hs b ob e=>by
   obtain⟨_,_,hfree⟩:=ha;refine(I.hok b ob e).stay (fun c w' hc q=>(hs.2 c ?_).trans q) (fun _ q=>q) fun _ _ q=>q;rintro rfl;rcases hc with rfl | hc
   · rw[hfree]at e;cases e
   · rw[hfree]at hc;cases hc
 rcases hx with hk | hk
 · refine wpAny_storeName_local hk hn (fun h' hn' hs=>?_) hcls;obtain⟨oL,_,_,hoL,_⟩:=id hn;refine h _ ⟨I.ok,I.os,I.bare,⟨fun b o e n hb hx=>?_,fun b o e n hb hx=>?_,I.base.free,fun b o e hx=>?_,I.base.tups,I.base.frzs,I.base.tbls⟩,⟨_,hn',fun j y v' e1 e2 e3=>?_⟩,fun y c e=>?_,I.free,I.freeC,fun p hp=>?_,tracked ⟨oL,hoL,I.free⟩ hs,by simpa using I.len⟩ ⟨_,hs,.inl rfl⟩
   · exact(hs.2 b (z5q (z45 (z5l e) I.ok.above))).trans (I.base.keep b o e n hb hx)
   · obtain⟨sl,e1⟩:=I.base.slot b o e n hb hx;exact⟨sl,(hs.2 b (z5q (z45 (z5l e) I.ok.above))).trans e1⟩
   · obtain⟨o',e1⟩:=I.base.there b o e hx;exact⟨o',(hs.2 b (z5q (z45 (z5l e) I.ok.above))).trans e1⟩
   · by_cases hj:j=i
     · subst hj;rw[hi]at e1;cases e1;rw[z6b hiσ]at e2;cases e2;exact⟨u,r,.inl ⟨hk,by simp⟩⟩
     · rw[z6u (z7q hj)]at e2;obtain⟨u',r',q⟩:=hl j y v' e1 e2 e3;refine⟨u',r',?_⟩;rcases q with⟨k,e⟩ | ⟨k,c,e,z⟩
       · refine .inl ⟨k,?_⟩;have:y≠x:=fun e=>hj (zf1 hN e1 (e▸hi));simp[this,e]
       · exact .inr ⟨k,c,e,z.sameBut hs (cne y c e)⟩
   · obtain⟨w',z⟩:=I.cell y c e;exact⟨w',z.sameBut hs (cne y c e)⟩
   · obtain⟨e,n,ne,nf,d⟩:=I.pin p hp;exact⟨(hs.2 p.1 ne).trans e,n,ne,nf,d⟩
 · have hfn:X.fn x=true:=by
     rcases hf with z | z
     · exact z
     · rw[z]at hk;cases hk
   obtain⟨c,hc⟩:=I.ok.has x (.inl hk);obtain⟨w',z⟩:=I.cell x c hc;refine wpAny_storeName_cell I.ok.kind hk hc z (fun h' hc' hs=>?_);obtain⟨oc,hoc,hocd⟩:=id z;refine h { s with heap:=h' } ⟨I.ok,I.os,I.bare,⟨fun b o e n hb hx=>?_,fun b o e n hb hx=>?_,I.base.free,fun b o e hx=>?_,I.base.tups,I.base.frzs,I.base.tbls⟩,⟨m,hn.sameBut hs (z7q (cne x c hc)),fun j y v' e1 e2 e3=>?_⟩,fun y c' e=>?_,I.free,I.freeC,fun p hp=>?_,tracked ⟨oc,hoc,I.freeC x c hc⟩ hs,by simpa using I.len⟩ ⟨c,hs,.inr hc⟩
   · exact(hs.2 b (z5q (z45 (z5l e) (I.ok.cab x c hfn hc)))).trans (I.base.keep b o e n hb hx)
   · obtain⟨sl,e1⟩:=I.base.slot b o e n hb hx;exact⟨sl,(hs.2 b (z5q (z45 (z5l e) (I.ok.cab x c hfn hc)))).trans e1⟩
   · obtain⟨o',e1⟩:=I.base.there b o e hx;exact⟨o',(hs.2 b (z5q (z45 (z5l e) (I.ok.cab x c hfn hc)))).trans e1⟩
   · by_cases hj:j=i
     · subst hj;rw[hi]at e1;cases e1;rw[z6b hiσ]at e2;cases e2;exact⟨u,r,.inr ⟨.inl hk,c,hc,hc'⟩⟩
     · rw[z6u (z7q hj)]at e2;obtain⟨u',r',q⟩:=hl j y v' e1 e2 e3;refine⟨u',r',?_⟩;rcases q with q | ⟨k,c',e,z'⟩
       · exact .inl q
       · refine .inr ⟨k,c',e,z'.sameBut hs ?_⟩;rintro rfl;exact hj (zf1 hN e1 (I.ok.inj _ _ _ e hc▸hi))
   · by_cases hcc:c'=c
     · subst hcc;exact⟨_,hc'⟩
     · obtain⟨w2,z2⟩:=I.cell y c' e;exact⟨w2,z2.sameBut hs hcc⟩
   · obtain⟨e,n,ne,nf,d⟩:=I.pin p hp;refine⟨(hs.2 p.1 ?_).trans e,n,ne,nf,d⟩;intro q;rw[q,hoc]at e;have q':oc=p.2:=z58 e;exact d w' (by rw[<-q'];exact hocd)
theorem zc7{M:Model}{A:Around}{E:zVP}{i:Nat}{x:Str}{v:V}{u:Value}{Q:Unit->Shared->Prop}(I:Inv X pins σ H s)(hN:X.N.Nodup)(hi:X.N[i]? = some x)(hx:Loc X.env.scope x)(r:RelV v u)
   (h:∀s',Inv X pins (σ.set i (some v)) H s'->Q () s') (hf:X.fn x=true\/X.env.scope.names.lookup x=some .local:=by first | exact .inl rfl | exact .inr rfl | assumption):wpAny M A (storeName X.env x u) Q E s :=
 zg5 I hN hi hx r (fun s' I' _=>h s' I') hf
theorem Inv.call'{s':Shared}{ch:List Addr}(I:Inv X pins σ H s)(ho:s'.os=s.os)(u:Un (frs X.stack) ch H H' s.heap s'.heap)(hok:HOk X.prog X.w H' s'.heap)(hg:AllBare s'.gens)
   (hch:∀b∈ch,(b∈X.ex\/X.s₀.heap.objs.size<=b)/\b≠X.env.locals/\(∀x c,X.env.cells.lookup x=some c->c≠b)/\∀p∈X.pn++pins,p.1≠b):Inv X pins σ H' s':=by
 obtain⟨h',g',d',t',o'⟩:=s';have e:o'=s.os:=ho;subst e;exact I.call (g':=g') (t':=t') (d':=d') u hok hg hch
end
abbrev XK:=Value->Option Addr->Hp->Prop
abbrev St:=List (Option V)
abbrev VK:=V->Hp->Prop
abbrev TE:=St->Hp->VK->Prop
abbrev TT:=St->Hp->(Bool->Hp->Prop)->Prop
abbrev TA:=St->Hp->(List V->Hp->Prop)->Prop
structure Ends where
 nx:St->Hp->Prop
 rt:VK
 bk:St->Hp->Prop:=fun _ _=>False
 ct:St->Hp->Prop:=fun _ _=>False
abbrev TS:=Ends->St->Hp->Prop
def EP(X:Cx)(pins:zAO)(σ:St)(Q:VK)(u:Value)(s':Shared):Prop:=∃v H',Inv X pins σ H' s'/\RelV v u/\Q v H'
def TP(X:Cx)(pins:zAO)(σ:St)(Q:Bool->Hp->Prop)(b:Bool)(s':Shared):Prop:=∃H',Inv X pins σ H' s'/\Q b H'
def AP(X:Cx)(pins:zAO)(σ:St)(Q:List V->Hp->Prop)(us:List Value)(s':Shared):Prop:=∃vs H',Inv X pins σ H' s'/\Vals vs us/\Q vs H'
def SP(X:Cx)(pins:zAO)(D:Ends)(f:Flow)(s':Shared):Prop :=
 match f with
 | .next=>∃σ' H',Inv X pins σ' H' s'/\D.nx σ' H'
 | .brk=>∃σ' H',Inv X pins σ' H' s'/\D.bk σ' H'
 | .cont=>∃σ' H',Inv X pins σ' H' s'/\D.ct σ' H'
 | .ret u=>∃v σ' H',Inv X pins σ' H' s'/\RelV v u/\D.rt v H'
def PE(X:Cx)(e:Expr)(t:TE):Prop :=
 ∀(pins:zAO) (s:Shared) (σ:St) (H:Hp) (Q:VK),Inv X pins σ H s->t σ H Q->wpAny (model X.prog X.w) X.A (eval e X.env) (EP X pins σ Q) X.xe s
def PT(X:Cx)(e:Expr)(t:TT):Prop :=
 ∀(pins:zAO) (s:Shared) (σ:St) (H:Hp) (Q:Bool->Hp->Prop),Inv X pins σ H s->t σ H Q->wpAny (model X.prog X.w) X.A (isTrue e X.env (eval e X.env)) (TP X pins σ Q) X.xe s
def PW(X:Cx)(e:Expr)(t:TT):Prop :=
 ∀(whole:Sem Value) (pins:zAO) (s:Shared) (σ:St) (H:Hp) (Q:Bool->Hp->Prop),Inv X pins σ H s->t σ H Q->wpAny (model X.prog X.w) X.A (isTrue e X.env whole) (TP X pins σ Q) X.xe s
theorem PW.pt{X:Cx}{e:Expr}{t:TT}(h:PW X e t):PT X e t:=h _
def PA(X:Cx)(es:List Expr)(t:TA):Prop :=
 ∀(pos:Pos) (pins:zAO) (s:Shared) (σ:St) (H:Hp) (Q:List V->Hp->Prop),Inv X pins σ H s->t σ H Q->wpAny (model X.prog X.w) X.A (spliced (backTo pos (starEach es X.env))) (AP X pins σ Q) X.xe s
def PS(X:Cx)(st:Stmt)(t:TS):Prop :=
 ∀(pins:zAO) (s:Shared) (σ:St) (H:Hp) (D:Ends),Inv X pins σ H s->t D σ H->wpAny (model X.prog X.w) X.A (exec st X.env) (SP X pins D) X.xe s
def PSs(X:Cx)(st:List Stmt)(t:TS):Prop :=
 ∀(pins:zAO) (s:Shared) (σ:St) (H:Hp) (D:Ends),Inv X pins σ H s->t D σ H->wpAny (model X.prog X.w) X.A (execs st X.env) (SP X pins D) X.xe s
theorem thn{α:Type}{t:Sem α}{Q Q':α->Shared->Prop}{M:Model}{A:Around}{E:zVP}{s:Shared}(h:wpAny M A t Q E s)(hQ:∀a s,Q a s->Q' a s):wpAny M A t Q' E s:=z7c h hQ fun _ _ x=>x
section
variable {X:Cx}
def z3z(i:Nat):TE:=fun σ H Q=>∃v,σ[i]? = some (some v)/\Q v H
def tC(v:V):TE:=fun _ H Q=>Q v H
theorem zyd{i:Nat}{x:Str}{pos:Pos}(hN:X.N[i]? = some x)(hv:Vis X.env.scope x)(hd:(x==("__debug__":Str))=false:=by decide)(hcd:(x==("__classdict__":Str))=false:=by decide):PE X (.Name x pos) (z3z i):=by
 intro pins s σ H Q I h;obtain⟨v,e,h⟩:=h;obtain⟨m,hn,hl⟩:=I.loc;obtain⟨u,r,l⟩:=hl i x v hN e hv;have fin:EP X pins σ Q u s:=⟨v,H,I,r,h⟩
 rcases l with⟨hk,hm⟩ | ⟨hk,c,hc,hcell⟩
 · exact wpAny_Name (wpAny_loadName_local I.ok.kind hk hn hm fin) hd
 · rcases hk with hk | hk
   · exact wpAny_Name (wpAny_loadName_cell I.ok.kind hk hc hcell fin) hd
   · exact wpAny_Name (wpAny_loadName_free I.ok.kind hk hc hcell fin hcd) hd
theorem zyj{i j pos}:PE X (.Constant (.int i) j pos) (tC (.int i)):=fun _ _ _ H _ I h=>wpAny_Constant_int ⟨.int i,H,I.tok _,⟨_,rfl⟩,h⟩
theorem z17{b j pos}:PE X (.Constant (.bool b) j pos) (tC (.bl b)):=fun _ _ _ H _ I h=>Constant_bool ⟨.bl b,H,I,rfl,h⟩
theorem zyi{j pos}:PE X (.Constant .none j pos) (tC .non):=fun _ _ _ H _ I h=>Constant_none ⟨.non,H,I,rfl,h⟩
theorem zyf{x j pos}:PE X (.Constant (.str x) j pos) (tC (.str x)):=fun _ _ _ H _ I h=>Calls.Constant_str ⟨.str x,H,I.tok _,⟨_,rfl⟩,h⟩
def Gl(X:Cx)(x:Str):Prop:=X.env.kindOf x=some .globalImplicit
theorem zax{E:zVP}{pins:zAO}{s:Shared}{σ:St}{H:Hp}{x:Str}{u:Value}{pos:Pos}{Q:zVP}(I:Inv X pins σ H s)(hg:Gl X x)(hm:X.mg x=some u)(h:Q u s)
   (hd:(x==("__debug__":Str))=false:=by decide):wpAny (model X.prog X.w) X.A (eval (.Name x pos) X.env) Q E s :=
 Calls.Name_function_global I.ok.kind hg (Calls.loadGlobal_global (by rw[I.ok.glob];exact I.mod.glob.keeps I.bk) hm h) hd
theorem zdy{E:zVP}{pins:zAO}{s:Shared}{σ:St}{H:Hp}{x:Str}{u:Value}{pos:Pos}{Q:zVP}(I:Inv X pins σ H s)(hg:Gl X x)(hm:X.mg x=none)(hv:bootBuiltins x=some u)(h:Q u s)
   (hn:x≠"__name__":=by decide) (hd:(x==("__debug__":Str))=false:=by decide):wpAny (model X.prog X.w) X.A (eval (.Name x pos) X.env) Q E s:=by
 obtain⟨mb,h1,h2⟩:=I.mod.blt;exact Calls.Name_function_global I.ok.kind hg (Calls.loadGlobal_builtin (by rw[I.ok.glob];exact I.mod.glob.keeps I.bk) hm (by rw[I.ok.blt];exact h1.keeps I.bk) ((h2 x hn).trans hv) h) hd
theorem znz{x:Str}{v:V}{u:Value}{pos:Pos}(hg:Gl X x)(hm:X.mg x=some u)(r:RelV v u)(hd:(x==("__debug__":Str))=false:=by decide):PE X (.Name x pos) (tC v) :=
 fun _ _ _ H _ I h=>zax I hg hm ⟨v,H,I,r,h⟩ hd
theorem zvc{x:Str}{v:V}{u:Value}{pos:Pos}(hg:Gl X x)(hm:X.mg x=none)(hv:bootBuiltins x=some u)(r:RelV v u)(hn:x≠"__name__":=by decide)(hd:(x==("__debug__":Str))=false:=by decide):PE X (.Name x pos) (tC v) :=
 fun _ _ _ H _ I h=>zdy I hg hm hv ⟨v,H,I,r,h⟩ hn hd
variable {a b:Expr}{ta tb:TE}{pos:Pos}
def tB(t:TE):TT:=fun σ H Q=>t σ H fun x H1=>∃c,x=.bl c/\Q c H1
theorem zx3{e:Expr}{t:TE}(h:PE X e t)(he:∀whole,isTrue e X.env whole=(do let v <-whole;standAt e.pos;holding [v] (truthy v)):=by intro _;rfl):PT X e (tB t):=by intro pins s σ H Q I hw;refine isTrue_plain (thn (h pins s σ H _ I hw) fun v s1 ⟨x,H1,I1,r1,q1⟩=>?_) (he _);obtain⟨d,rfl,q⟩:=q1;cases r1;exact z6r ⟨H1,I1,q⟩
variable {tA tB':TT}{rest:List Expr}
def z4b(t u:TT):TT:=fun σ H Q=>t σ H fun c H1=>if c=true then u σ H1 Q else Q false H1
def tOr(t u:TT):TT:=fun σ H Q=>t σ H fun c H1=>if c=true then Q true H1 else u σ H1 Q
def z34(t:TT):TT:=fun σ H Q=>t σ H fun c H1=>Q (!c) H1
theorem zuz(ha:PT X a tA):PW X (.BoolOp .And [a] pos) tA:=by
 intro wh pins s σ H Q I h;refine isTrue_and (thn (ha pins s σ H Q I h) fun c s1 e=>?_);cases c with
 |true=>exact isTrue_and_nil e
 |false=>exact e
theorem zxz(ha:PT X a tA):PW X (.BoolOp .Or [a] pos) tA:=by
 intro wh pins s σ H Q I h;refine isTrue_or (thn (ha pins s σ H Q I h) fun c s1 e=>?_);cases c with
 |false=>exact isTrue_or_nil e
 |true=>exact e
theorem zx1(ha:PT X a tA)(hb:PW X (.BoolOp .And (b::rest) pos) tB'):PW X (.BoolOp .And (a::b::rest) pos) (z4b tA tB'):=by
 intro wh pins s σ H Q I h;refine isTrue_and (thn (ha pins s σ H _ I h) fun c s1 ⟨H1,I1,q1⟩=>?_);cases c with
 |true=>exact hb wh pins s1 σ H1 Q I1 q1
 |false=>exact⟨H1,I1,q1⟩
theorem z1z(ha:PT X a tA)(hb:PW X (.BoolOp .Or (b::rest) pos) tB'):PW X (.BoolOp .Or (a::b::rest) pos) (tOr tA tB'):=by
 intro wh pins s σ H Q I h;refine isTrue_or (thn (ha pins s σ H _ I h) fun c s1 ⟨H1,I1,q1⟩=>?_);cases c with
 |true=>exact⟨H1,I1,q1⟩
 |false=>exact hb wh pins s1 σ H1 Q I1 q1
theorem zx4(ha:PT X a tA):PT X (.UnaryOp .Not a pos) (z34 tA):=by intro pins s σ H Q I h;exact isTrue_not (ha pins s σ H (fun c H1=>Q (!c) H1) I h)
def z1t(ta tb:TE):TE:=fun σ H Q=>ta σ H fun x H1=>∃c,x=.bl c/\if c=true then tb σ H1 Q else Q (.bl false) H1
def z1n(ta:TE):TE:=fun σ H Q=>ta σ H fun x H1=>∃c,x=.bl c/\Q (.bl (!c)) H1
theorem zyg{op}{t:TE}(h:PE X a t):PE X (.BoolOp op [a] pos) t:=fun pins s σ H Q I hw=>BoolOp_one (h pins s σ H Q I hw)
theorem zym(ha:PE X a ta)(hb:PE X (.BoolOp .And (b::rest) pos) tb):PE X (.BoolOp .And (a::b::rest) pos) (z1t ta tb):=by
 intro pins s σ H Q I h;refine BoolOp_and (thn (ha pins s σ H _ I h) fun v s1 ⟨x,H1,I1,r1,q1⟩=>?_);obtain⟨c,rfl,q1⟩:=q1;cases r1;refine z6r ?_;cases c with
 |true=>exact hb pins s1 σ H1 Q I1 q1
 |false=>exact⟨.bl false,H1,I1,rfl,q1⟩
theorem zyh(ha:PE X a ta):PE X (.UnaryOp .Not a pos) (z1n ta):=by intro pins s σ H Q I h;refine UnaryOp_ (thn (ha pins s σ H _ I h) fun v s1 ⟨x,H1,I1,r1,q1⟩=>?_);obtain⟨c,rfl,q1⟩:=q1;cases r1;exact not_of (z6r ⟨.bl (!c),H1,I1,rfl,q1⟩)
end
def SqL(K:zFr)(H:Hp)(a:Addr)(xs:List V):Prop :=
 Rd H a (.lst xs) \/
   ∃(o:Obj) (its:Array Value) (n:Nat),K.lookup a=some o/\o.cls=.type "list"/\o.dict=none/\o.data=.seq its n/\its.size<=sizeLine/\Vals xs its.toList
def SqT(K:zFr)(H:Hp)(a:Addr)(xs:List V):Prop :=
 Rd H a (.tup xs) \/
   ∃(o:Obj) (its:Array Value) (n:Nat),K.lookup a=some o/\o.cls=.type "tuple"/\o.data=.seq its n/\its.size<=sizeLine/\Vals xs its.toList
def z4x:Value->Option V
 | .none=>some .non
 | .bool b=>some (.bl b)
 | .int i _=>some (.int i)
 | .str x _=>some (.str x)
 | .bytes b _=>some (.byt b)
 | .float b _=>some (.flt b)
 | .ref a=>some (.ref a)
 | .type n=>some (.ty n)
 |_=>none
theorem RelV.abs{x:V}{u:Value}(r:RelV x u):z4x u=some x:=by
 cases x with
 |non=>cases r;rfl
 |bl _=>cases r;rfl
 |int _=>obtain⟨t,rfl⟩:=r;rfl
 |str _=>obtain⟨t,rfl⟩:=r;rfl
 |byt _=>obtain⟨t,rfl⟩:=r;rfl
 |flt _=>obtain⟨t,rfl⟩:=r;rfl
 |ref _=>cases r;rfl
 |ty _=>cases r;rfl
theorem RelV.inj{x y:V}{u:Value}(r:RelV x u)(q:RelV y u):x=y:=z58 (r.abs.symm.trans q.abs)
theorem Vals.inj:∀{xs ys:List V}{us:List Value},Vals xs us->Vals ys us->xs=ys
 |_,_,_,.nil,.nil=>rfl
 |_,_,_,.cons r t,.cons r' t'=>by rw[r.inj r',Vals.inj t t']
section
variable {X:Cx}{pins:zAO}{σ:St}{H:Hp}{s:Shared}{a:Addr}{xs ys:List V}
theorem SqL.of{K:zFr}(h:H a=some (.lst xs)):SqL K H a xs:=.inl (.inl h)
theorem Inv.list(I:Inv X pins σ H s)(h:SqL X.K H a xs):∃its:List Value,Vals xs its/\PlainL s.heap a its.toArray/\xs.length<=sizeLine:=by
 rcases h with h | ⟨o,its,n,hk,hc,hd,hs,hz,r⟩
 · obtain⟨z,its,n,r,e⟩:=h.ok I.hok;exact⟨its,r,⟨_,n,e,rfl,rfl,rfl⟩,z⟩
 · refine⟨its.toList,r,⟨o,n,I.kIn a o hk,hc,hd,by simpa using hs⟩,?_⟩;have e:=r.length;simp only[Array.length_toList]at e;omega
theorem Inv.tuple(I:Inv X pins σ H s)(h:SqT X.K H a xs):∃its:List Value,Vals xs its/\IsTup s.heap a its.toArray/\xs.length<=sizeLine:=by
 rcases h with h | ⟨o,its,n,hk,hc,hs,hz,r⟩
 · obtain⟨z,its,r,p⟩:=h.ok I.hok;exact⟨its,r,p,z⟩
 · refine⟨its.toList,r,⟨o,I.kIn a o hk,hc,n,by simpa using hs⟩,?_⟩;have e:=r.length;simp only[Array.length_toList]at e;omega
theorem Inv.list_inj(I:Inv X pins σ H s)(h:SqL X.K H a xs)(h':SqL X.K H a ys):xs=ys:=by
 obtain⟨its,r,⟨o,n,e,_,_,d⟩,_⟩:=I.list h;obtain⟨its',r',⟨o',n',e',_,_,d'⟩,_⟩:=I.list h';rw[e]at e';cases e';rw[d]at d';injection d' with d1 _;have:its=its':=by simpa using z7a Array.toList d1
 subst this;exact r.inj r'
theorem Inv.tuple_inj(I:Inv X pins σ H s)(h:SqT X.K H a xs)(h':SqT X.K H a ys):xs=ys:=by
 obtain⟨its,r,⟨o,e,_,n,d⟩,_⟩:=I.tuple h;obtain⟨its',r',⟨o',e',_,n',d'⟩,_⟩:=I.tuple h';rw[e]at e';cases e';rw[d]at d';injection d' with d1 _;have:its=its':=by simpa using z7a Array.toList d1
 subst this;exact r.inj r'
end
abbrev Cx.wish(X:Cx)(E:zVP):Cx:={ X with xe:=E }
abbrev Cx.nox(X:Cx):Cx:=X.wish fun _ _=>False
theorem Cx.Ok.wish{X:Cx}(ok:X.Ok)(E:zVP):(X.wish E).Ok :=
 ⟨ok.mod,ok.kind,ok.glob,ok.blt,ok.above,ok.inj,ok.has,ok.cab,ok.hd,ok.frames,ok.stk,ok.exf,ok.bs,ok.bsz,ok.noex,ok.exfs,ok.funs,ok.frf⟩
theorem Cx.Ok.unwish{X:Cx}{E:zVP}(ok:(X.wish E).Ok):X.Ok :=
 ⟨ok.mod,ok.kind,ok.glob,ok.blt,ok.above,ok.inj,ok.has,ok.cab,ok.hd,ok.frames,ok.stk,ok.exf,ok.bs,ok.bsz,ok.noex,ok.exfs,ok.funs,ok.frf⟩
section
variable {X:Cx}{pins:zAO}{σ:St}{H:Hp}{s:Shared}{E:zVP}
theorem Inv.wish(I:Inv X pins σ H s)(E:zVP):Inv (X.wish E) pins σ H s:=⟨I.ok.wish E,I.os,I.bare,I.base,I.loc,I.cell,I.free,I.freeC,I.pin,I.hok,I.len⟩
theorem Inv.unwish(I:Inv (X.wish E) pins σ H s):Inv X pins σ H s:=⟨I.ok.unwish,I.os,I.bare,I.base,I.loc,I.cell,I.free,I.freeC,I.pin,I.hok,I.len⟩
theorem SP.unwish{D:Ends}{f:Flow}{s':Shared}(h:SP (X.wish E) pins D f s'):SP X pins D f s':=by
 cases f with
 |next=>obtain⟨σ',H',I,q⟩:=h;exact⟨σ',H',I.unwish,q⟩
 |brk=>obtain⟨σ',H',I,q⟩:=h;exact⟨σ',H',I.unwish,q⟩
 |cont=>obtain⟨σ',H',I,q⟩:=h;exact⟨σ',H',I.unwish,q⟩
 |ret u=>obtain⟨v,σ',H',I,r,q⟩:=h;exact⟨v,σ',H',I.unwish,r,q⟩
theorem PE.nox{e:Expr}{t:TE}(h:PE X.nox e t):PE X e t:=fun pins s σ H Q I hw=>
 z7c (h pins s σ H Q (I.wish _) hw) (fun _ _ ⟨v,H',I',r,q⟩=>⟨v,H',I'.unwish,r,q⟩) fun _ _ z=>False.elim z
theorem PSs.nox{st:List Stmt}{t:TS}(h:PSs X.nox st t):PSs X st t:=fun pins s σ H D I hw=>
 z7c (h pins s σ H D (I.wish _) hw) (fun _ _ q=>q.unwish) fun _ _ z=>False.elim z
end
section
variable {X:Cx}{st:Stmt}{rest:List Stmt}{t u:TS}{e:Expr}{te:TE}{pos:Pos}
def z1o:TS:=fun D σ H=>D.nx σ H
def z31(t u:TS):TS:=fun D σ H=>t { D with nx:=u D } σ H
theorem zu3:PSs X [] z1o:=fun _ _ σ H _ I h=>z9y ⟨σ,H,I,h⟩
theorem zqz(h1:PS X st t)(h2:PSs X rest u):PSs X (st::rest) (z31 t u):=by
 intro pins s σ H D I h;refine z8f (thn (h1 pins s σ H { D with nx:=u D } I h) fun f s1 q=>?_);cases f with
 | next=>
   obtain⟨σ',H',I',q⟩:=q;exact h2 pins s1 σ' H' D I' q
 |ret v=>exact q
 |brk=>exact q
 |cont=>exact q
theorem zu2(h1:PS X st t):PSs X [st] t:=by
 intro pins s σ H D I h;refine z8f (thn (h1 pins s σ H D I h) fun f s1 q=>?_);cases f with
 |next=>exact z9y q
 |ret v=>exact q
 |brk=>exact q
 |cont=>exact q
theorem Inv.quiet{pins:zAO}{σ:St}{H:Hp}{s:Shared}(I:Inv X pins σ H s):interactive X.env=false:=by simp[interactive,I.ok.kind]
def z1r(te:TE):TS:=fun D σ H=>te σ H fun _ H1=>D.nx σ H1
theorem znv(he:PE X e te)(hs:swapsWith e none pos.line X.env=pure false:=by rfl):PS X (.Expr e pos) (z1r te):=by intro pins s σ H D I h;exact wpAny_Expr_any (thn (he pins s σ H _ I h) fun v s1 ⟨x,H1,I1,r1,q1⟩=>⟨σ,H1,I1,q1⟩) I.quiet hs
def z33(te:TE):TS:=fun D σ H=>te σ H D.rt
theorem zx6(he:PE X e te):PS X (.Return (some e) pos) (z33 te):=by intro pins s σ H D I h;exact wpAny_Return_some (thn (he pins s σ H _ I h) fun v s1 ⟨x,H1,I1,r1,q1⟩=>⟨x,σ,H1,I1,r1,q1⟩)
def z1l:TS:=fun D _ H=>D.rt .non H
theorem zu4:PS X (.Return none pos) z1l:=fun _ _ σ H _ I h=>wpAny_Return_none ⟨.non,σ,H,I,rfl,h⟩
def z37(c:TT)(t u:TS):TS:=fun D σ H=>c σ H fun b H1=>if b=true then t D σ H1 else u D σ H1
theorem z12{c:Expr}{a b:List Stmt}{tc:TT}(hc:PT X c tc)(ha:PSs X a t)(hb:PSs X b u):PS X (.If c a b pos) (z37 tc t u):=by
 intro pins s σ H D I h;refine wpAny_If (thn (hc pins s σ H _ I h) fun d s1 ⟨H1,I1,q1⟩=>?_);cases d with
 |true=>exact ha pins s1 σ H1 D I1 q1
 |false=>exact hb pins s1 σ H1 D I1 q1
def zw9:TS:=fun _ _ _=>False
theorem zq0:PS X st zw9:=fun _ _ _ _ _ _ h=>h.elim
end
abbrev TG:=V->St->Hp->(St->Hp->Prop)->Prop
abbrev TGs:=List V->St->Hp->(St->Hp->Prop)->Prop
def PG(X:Cx)(target:Expr)(t:TG):Prop :=
 ∀(pins:zAO) (s:Shared) (σ:St) (H:Hp) (v:V) (u:Value) (Q:St->Hp->Prop),Inv X pins σ H s->RelV v u->t v σ H Q ->
   wpAny (model X.prog X.w) X.A (assign target X.env u) (fun _ s'=>∃σ' H',Inv X pins σ' H' s'/\Q σ' H') X.xe s
def PGs(X:Cx)(ts:List Expr)(t:TGs):Prop :=
 ∀(pins:zAO) (s:Shared) (σ:St) (H:Hp) (vs:List V) (us:List Value) (Q:St->Hp->Prop),Inv X pins σ H s->Vals vs us->t vs σ H Q ->
   wpAny (model X.prog X.w) X.A (assignInOrder ((assignEach ts X.env).map (·.2)) us) (fun _ s'=>∃σ' H',Inv X pins σ' H' s'/\Q σ' H') X.xe s
section
variable {X:Cx}{pos:Pos}
def zhm(i:Nat):TG:=fun v σ H Q=>Q (σ.set i (some v)) H
theorem zis{i:Nat}{x:Str}(hN:X.N.Nodup)(hi:X.N[i]? = some x)(hx:Loc X.env.scope x)(hf:X.fn x=true\/X.env.scope.names.lookup x=some .local:=by first | exact .inl rfl | exact .inr rfl | assumption):PG X (.Name x pos) (zhm i):=by intro pins s σ H v u Q I r h;exact wpAny_assign_Name (zc7 I hN hi hx r (fun s' I'=>⟨_,H,I',h⟩) hf)
def z3t:TGs:=fun vs σ H Q=>vs=[]/\Q σ H
def zri(t:TG)(u:TGs):TGs:=fun vs σ H Q=>∃v r,vs=v::r/\t v σ H fun σ' H'=>u r σ' H' Q
theorem zu7:PGs X [] z3t:=by intro pins s σ H vs us Q I r h;obtain⟨e,h⟩:=h;subst e;cases r;exact assignInOrder_nil ⟨σ,H,I,h⟩
theorem zq2{e:Expr}{es:List Expr}{t:TG}{u:TGs}(h1:PG X e t)(h2:PGs X es u)
   (hs:(assignEach (e::es) X.env).map (·.2)=assign e X.env::(assignEach es X.env).map (·.2):=by rfl):PGs X (e::es) (zri t u):=by
 intro pins s σ H vs us Q I r h;obtain⟨v,vr,e1,h⟩:=h;subst e1;cases r with
 | cons r rr=>
   rw[hs];refine assignInOrder_cons (thn (h1 pins s σ H _ _ _ I r h) fun _ s1 ⟨σ1,H1,I1,q1⟩=>?_);exact h2 pins s1 σ1 H1 _ _ Q I1 rr q1
def z4o(K:zFr)(n:Nat)(t:TGs):TG:=fun v σ H Q=>∃a xs,v=.ref a/\SqT K H a xs/\xs.length=n/\t xs σ H Q
theorem zs8{es:List Expr}{k:Nat}{t:TGs}{n:Nat}(hc:X.calm=true)(h:PGs X es t)
   (hn:(assignEach es X.env).length=n:=by rfl) (hst:(assignEach es X.env).findIdx? (·.1)=none:=by rfl):PG X (.Tuple es k pos) (z4o X.K n t):=by
 intro pins s σ H v u Q I r hw;obtain⟨a,xs,e1,hq,hl,hw⟩:=hw;subst e1;cases r;obtain⟨its,rv,ht,hz⟩:=I.tuple hq;refine assign_Tuple_tuple (I.ok.hd hc) ht (by simp[hn,<-hl,rv.length]) hst fun h' hx=>?_;have I1:Inv X pins σ H { s with heap:=h' }:=I.kept (t':=s.toks) fun b o e=>hx b o (z5q (z5l e)) e;exact h pins _ σ H xs _ Q I1 (by simpa using rv) hw
def z3c(te:TE)(g:TG):TS:=fun D σ H=>te σ H fun x H1=>g x σ H1 D.nx
theorem zx8{tg e:Expr}{te:TE}{g:TG}(he:PE X e te)(hg:PG X tg g)(hs:swapsWithSole [tg] e pos.line X.env=pure false:=by rfl)(hw:swappedStores [tg] e X.env=pure none:=by rfl)
   (h1:(assignEach [tg] X.env).map (·.2)=[assign tg X.env]:=by rfl):PS X (.Assign [tg] e pos) (z3c te g):=by
 intro pins s σ H D I h;refine wpAny_Assign_stores (thn (he pins s σ H _ I h) fun v s1 ⟨x,H1,I1,r1,q1⟩=>?_) hs hw;rw[h1];exact thn (hg pins s1 σ H1 x v _ I1 r1 q1) fun _ s2 q=>q
theorem zx5{i:Nat}{x:Str}{e:Expr}{te:TE}{pos':Pos}(hN:X.N.Nodup)(hi:X.N[i]? = some x)(hx:Loc X.env.scope x)(he:PE X e te)(hs:swapsWith e (some (.Name x pos')) pos.line X.env=pure false:=by rfl)(hf:X.fn x=true\/X.env.scope.names.lookup x=some .local:=by first | exact .inl rfl | exact .inr rfl | assumption) :
   PS X (.Assign [.Name x pos'] e pos) (z3c te (zhm i)):=by
 intro pins s σ H D I h;refine wpAny_Assign_Name (thn (he pins s σ H _ I h) fun v s1 ⟨y,H1,I1,r1,q1⟩=>?_) hs;exact zc7 I1 hN hi hx r1 (fun s2 I2=>⟨_,H1,I2,q1⟩) hf
end
structure It where
 go:Nat->Hp->Prop
 yld:Nat->Hp->V->Hp->Prop
 stop:Nat->Hp->Prop
def zmr(X:Cx)(pins:zAO)(H:Hp)(b:Addr):Prop :=
 H b=none/\b≠X.env.locals/\b∉X.fs/\(b∈X.ex\/X.s₀.heap.objs.size<=b)/\(∀x c,X.env.cells.lookup x=some c->c≠b)/\∀p∈X.pn++pins,p.1≠b
theorem Inv.fpOk{X:Cx}{pins:zAO}{σ:St}{H H':Hp}{s:Shared}{b:Addr}(I:Inv X pins σ H s)(hb:s.heap.objs.size<=b)(hn:H' b=none):zmr X pins H' b:=by
 refine⟨hn,Nat.ne_of_gt (z45 I.lt hb),I.nofs hb,.inr (z5u I.sz hb),fun x c e z=>?_,fun p hp z=>?_⟩
 · obtain⟨v,q⟩:=I.cell x c e;exact absurd (z45 q.lt (by rw[z];exact hb)) (z69 _)
 · exact absurd (z45 (z5l (I.pin p hp).1) (by rw[z];exact hb)) (z69 _)
structure Turn (P:Program) (w:World) (K:zFr) (tg:Expr) (J:It) (fp:List Addr) (it:Addr) (tn:Nat->Heap->Prop):Prop where
 mem:it∈fp
 obj:∀i h,tn i h->∀b∈fp,∃o,h.get? b=some o/\∀v,o.data≠.cell v
 keep:∀i h h',tn i h->(∀b∈fp,∀o,h.get? b=some o->h'.get? b=some o)->tn i h'
 item:∀(X:Cx),X.prog=P->X.w=w->X.K=K->X.calm=true->∀(i:Nat) (pins:zAO) (s:Shared) (σ:St) (H:Hp) (E:zVP),Inv X pins σ H s->(∀b∈fp,zmr X pins H b)->tn i s.heap->J.go i H ->
   wpAny (model P w) X.A (pyNext (.ref it)) (fun r s1=>∃u,r=some u /\
     wpAny (model P w) X.A (letOwnedTupleGo tg (.ref it) u) (fun _ s2=>∃x H',Inv X pins σ H' s2/\RelV x u/\J.yld i H x H'/\tn (i+1) s2.heap/\∀b∈fp,H' b=none) E s1) E s
 done:∀(X:Cx),X.prog=P->X.w=w->X.K=K->X.calm=true->∀(i:Nat) (pins:zAO) (s:Shared) (σ:St) (H:Hp) (E:zVP),Inv X pins σ H s->(∀b∈fp,zmr X pins H b)->tn i s.heap->J.stop i H ->
   wpAny (model P w) X.A (pyNext (.ref it)) (fun r s1=>r=none/\Inv X pins σ H s1) E s
 self:∀(A:Around) (i:Nat) (s:Shared) (Q:zVP) (E:zVP),tn i s.heap->Q (.ref it) s->wpAny (model P w) A (pyIter (.ref it)) Q E s
abbrev TI:=St->Hp->(It->Hp->Prop)->Prop
def PIE(X:Cx)(pins:zAO)(σ:St)(tg:Expr)(R:It->Hp->Prop)(itv:Value)(s2:Shared):Prop :=
 ∃(it:Addr) (fp:List Addr) (tn:Nat->Heap->Prop) (J:It) (H':Hp),itv=.ref it/\Inv X pins σ H' s2/\Turn X.prog X.w X.K tg J fp it tn/\tn 0 s2.heap/\(∀b∈fp,zmr X pins H' b)/\R J H'
def PI(X:Cx)(tg iter:Expr)(wi:TI):Prop :=
 ∀(pins:zAO) (s:Shared) (σ:St) (H:Hp) (R:It->Hp->Prop),Inv X pins σ H s->wi σ H R ->
   wpAny (model X.prog X.w) X.A (eval iter X.env) (fun v s1=>wpAny (model X.prog X.w) X.A (pyIter v) (PIE X pins σ tg R) X.xe s1) X.xe s
theorem zvw{M:Model}{A:Around}{E:zVP}{s:Shared}{tg:Expr}{it:Addr}{u:Value}{o:Obj}{n:String}{vs:Array Value}{Q:Unit->Shared->Prop}(ho:s.heap.get? it=some o)(hc:o.cls=.type n)(hd:o.data=.fields vs)
   (hn:["enumerate", "zip", "dict_itemiterator", "dict_reverseitemiterator", "odict_iterator", "itertools.zip_longest", "itertools.pairwise"].contains n=false) (hQ:Q () s):wpAny M A (letOwnedTupleGo tg (.ref it) u) Q E s:=by
 unfold letOwnedTupleGo;cases tg<;>first
   |exact z5n hQ
   | (cases u<;>first
       |exact z5n hQ
       | (refine z43 (wpAny_load ho ?_)
          rw[hc,hd];show wpAny M A (if(["enumerate", "zip", "dict_itemiterator", "dict_reverseitemiterator", "odict_iterator", "itertools.zip_longest", "itertools.pairwise"].contains n&&vs[0]?==some (rawInt _))=true then _ else _) Q E s;rw[z5y (by intro h;rw[hn,qad]at h;cases h)];exact z5n hQ))
def Itl(K:zFr)(a:Addr):It :=
 ⟨fun i H=>∃xs x,SqL K H a xs/\xs[i]? = some x,fun i H x H'=>H'=H/\∀xs,SqL K H a xs->xs[i]? = some x,fun i H=>∃xs,SqL K H a xs/\xs.length<=i⟩
def Itt(K:zFr)(a:Addr):It :=
 ⟨fun i H=>∃xs x,SqT K H a xs/\xs[i]? = some x,fun i H x H'=>H'=H/\∀xs,SqT K H a xs->xs[i]? = some x,fun i H=>∃xs,SqT K H a xs/\xs.length<=i⟩
def Itr(lo:Int)(n:Nat):It:=⟨fun i _=>i<n,fun i H x H'=>H'=H/\x=.int (lo+i),fun i _=>n<=i⟩
theorem zm4{P:Program}{w:World}{K:zFr}{tg:Expr}(a it:Addr):Turn P w K tg (Itl K a) [it] it (fun i h=>h.IsListIter it a i) where
 mem:=by simp
 obj:=fun i h st b hb=>by
   have e:b=it:=by simpa using hb
   subst e;obtain⟨o,e,c,d⟩:=st;exact⟨o,e,fun v z=>by rw[d]at z;cases z⟩
 keep:=fun i h h' st k=>st.at fun o e=>k it (by simp) o e
 item:=by intro X hP hw hK hc i pins s σ H E I hf st hg;subst hP hw hK;obtain⟨xs,x,hq,hx⟩:=hg;obtain⟨its,rv,p,hz⟩:=I.list hq;obtain⟨u,hu,ru⟩:=rv.get hx;obtain⟨f0,f1,f2,f3,f4,f5⟩:=hf it (by simp);refine wpAny_pyNext_list_item st p.isList (x:=u) (by simpa using hu) fun h' st' sb=>?_;have I1:Inv X pins σ H { s with heap:=h' }:=I.turned (t':=s.toks) (fun b o hb e=>(sb.2 b hb).trans e) f0 f1 f3 f4 f5;obtain⟨o,e,c,d⟩:=id st';exact⟨u,rfl,zvw (s:={ s with heap:=h' }) e c d (by decide) ⟨x,H,I1,ru,⟨rfl,fun ys hy=>by rw[I.list_inj hy hq];exact hx⟩,st',fun b hb=>(hf b hb).1⟩⟩
 done:=by intro X hP hw hK hc i pins s σ H E I hf st hg;subst hP hw hK;obtain⟨xs,hq,hx⟩:=hg;obtain⟨its,rv,p,hz⟩:=I.list hq;obtain⟨f0,f1,f2,f3,f4,f5⟩:=hf it (by simp);have hl:=rv.length;exact wpAny_pyNext_list_end (I.ok.hd hc) st p.isList (by simp;omega) fun h' eb=>⟨rfl,I.turned (t':=s.toks) (fun b o hb e=>eb b o hb e) f0 f1 f3 f4 f5⟩
 self:=fun _ _ _ _ _ st h=>wpAny_pyIter_listiter st h
theorem zlh{P:Program}{w:World}{K:zFr}{tg:Expr}(a it:Addr):Turn P w K tg (Itt K a) [it] it (fun i h=>h.IsTupleIter it a i) where
 mem:=by simp
 obj:=fun i h st b hb=>by
   have e:b=it:=by simpa using hb
   subst e;obtain⟨o,e,c,d⟩:=st;exact⟨o,e,fun v z=>by rw[d]at z;cases z⟩
 keep:=fun i h h' st k=>st.at fun o e=>k it (by simp) o e
 item:=by intro X hP hw hK hc i pins s σ H E I hf st hg;subst hP hw hK;obtain⟨xs,x,hq,hx⟩:=hg;obtain⟨its,rv,p,hz⟩:=I.tuple hq;obtain⟨u,hu,ru⟩:=rv.get hx;obtain⟨f0,f1,f2,f3,f4,f5⟩:=hf it (by simp);refine wpAny_pyNext_tuple_item st (show s.heap.IsTuple a its.toArray from p) (x:=u) (by simpa using hu) fun h' st' sb=>?_;have I1:Inv X pins σ H { s with heap:=h' }:=I.turned (t':=s.toks) (fun b o hb e=>(sb.2 b hb).trans e) f0 f1 f3 f4 f5;obtain⟨o,e,c,d⟩:=id st';exact⟨u,rfl,zvw (s:={ s with heap:=h' }) e c d (by decide) ⟨x,H,I1,ru,⟨rfl,fun ys hy=>by rw[I.tuple_inj hy hq];exact hx⟩,st',fun b hb=>(hf b hb).1⟩⟩
 done:=by intro X hP hw hK hc i pins s σ H E I hf st hg;subst hP hw hK;obtain⟨xs,hq,hx⟩:=hg;obtain⟨its,rv,p,hz⟩:=I.tuple hq;obtain⟨f0,f1,f2,f3,f4,f5⟩:=hf it (by simp);have hl:=rv.length;exact wpAny_pyNext_tuple_end (I.ok.hd hc) st (show s.heap.IsTuple a its.toArray from p) (by simp;omega) fun h' eb=>⟨rfl,I.turned (t':=s.toks) (fun b o hb e=>eb b o hb e) f0 f1 f3 f4 f5⟩
 self:=fun _ _ _ _ _ st h=>wpAny_pyIter_tupleiter st h
theorem zli{P:Program}{w:World}{K:zFr}{tg:Expr}(it:Addr)(lo:Int)(n:Nat):Turn P w K tg (Itr lo n) [it] it (fun i h=>IsRangeIter h it (lo+(i:Nat)*1) ((n:Int)-(i:Nat)) 1) where
 mem:=by simp
 obj:=fun i h st b hb=>by
   have e:b=it:=by simpa using hb
   subst e;exact⟨_,st,fun v z=>by
     have z':Data.fields _=Data.cell v:=z;cases z'⟩
 keep:=fun i h h' st k=>k it (by simp) _ st
 item:=by intro X hP hw hK hc i pins s σ H E I hf st hg;subst hP hw hK;obtain⟨f0,f1,f2,f3,f4,f5⟩:=hf it (by simp);have W:=Walks.range (prog:=X.prog) (w:=X.w) (I.ok.hd hc) it lo 1 n;refine W.item i s _ _ hg st fun v h' tk hv st' kk=>?_;obtain⟨t,rfl⟩:=hv;have I1:Inv X pins σ H { s with heap:=h',toks:=tk }:=I.turned (fun b o hb e=>kk b o (by simpa using hb) e) f0 f1 f3 f4 f5;refine⟨_,rfl,zvw (s:={ s with heap:=h',toks:=tk }) (n:="range_iterator") st' rfl rfl (by decide) ⟨.int (lo+i),H,I1,⟨t,?_⟩,⟨rfl,rfl⟩,st',fun b hb=>(hf b hb).1⟩⟩;rw[Int.mul_one]
 done:=by intro X hP hw hK hc i pins s σ H E I hf st hg;subst hP hw hK;obtain⟨f0,f1,f2,f3,f4,f5⟩:=hf it (by simp);exact wpAny_pyNext_range_end (I.ok.hd hc) st (by have:n<=i:=hg;omega) fun h' eb=>⟨rfl,I.turned (t':=s.toks) (fun b o hb e=>eb b o hb e) f0 f1 f3 f4 f5⟩
 self:=fun _ _ _ _ _ st h=>wpAny_pyIter_rangeiter st h
section
variable {X:Cx}{tg:Expr}
def z2m(K:zFr)(tl:TE):TI:=fun σ H R=>tl σ H fun x H1=>∃a,x=.ref a/\(∃xs,SqL K H1 a xs)/\R (Itl K a) H1
def z4n(K:zFr)(tl:TE):TI:=fun σ H R=>tl σ H fun x H1=>∃a,x=.ref a/\(∃xs,SqT K H1 a xs)/\R (Itt K a) H1
theorem zir{l:Expr}{tl:TE}(hl:PE X l tl):PI X tg l (z2m X.K tl):=by
 intro pins s σ H R I h;refine thn (hl pins s σ H _ I h) fun v s1 ⟨x,H1,I1,r1,q1⟩=>?_;obtain⟨a,e,⟨xs,hq⟩,q⟩:=q1;subst e;cases r1;obtain⟨its,rv,p,hz⟩:=I1.list hq;refine wpAny_pyIter_list p.isList ?_;refine⟨s1.heap.objs.size,[s1.heap.objs.size],_,_,H1,rfl,I1.kept (t':=s1.toks) fun b o e=>z48 _ e,zm4 a _,⟨_,z53 _ rfl,rfl,rfl⟩,fun b hb=>?_,q⟩;have e:b=s1.heap.objs.size:=by simpa using hb
 subst e;exact I1.fpOk (z44 _) (I1.hok.fresh (z44 _))
theorem zyc{l:Expr}{tl:TE}(hl:PE X l tl):PI X tg l (z4n X.K tl):=by
 intro pins s σ H R I h;refine thn (hl pins s σ H _ I h) fun v s1 ⟨x,H1,I1,r1,q1⟩=>?_;obtain⟨a,e,⟨xs,hq⟩,q⟩:=q1;subst e;cases r1;obtain⟨its,rv,p,hz⟩:=I1.tuple hq;refine wpAny_pyIter_tuple (show s1.heap.IsTuple a its.toArray from p) ?_;refine⟨s1.heap.objs.size,[s1.heap.objs.size],_,_,H1,rfl,I1.kept (t':=s1.toks) fun b o e=>z48 _ e,zlh a _,⟨_,z53 _ rfl,rfl,rfl⟩,fun b hb=>?_,q⟩;have e:b=s1.heap.objs.size:=by simpa using hb
 subst e;exact I1.fpOk (z44 _) (I1.hok.fresh (z44 _))
theorem zqx{pins:zAO}{σ:St}{H:Hp}{s:Shared}{R:It->Hp->Prop}{E:zVP}{lo hi:Int}{t u v:Tok}{tk:Nat}(I:Inv X pins σ H s)(h1:-(2^62)<=lo)(h2:lo<2^62)(h3:-(2^62)<=hi)(h4:hi<2^62)
   (q:R (Itr lo (hi-lo).toNat) H):wpAny (model X.prog X.w) X.A (pyIter (.ref s.heap.objs.size)) (PIE X pins σ tg R) E { s with heap:=s.heap.push { cls:=.type "range",data:=.fields #[.int lo t,.int hi u,.int 1 v] },toks:=tk }:=by
 refine wpAny_pyIter_range (IsRange.new ..) (small_one h1 h2 h3 h4) ?_;have I1:Inv X pins σ H { s with heap:=s.heap.push { cls:=.type "range",data:=.fields #[.int lo t,.int hi u,.int 1 v] },toks:=tk }:=I.kept fun b o e=>z48 _ e;refine⟨(s.heap.push { cls:=.type "range",data:=.fields #[.int lo t,.int hi u,.int 1 v] }).objs.size,[(s.heap.push { cls:=.type "range",data:=.fields #[.int lo t,.int hi u,.int 1 v] }).objs.size],_,_,H,rfl,
   I1.kept (t':=tk) fun b o e=>z48 _ e,zli _ lo (hi-lo).toNat,?_,fun b hb=>?_,q⟩
 · have e1:lo+((0:Nat):Int)*1=lo:=by simp
   have e2:(((hi-lo).toNat:Nat):Int)-((0:Nat):Int)=Builtin.Range.rangeSize lo hi 1:=by rw[rangeSize_one];split<;>omega
   show IsRangeIter _ _ (lo+((0:Nat):Int)*1) ((((hi-lo).toNat:Nat):Int)-((0:Nat):Int)) 1;rw[e1,e2];exact z53 _ rfl
 · have e:b=(s.heap.push { cls:=.type "range",data:=.fields #[.int lo t,.int hi u,.int 1 v] }).objs.size:=by simpa using hb
   subst e;exact I1.fpOk (z44 _) (I1.hok.fresh (z44 _))
def z2l(ta:TA):TI:=fun σ H R=>ta σ H fun vs H1=>∃j:Int,vs=[.int j]/\-(2^62)<=j/\j<2^62/\R (Itr 0 j.toNat) H1
theorem zny{a:Expr}{ta:TA}{p pos:Pos}(hg:Gl X "range")(hm:X.mg "range"=none)(ha:PA X [a] ta)(hs:starEach [a] X.env=[(false,eval a X.env)]:=by rfl):PI X tg (.Call (.Name "range" p) [a] [] pos) (z2l ta):=by
 intro pins s σ H R I h;refine Call_ (zdy I hg hm boot_range (z7u (thn (ha pos pins s σ H _ I h) fun us s1 ⟨vs,H1,I1,r1,q1⟩=>?_) hs rfl));obtain⟨j,e,q1,q2,q⟩:=q1;subst e;cases r1 with
 | cons r rr=>
   cases rr;obtain⟨t,rfl⟩:=r;exact call_range_1 (zqx I1 (by omega) (by omega) q1 q2 (by simpa using q))
def z38(wi:TI)(g:TG)(tb:TS):TS:=fun D σ H=>wi σ H fun J H1=>∃W:Nat->Nat->St->Hp->Prop,(∃m,W 0 m σ H1)/\∀i m σ H,W i m σ H ->
 (J.stop i H/\D.nx σ H)\/(J.go i H/\∃N:St->Hp->Prop,(∀σ' H',N σ' H'->∃m',m'<m/\W (i+1) m' σ' H')/\∀x H',J.yld i H x H'->g x σ H' fun σ2 H2=>tb { D with nx:=N,ct:=N,bk:=D.nx } σ2 H2)
def zkb(fp:List Addr)(h:Heap):zAO:=fp.filterMap fun b=>(h.get? b).map fun o=>(b,o)
theorem kl{fp:List Addr}{h:Heap}{b:Addr}{o:Obj}(hb:b∈fp)(e:h.get? b=some o):(b,o)∈zkb fp h:=List.mem_filterMap.mpr ⟨b,hb,by rw[e];rfl⟩
theorem zn5{fp:List Addr}{h:Heap}{p:Addr×Obj}(hp:p∈zkb fp h):p.1∈fp/\h.get? p.1=some p.2:=by
 obtain⟨b,hb,e⟩:=List.mem_filterMap.mp hp;cases q:h.get? b with
 |none=>rw[q]at e;cases e
 | some o=>
   rw[q]at e;have e':(b,o)=p:=z58 e;subst e';exact⟨hb,q⟩
theorem Inv.pinned{pins:zAO}{σ:St}{H:Hp}{s:Shared}{fp:List Addr}(I:Inv X pins σ H s)(hf:∀b∈fp,zmr X pins H b)(ho:∀b∈fp,∃o,s.heap.get? b=some o/\∀v,o.data≠.cell v):Inv X (pins++zkb fp s.heap) σ H s :=
 I.pins_of fun p hp=>(z5x.mp hp).elim (fun z=>I.pin p (z5c _ z)) fun z=>by obtain⟨hb,e⟩:=zn5 z;obtain⟨f0,f1,f2,_⟩:=hf p.1 hb;obtain⟨o,e',d⟩:=ho p.1 hb;rw[e]at e';cases e';exact⟨e,f0,f1,f2,d⟩
theorem Inv.unpinned{pins pl:zAO}{σ:St}{H:Hp}{s:Shared}(I:Inv X (pins++pl) σ H s):Inv X pins σ H s:=I.pins_of fun p hp=>I.pin p (z5c _ (z6k _ hp))
theorem zs4{iter:Expr}{body:List Stmt}{wi:TI}{g:TG}{tb:TS}{pos:Pos}(hp:PassesOwn (model X.prog X.w) X.A X.env X.xe)(hc:X.calm=true)(hi:PI X tg iter wi)(hg:PG X tg g)(hb:PSs X body tb)
   (hs:∀x,foldedSetIterable iter X.env x=pure x:=by intro _;rfl):PS X (.For tg iter body [] pos) (z38 wi g tb):=by
 intro pins s σ H D I h;refine wpAny_For (thn (hi pins s σ H _ I h) fun v s1 h1=>thn h1 fun itv s2 h2=>?_) hs;obtain⟨it,fp,tn,J,H2,e,I2,T,st2,f2,W,⟨m0,w0⟩,turn⟩:=h2;subst e;have stat:∀{H':Hp},(∀b∈fp,H' b=none)->∀b∈fp,zmr X pins H' b:=fun hn b hb=>⟨hn b hb,(f2 b hb).2⟩
 refine codeAny_forLoop_any (fun n s'=>∃i σ' H',Inv X pins σ' H' s'/\tn i s'.heap/\(∀b∈fp,H' b=none)/\W i n σ' H') ?_ m0 ⟨0,σ,H2,I2,st2,fun b hb=>(f2 b hb).1,w0⟩;rintro n s3 ⟨i,σ3,H3,I3,st3,fr3,w3⟩;rcases turn i n σ3 H3 w3 with⟨stop,qn⟩ | ⟨go,N,hN,step⟩
 · refine z9b hp (thn (T.done X rfl rfl rfl hc i pins s3 σ3 H3 X.xe I3 (stat fr3) st3 stop) fun r s4 ⟨hr,I4⟩=>?_);subst hr;exact z9y ⟨σ3,H3,I4,qn⟩
 · refine z9b hp (thn (T.item X rfl rfl rfl hc i pins s3 σ3 H3 X.xe I3 (stat fr3) st3 go) fun r s4 ⟨u,hr,h4⟩=>?_);subst hr;refine z9b hp (thn h4 fun _ s5 ⟨x,H5,I5,r5,y5,st5,fr5⟩=>?_);have I5':=I5.pinned (stat fr5) (T.obj _ _ st5);refine z9b hp (thn (hg _ s5 σ3 H5 x u _ I5' r5 (step x H5 y5)) fun _ s6 ⟨σ6,H6,I6,q6⟩=>?_);refine z9b hp (thn (hb _ s6 σ6 H6 _ I6 q6) fun f s7 q7=>?_);have again:∀{σ7:St}{H7:Hp},Inv X (pins++zkb fp s5.heap) σ7 H7 s7->N σ7 H7->∃m,m<n/\∃i σ' H',Inv X pins σ' H' s7/\tn i s7.heap/\(∀b∈fp,H' b=none)/\W i m σ' H':=fun {σ7 H7} I7 n7=>by obtain⟨m',hm,w7⟩:=hN σ7 H7 n7;refine⟨m',hm,i+1,σ7,H7,I7.unpinned,T.keep _ _ _ st5 fun b hb o e=>(I7.pin (b,o) (z5c _ (z5c _ (kl hb e)))).1,fun b hb=>?_,w7⟩;obtain⟨o,e,d⟩:=T.obj _ _ st5 b hb;exact(I7.pin (b,o) (z5c _ (z5c _ (kl hb e)))).2.1
   cases f with
   |next=>obtain⟨σ7,H7,I7,n7⟩:=q7;exact again I7 n7
   |cont=>obtain⟨σ7,H7,I7,n7⟩:=q7;exact again I7 n7
   |brk=>obtain⟨σ7,H7,I7,q7⟩:=q7;exact⟨σ7,H7,I7.unpinned,q7⟩
   |ret v=>obtain⟨x7,σ7,H7,I7,r7,q7⟩:=q7;exact⟨x7,σ7,H7,I7.unpinned,r7,q7⟩
end
theorem zoy{lo:Int}{n:Nat}{g:TG}{tb:TS}{D:Ends}{σ:St}{H:Hp}(Pv:Nat->St->Hp->Prop)(h0:Pv 0 σ H)
   (hs:∀i σ H,i<n->Pv i σ H->g (.int (lo+i)) σ H fun σ2 H2=>tb { D with nx:=Pv (i+1),ct:=Pv (i+1),bk:=D.nx } σ2 H2) (hd:∀σ H,Pv n σ H->D.nx σ H) :
   ∃W:Nat->Nat->St->Hp->Prop,(∃m,W 0 m σ H)/\∀i m σ H,W i m σ H ->
     ((Itr lo n).stop i H/\D.nx σ H)\/((Itr lo n).go i H/\∃N:St->Hp->Prop,(∀σ' H',N σ' H'->∃m',m'<m/\W (i+1) m' σ' H')/\∀x H',(Itr lo n).yld i H x H'->g x σ H' fun σ2 H2=>tb { D with nx:=N,ct:=N,bk:=D.nx } σ2 H2):=by
 refine⟨fun i m σ H=>m=n-i/\i<=n/\Pv i σ H,⟨n,by simp,z54 _,h0⟩,?_⟩;rintro i m σ H ⟨rfl,hi,p⟩;by_cases hlt:i<n
 · refine .inr ⟨hlt,Pv (i+1),fun σ' H' p'=>⟨n-(i+1),by omega,rfl,hlt,p'⟩,fun x H' y=>?_⟩;obtain⟨e,y⟩:=y;subst e y;exact hs i σ _ hlt p
 · have e:i=n:=by omega
   subst e;exact .inl ⟨z44 _,hd σ H p⟩
abbrev R2:=V->V->Hp->VK->Prop
def OpR(X:Cx)(f:Value->Value->Sem Value)(r:R2):Prop :=
 ∀(pins:zAO) (s:Shared) (σ:St) (H:Hp) (x y:V) (v u:Value) (Q:VK),Inv X pins σ H s->RelV x v->RelV y u->r x y H Q ->
   wpAny (model X.prog X.w) X.A (f v u) (EP X pins σ Q) X.xe s
def CallR(X:Cx)(f:Value)(r:List V->Hp->VK->Prop):Prop :=
 ∀(pins:zAO) (s:Shared) (σ:St) (H:Hp) (xs:List V) (us:List Value) (Q:VK),Inv X pins σ H s->Vals xs us->r xs H Q ->
   wpAny (model X.prog X.w) X.A (call f us) (EP X pins σ Q) X.xe s
def tOp(r:R2)(ta tb:TE):TE:=fun σ H Q=>ta σ H fun x H1=>tb σ H1 fun y H2=>r x y H2 Q
def rI(C:Int->Int->Prop)(g:Int->Int->V):R2:=fun x y H Q=>∃i j,x=.int i/\y=.int j/\C i j/\Q (g i j) H
def rI0(g:Int->Int->V):R2:=fun x y H Q=>∃i j,x=.int i/\y=.int j/\Q (g i j) H
section
variable {X:Cx}{a b c:Expr}{ta tb tc:TE}{pos:Pos}
theorem z21(ha:PE X a ta)(hb:PE X b tb){pins:zAO}{s:Shared}{σ:St}{H:Hp}{R:V->V->Hp->Prop}(I:Inv X pins σ H s)
   (h:ta σ H fun x H1=>tb σ H1 fun y H2=>R x y H2) {Q:zVP}{f:Value->Value->Sem Value}
   (hf:∀v u s2 x y H2,Inv X pins σ H2 s2->RelV x v->RelV y u->R x y H2->wpAny (model X.prog X.w) X.A (f v u) Q X.xe s2) :
   wpAny (model X.prog X.w) X.A (eval a X.env) (fun v s₁=>wpAny (model X.prog X.w) X.A (eval b X.env) (fun u s₂=>wpAny (model X.prog X.w) X.A (f v u) Q X.xe s₂) X.xe s₁) X.xe s:=by
 refine thn (ha pins s σ H _ I h) fun v s1 ⟨x,H1,I1,r1,q1⟩=>?_;refine thn (hb pins s1 σ H1 _ I1 q1) fun u s2 ⟨y,H2,I2,r2,q2⟩=>?_;exact hf v u s2 x y H2 I2 r1 r2 q2
theorem z14{op:Operator}{r:R2}(ho:OpR X (binaryOp op) r)(ha:PE X a ta)(hb:PE X b tb):PE X (.BinOp a op b pos) (tOp r ta tb):=by intro pins s σ H Q I h;exact wpAny_BinOp (z21 ha hb I h fun v u s2 x y H2 I2 rx ry q=>ho pins s2 σ H2 x y v u Q I2 rx ry q)
theorem opI{f:Value->Value->Sem Value}{C:Int->Int->Prop}{g:Int->Int->Int}
   (rule:∀(i j:Int) (t u:Tok) (s:Shared) (Q:zVP) (E:zVP),C i j->Q (.int (g i j) s.toks) { s with toks:=s.toks+1 }->wpAny (model X.prog X.w) X.A (f (.int i t) (.int j u)) Q E s) :
   OpR X f (rI C fun i j=>.int (g i j)):=by
 intro pins s σ H x y v u Q I rx ry h;obtain⟨i,j,rfl,rfl,hc,q⟩:=h;obtain⟨t,rfl⟩:=rx;obtain⟨t',rfl⟩:=ry;exact rule i j t t' s _ _ hc ⟨.int (g i j),H,I.tok _,⟨_,rfl⟩,q⟩
theorem z3k{f:Value->Value->Sem Value}{g:Int->Int->Int}
   (rule:∀(i j:Int) (t u:Tok) (s:Shared) (Q:zVP) (E:zVP),Q (.int (g i j) s.toks) { s with toks:=s.toks+1 }->wpAny (model X.prog X.w) X.A (f (.int i t) (.int j u)) Q E s) :
   OpR X f (rI0 fun i j=>.int (g i j)):=by
 intro pins s σ H x y v u Q I rx ry h;obtain⟨i,j,rfl,rfl,q⟩:=h;obtain⟨t,rfl⟩:=rx;obtain⟨t',rfl⟩:=ry;exact rule i j t t' s _ _ ⟨.int (g i j),H,I.tok _,⟨_,rfl⟩,q⟩
theorem z0x{f:Value->Value->Sem Value}{g:Int->Int->Bool}
   (rule:∀(i j:Int) (t u:Tok) (s:Shared) (Q:zVP) (E:zVP),Q (.bool (g i j)) s->wpAny (model X.prog X.w) X.A (f (.int i t) (.int j u)) Q E s) :
   OpR X f (rI0 fun i j=>.bl (g i j)):=by
 intro pins s σ H x y v u Q I rx ry h;obtain⟨i,j,rfl,rfl,q⟩:=h;obtain⟨t,rfl⟩:=rx;obtain⟨t',rfl⟩:=ry;exact rule i j t t' s _ _ ⟨.bl (g i j),H,I,rfl,q⟩
def z40(i j:Int):Prop:=0<j/\j<1073741824
def z4z(i j:Int):Prop:=0<=j/\j<=1000000/\i.natAbs<2^64
def CMul(i j:Int):Prop:=(-(2^64)<i/\i<2^64)\/(-(2^64)<j/\j<2^64)
theorem CMul.ok{i j:Int}(h:CMul i j):IntMulOk i j:=by
 rcases h with⟨h1,h2⟩ | ⟨h1,h2⟩
 · exact .of_left (intBits_le_64 h1 h2)
 · exact .of_right (intBits_le_64 h1 h2)
theorem op_add:OpR X (binaryOp .Add) (rI0 fun i j=>.int (i+j)):=z3k fun _ _ _ _ _ _ _ q=>add_int q
theorem zyo:OpR X (binaryOp .Sub) (rI0 fun i j=>.int (i-j)):=z3k fun _ _ _ _ _ _ _ q=>sub_int q
theorem zve:OpR X (binaryOp .FloorDiv) (rI z40 fun i j=>.int (i/j)):=opI fun i j _ _ _ _ _ hc q=>by have h1:(0:Int)<j:=hc.1;have h2:j<1073741824:=hc.2;exact floordiv_int (by omega) (by rw[Int.fdiv_eq_ediv_of_nonneg i (by omega)];exact q) (.inl (PyProof.noPylong_small (by omega)))
theorem zyr:OpR X (binaryOp .Mod) (rI (fun _ j=>0<j) fun i j=>.int (i%j)):=opI fun i j _ _ _ _ _ hc q=>by have h1:(0:Int)<j:=hc;exact mod_int' (by omega) (by rw[Int.fmod_eq_emod_of_nonneg i (by omega)];exact q)
theorem zyp:OpR X (binaryOp .Pow) (rI z4z fun i j=>.int (i^j.toNat)):=opI fun _ _ _ _ _ _ _ hc q=>pow_int_small hc.1 hc.2.1 hc.2.2 q
end
section
variable {X:Cx}{a b c:Expr}{ta tb tc:TE}{pos:Pos}
theorem zo3{pins:zAO}{σ:St}{H:Hp}{s:Shared}{Q:VK}{k k':Bool}(I:Inv X pins σ H s)(q:Q (.bl k) H)(e:k=k'):EP X pins σ Q (.bool k') s:=by subst e;exact⟨.bl k,H,I,rfl,q⟩
theorem zq5:OpR X (compareOp .Lt) (rI0 fun i j=>.bl (decide (i<j))):=z0x fun _ _ _ _ _ _ _ q=>lt_int q
theorem zlw:OpR X (compareOp .LtE) (rI0 fun i j=>.bl (decide (i<=j))):=z0x fun _ _ _ _ _ _ _ q=>le_int q
theorem z19:OpR X (compareOp .Gt) (rI0 fun i j=>.bl (decide (j<i))):=z0x fun _ _ _ _ _ _ _ q=>gt_int q
theorem z2a:OpR X (compareOp .GtE) (rI0 fun i j=>.bl (decide (j<=i))):=z0x fun _ _ _ _ _ _ _ q=>ge_int q
theorem zn2:OpR X (compareOp .Lt) (fun x y H Q=>∃i j,x=.str i/\y=.str j/\Q (.bl (decide (i.cps.toList<j.cps.toList))) H):=by intro pins s σ H x y v u Q I rx ry h;obtain⟨i,j,rfl,rfl,q⟩:=h;obtain⟨t,rfl⟩:=rx;obtain⟨t',rfl⟩:=ry;exact lt_str (zo3 I q rfl)
theorem op_isN:OpR X (compareOp .Is) (fun x y H Q=>y=.non/\Q (.bl (decide (x=.non))) H):=by
 intro pins s σ H x y v u Q I rx ry h;obtain⟨rfl,q⟩:=h;cases ry;refine is_none_gen (zo3 I q ?_);cases x<;>first
   | (cases rx;rfl)
   | (obtain⟨t,rfl⟩:=rx;rfl)
theorem op_notN:OpR X (compareOp .IsNot) (fun x y H Q=>y=.non/\Q (.bl (!decide (x=.non))) H):=by
 intro pins s σ H x y v u Q I rx ry h;obtain⟨rfl,q⟩:=h;cases ry;refine isnot_none_gen (zo3 I q ?_);cases x<;>first
   | (cases rx;rfl)
   | (obtain⟨t,rfl⟩:=rx;rfl)
theorem OpR.or{f:Value->Value->Sem Value}{r r':R2}(h:OpR X f r)(h':OpR X f r'):OpR X f (fun x y H Q=>r x y H Q\/r' x y H Q):=by
 intro pins s σ H x y v u Q I rx ry q;rcases q with q | q
 · exact h pins s σ H x y v u Q I rx ry q
 · exact h' pins s σ H x y v u Q I rx ry q
theorem zam(b:Expr){op:CmpOp}(h:op≠.In:=by decide)(h2:op≠.NotIn:=by decide):behindInMarks op b=false:=by
 have e1:(op==CmpOp.In)=false:=by cases op<;>first | rfl | exact absurd rfl h
 have e2:(op==CmpOp.NotIn)=false:=by cases op<;>first | rfl | exact absurd rfl h2
 cases b<;>simp[behindInMarks,e1,e2]
theorem zva{op:CmpOp}{r:R2}(ho:OpR X (compareOp op) r)(ha:PE X a ta)(hb:PE X b tb)(hm:behindInMarks op b=false):PE X (.Compare a [op] [b] pos) (tOp r ta tb):=by intro pins s σ H Q I h;exact wpAny_Compare1 (z21 ha hb I h fun v u s2 x y H2 I2 rx ry q=>ho pins s2 σ H2 x y v u Q I2 rx ry q) hm
def zqc(t:TE):TT:=fun σ H Q=>t σ H fun x H'=>∃k,x=.bl k/\Q k H'
theorem zu1{op:CmpOp}{r:R2}(ho:OpR X (compareOp op) r)(ha:PE X a ta)(hb:PE X b tb)(hm:behindInMarks op b=false):PT X (.Compare a [op] [b] pos) (zqc (tOp r ta tb)):=by
 intro pins s σ H Q I h;refine wpAny_isTrue_Compare1 (thn (ha pins s σ H _ I h) fun v s1 ⟨x,H1,I1,r1,q1⟩=>thn (hb pins s1 σ H1 _ I1 q1) fun u s2 ⟨y,H2,I2,r2,q2⟩=>
   thn (ho pins s2 σ H2 x y v u _ I2 r1 r2 q2) fun c s3 ⟨z,H3,I3,r3,k,e,q3⟩=>?_) hm
 subst e;cases r3;exact z6r ⟨H3,I3,q3⟩
def zsq(r r':R2)(ta tb tc:TE):TE:=fun σ H Q=>ta σ H fun x H1=>tb σ H1 fun y H2=>r x y H2 fun z H3=>∃k,z=.bl k /\
 (if k=true then tc σ H3 fun w' H4=>r' y w' H4 Q else Q (.bl false) H3)
theorem zqy{op op':CmpOp}{r r':R2}(ho:OpR X (compareOp op) r)(ho':OpR X (compareOp op') r')(ha:PE X a ta)(hb:PE X b tb)(hc:PE X c tc)
   (hm:lastMarks [op,op'] [b,c]=false:=by with_unfolding_all rfl):PT X (.Compare a [op,op'] [b,c] pos) (zqc (zsq r r' ta tb tc)):=by
 intro pins s σ H Q I h;refine isTrue_chain (thn (ha pins s σ H _ I h) fun v s1 ⟨x,H1,I1,r1,q1⟩=>test_link (thn (hb pins s1 σ H1 _ I1 q1) fun u s2 ⟨y,H2,I2,r2,q2⟩=>
   thn (ho pins s2 σ H2 x y v u _ I2 r1 r2 q2) fun d s3 ⟨z,H3,I3,r3,k,e,q3⟩=>?_)) hm
 subst e;cases r3;refine z6r ?_;cases k with
 | false=>
   obtain⟨k',e',q'⟩:=q3;cases e';exact ite_ff ⟨H3,I3,q'⟩
 | true=>
   refine ite_tt (test_last (thn (hc pins s3 σ H3 _ I3 q3) fun w' s4 ⟨z',H4,I4,r4,q4⟩=>thn (ho' pins s4 σ H4 y z' u w' _ I4 r2 r4 q4) fun d' s5 ⟨z2,H5,I5,r5,k2,e2,q5⟩=>?_));subst e2;cases r5;exact z6r ⟨H5,I5,q5⟩
theorem zhe:(sizeLine:Nat)<2^63:=by rw[z60];decide
theorem op_add_str:OpR X (binaryOp .Add) (fun x y H Q=>∃i j,x=.str i/\y=.str j/\i.length+j.length<=sizeLine/\Q (.str (i++j)) H):=by intro pins s σ H x y v u Q I rx ry h;obtain⟨i,j,rfl,rfl,hz,q⟩:=h;obtain⟨t,rfl⟩:=rx;obtain⟨t',rfl⟩:=ry;exact add_str (fun t' tk=>⟨.str (i++j),H,I.tok _,⟨_,rfl⟩,q⟩) hz
theorem zp9{x:V}{us:List Value}(r:Vals [x] us):∃u,us=[u]/\RelV x u:=by
 cases r with
 |cons r1 r2=>cases r2;exact⟨_,rfl,r1⟩
theorem z1j{x y:V}{us:List Value}(r:Vals [x,y] us):∃u w',us=[u,w']/\RelV x u/\RelV y w':=by
 cases r with
 | cons r1 r2=>
   cases r2 with
   |cons r3 r4=>cases r4;exact⟨_,_,rfl,r1,r3⟩
theorem zr5:CallR X (.builtin "abs") (fun xs H Q=>∃i,xs=[.int i]/\Q (.int (if i<0 then -i else i)) H):=by intro pins s σ H xs us Q I r h;obtain⟨i,rfl,q⟩:=h;obtain⟨u,rfl,t,rfl⟩:=zp9 r;exact call_abs_int fun u tk=>⟨.int (if i<0 then -i else i),H,I.tok _,⟨_,rfl⟩,q⟩
theorem zps(hc:X.calm=true):CallR X (.builtin "max") (fun xs H Q=>∃i j,xs=[.int i,.int j]/\Q (.int (if j>i then j else i)) H):=by
 intro pins s σ H xs us Q I r h;obtain⟨i,j,rfl,q⟩:=h;obtain⟨u,w',rfl,⟨t,rfl⟩,⟨t',rfl⟩⟩:=z1j r;refine max_two_ints (I.ok.hd hc) fun h' tk k=>⟨_,H,I.kept k,?_,q⟩
 by_cases hj:j>i
 · rw[z5s hj,z5s hj];exact⟨_,rfl⟩
 · rw[z5y hj,z5y hj];exact⟨_,rfl⟩
end
structure ObjM (h:Heap) (x dx C:Addr) (mA:zMg):Prop where
 obj:h.get? x=some (PySem.W.instObj C dx)
 ns:h.Ns1 dx mA
 ne:dx≠x
theorem zof{h:Heap}{dx:Addr}{mA:zMg}(n:h.Ns1 dx mA):∃od,h.get? dx=some od/\∀name,PySem.W.lookIn name od=some (mA name):=by
 obtain⟨o,es,ep,ho,hd,hk,_,hm⟩:=n;refine⟨o,ho,fun name=>?_⟩;have e:=hm name;unfold nsFind findBy at e;rw[<-Array.find?_toList]at e;unfold PySem.W.lookIn;rw[hd];dsimp only;split
 · rename_i y q;rw[q]at e;exact z7a some e
 · rename_i q;rw[q]at e;have a:es.toList.any (·.refKey)=false:=by rw[List.any_eq_false];intro y hy;obtain⟨z,t,hkey⟩:=hk y (Array.mem_toList_iff.mp hy);simp[DictEntry.refKey,hkey]
   have a':¬ es.toList.any (·.refKey)=true:=by rw[a];exact z6m
   rw[z5y a'];exact z7a some e
theorem ObjM.look{h:Heap}{x dx C:Addr}{mA:zMg}(I:ObjM h x dx C mA):∃od,PySem.W.InstAt h x (PySem.W.instObj C dx) C (some od)/\∀name,PySem.W.lookIn name od=some (mA name) :=
 let⟨od,ho,hl⟩:=zof I.ns
 ⟨od,⟨I.obj,rfl,rfl,ho⟩,hl⟩
section
variable {prog:Program}{w:World}{A:Around}{E:zVP}{s:Shared}{K:zFr}{x dx C f:Addr}{mA:zMg}{name:Str}{v:Value}
theorem zvx{expr:Bool}{Q:zVP}(X:K.In s.heap)(I:ObjM s.heap x dx C mA)(hg:PySem.W.plainGet K C name=true)(hh:PySem.W.hasDictIn K C=true)
   (ha:PySem.W.findIn K (.ref C) name=some none) (hv:mA name=some v) (hv':PySem.W.handedIn v=true) (h:Q v { s with toks:=s.toks+1 }) :
   wpAny (model prog w) A (getAttr (.ref x) name expr) Q E s:=by
 obtain⟨od,J,hl⟩:=I.look;exact PySem.W.get_value X J (z9z hg).1 (PySem.W.findObj_own hh ha rfl (by rw[hl,hv])) hv' h
theorem zrg{pl:Sem Bool}{Q:Value×List Value->Shared->Prop}(X:K.In s.heap)(I:ObjM s.heap x dx C mA)(hg:PySem.W.plainGet K C name=true)
   (hf:PySem.W.findIn K (.ref C) name=some (some (.ref f))) (ht:PySem.W.isFn K (.ref f)=true) (hv:mA name=none) (h:Q (.ref f,[.ref x]) s) :
   wpAny (model prog w) A (getMethod (.ref x) name pl) Q E s:=by
 obtain⟨od,J,hl⟩:=I.look;exact PySem.W.method_fn X J (z9z hg).1 (z9z hg).2 hf (z71.mp ht) (by show(PySem.W.lookIn name od).map (·.isSome)=some false;rw[hl,hv];rfl) h
theorem zuu{ns:List Str}{Q:Unit->Shared->Prop}(X:K.In s.heap)(I:ObjM s.heap x dx C mA)
   (hs:PySem.W.findIn K (.ref C) "__setattr__"=some (some (.builtin "object.__setattr__"))) (hp:PySem.W.plainOver K C=true) (ht:PySem.W.takerIn K C name=some none) (hh:PySem.W.hasDictIn K C=true)
   (hw:PySem.Within mA ns) (hsz:ns.length<=sizeLine)
   (h:∀h',ObjM h' x dx C (fun y=>if y=name then some v else mA y)->Heap.SameBut dx s.heap h'->Q () { s with heap:=h',toks:=s.toks+2 }) :
   wpAny (model prog w) A (setAttr (.ref x) name v) Q E s:=by
 obtain⟨od,J,hl⟩:=I.look;refine PySem.W.set_plain X J hs (PySem.W.osa_open (s:={ s with toks:=s.toks+1 }) (r:=none) X J hp ht fun b=>?_);obtain⟨cd,hc,hd'⟩:=PySem.W.any_some hh;have hx:s.heap.get? x=some ⟨.ref C,some dx,.plain,#[]⟩:=I.obj;refine z43 (z5n (z43 (z43 (qae hx (z43 (PySem.W.Looks.here (s:={ s with toks:=s.toks+1 }) (PySem.W.looks_clsIn X hc) ?_))))));rw[hd'];refine z5n (a:=some dx) (z43 (z5n (z43 ?_)));refine wpAny_nsSet1 (s:={ s with toks:=s.toks+1 }) I.ns fun h' hn2 hs2=>?_;obtain⟨oD,esD,epD,hoD,hdD,hcD⟩:=hn2.count (PySem.Within.cons name v hw);refine z43 (wpAny_lookBehind hoD (by rw[hdD];exact pastItsLine_dict (z5u hcD (by rw[List.length_cons];omega))) ?_);exact z5n (h _ ⟨(hs2.2 _ (z7q I.ne)).trans I.obj,hn2,I.ne⟩ hs2)
theorem zq9{R:Result->Shared->Prop}{vs:List Value}{kw:List (Str×Value)}(X:K.In s.heap)(hm:PySem.W.makesIn K C=true)
   (hi:PySem.W.findIn K (.ref C) "__init__"=some (some (.ref f))) (hf:PySem.W.typeIn K (.ref f)=some (.type "function"))
   (h:codeAny (model prog w) (A.under (.builtin "type.__call__" ⟨.ref C::vs,kw⟩)) (.call (.ref f) ⟨.ref (s.heap.objs.size+1)::vs,kw⟩) (PySem.W.InitBack (s.heap.objs.size+1) R)
     { s with heap:=(s.heap.push PySem.W.emptyDict).push (PySem.W.instObj C s.heap.objs.size) }) :
   codeAny (model prog w) A (.call (.ref C) ⟨vs,kw⟩) R s:=by
 obtain⟨hh,g,d,t,os⟩:=s;exact PySem.W.make_core (PySem.W.makes_of X hm) (PySem.W.looks_findIn X hi) (fun self=>PySem.W.bind_fn X self hf) (.inl rfl) h
end
def zeu(f:Str)(v:V):List (Str×V)->List (Str×V)
 | []=>[(f,v)]
 | (g,x)::r=>if g=f then (g,v)::r else (g,x)::zeu f v r
theorem zdt(f g:Str)(v:V):∀fs:List (Str×V),(zeu f v fs).lookup g=if g=f then some v else fs.lookup g
 | []=>by
   show List.lookup g [(f,v)]=_;by_cases h:g=f
   · have hb:(g==f)=true:=z71.mpr h;simp only[List.lookup,hb,z5s h]
   · have hb:(g==f)=false:=z81.mpr h;simp only[List.lookup,hb,z5y h]
 | (k,x)::r=>by
   have ih:=zdt f g v r;rw[show zeu f v ((k,x)::r)=(if k=f then (k,v)::r else (k,x)::zeu f v r)from rfl];by_cases hk:k=f
   · rw[z5s hk];by_cases h:g=k
     · have hb:(g==k)=true:=z71.mpr h;simp only[List.lookup,hb,z5s (h.trans hk)]
     · have hb:(g==k)=false:=z81.mpr h;simp only[List.lookup,hb,z5y (fun e:g=f=>h (e.trans hk.symm))]
   · rw[z5y hk];by_cases h:g=k
     · have hb:(g==k)=true:=z71.mpr h;simp only[List.lookup,hb,z5y (fun e:g=f=>hk (h.symm.trans e))]
     · have hb:(g==k)=false:=z81.mpr h;simp only[List.lookup,hb];exact ih
theorem zd0(f:Str)(v:V):∀fs:List (Str×V),f∈(zeu f v fs).map (·.1)/\∀g,g∈fs.map (·.1)->g∈(zeu f v fs).map (·.1)
 | []=>⟨by simp[zeu],fun g h=>by simp at h⟩
 | (k,x)::r=>by
   obtain⟨i1,i2⟩:=zd0 f v r;rw[show zeu f v ((k,x)::r)=(if k=f then (k,v)::r else (k,x)::zeu f v r)from rfl];by_cases hk:k=f
   · rw[z5s hk];subst hk;exact⟨by simp,fun g h=>by simpa using h⟩
   · rw[z5y hk];refine⟨?_,fun g h=>?_⟩
     · rw[z5j];exact z46 _ i1
     · rw[z5j]at h ⊢;rcases z5p.mp h with e | e
       · exact z5p.mpr (.inl e)
       · exact z46 _ (i2 g e)
theorem zdw(f:Str)(v:V):∀fs:List (Str×V),(zeu f v fs).length<=fs.length+1
 | []=>by simp[zeu]
 | (k,x)::r=>by
   have ih:=zdw f v r;rw[show zeu f v ((k,x)::r)=(if k=f then (k,v)::r else (k,x)::zeu f v r)from rfl];by_cases hk:k=f
   · rw[z5s hk,List.length_cons,List.length_cons];omega
   · rw[z5y hk,List.length_cons,List.length_cons];omega
theorem RelO.some_of{v:V}{o:Option Value}(r:RelO (some v) o):∃u,o=some u/\RelV v u:=by
 cases o with
 |none=>exact(show False from r).elim
 |some u=>exact⟨u,rfl,r⟩
theorem RelO.none_of{o:Option Value}(r:RelO none o):o=none:=by
 cases o with
 |none=>rfl
 |some u=>exact(show False from r).elim
theorem zot{v:V}{u:Value}(r:RelV v u):PySem.W.handedIn u=true:=by
 cases v with
 |non=>cases(show u=Value.none from r);rfl
 |bl b=>cases(show u=Value.bool b from r);rfl
 |int i=>obtain⟨t,e⟩:=(show ∃t,u=Value.int i t from r);cases e;rfl
 |str x=>obtain⟨t,e⟩:=(show ∃t,u=Value.str x t from r);cases e;rfl
 |byt b=>obtain⟨t,e⟩:=(show ∃t,u=Value.bytes b t from r);cases e;rfl
 |flt b=>obtain⟨t,e⟩:=(show ∃t,u=Value.float b t from r);cases e;rfl
 |ref a=>cases(show u=Value.ref a from r);rfl
 |ty n=>cases(show u=Value.type n from r);rfl
section
variable {P:Program}{w:World}{H H':Hp}{h h':Heap}{a C dx:Addr}{fs fs':List (Str×V)}
theorem zga(hok:HOk P w H h)(e:H a=some (.ins C dx fs)):∃mA,ObjM h a dx C mA/\(∀f,RelO (fs.lookup f) (mA f))/\PySem.Within mA (fs.map (·.1))/\fs.length<=1000/\H dx=some (.own a):=by
 obtain⟨d,z,ne,ob,mA,n,r,q⟩:=(show ObjOk P w H h a (.ins C dx fs)from hok a _ e)
 exact⟨mA,⟨ob,n,ne⟩,r,q,z,d⟩
end
structure Cls (K:zFr) (C:Addr):Prop where
 pg:PySem.W.plainGet K C Str.empty=true
 hd:PySem.W.hasDictIn K C=true
 po:PySem.W.plainOver K C=true
 sa:PySem.W.findIn K (.ref C) "__setattr__"=some (some (.builtin "object.__setattr__"))
theorem Cls.get{K:zFr}{C:Addr}(c:Cls K C)(f:Str):PySem.W.plainGet K C f=true:=c.pg
def NoAttr(K:zFr)(C:Addr)(f:Str):Prop:=PySem.W.findIn K (.ref C) f=some none
theorem NoAttr.taker{K:zFr}{C:Addr}{f:Str}(n:NoAttr K C f):PySem.W.takerIn K C f=some none:=by unfold PySem.W.takerIn;rw[show PySem.W.findIn K (.ref C) f=some none from n];rfl
structure Meth (K:zFr) (C:Addr) (m:Str) (f:Addr):Prop where
 at_:PySem.W.findIn K (.ref C) m=some (some (.ref f))
 fn:PySem.W.isFn K (.ref f)=true
 kp:PySem.W.keepIn K (.ref f)=true
section
variable {X:Cx}{pins:zAO}{σ:St}{H:Hp}{s:Shared}{a C dx:Addr}{fs:List (Str×V)}{f:Str}{v:V}{A:Around}{E:zVP}
theorem zl7{b:Bool}{Q:zVP}(I:Inv X pins σ H s)(e:H a=some (.ins C dx fs))(c:Cls X.K C)(n:NoAttr X.K C f)(l:fs.lookup f=some v)
   (h:∀u s',Inv X pins σ H s'->RelV v u->Q u s'):wpAny (model X.prog X.w) A (getAttr (.ref a) f b) Q E s:=by
 obtain⟨mA,O,r,_,_,_⟩:=zga I.hok e;obtain⟨u,hu,ru⟩:=RelO.some_of (v:=v) (o:=mA f) (by rw[<-l];exact r f);exact zvx I.kIn O (c.get f) c.hd n hu (zot ru) (h u _ (I.tok _) ru)
theorem zl6{m:Str}{g:Addr}{pl:Sem Bool}{Q:Value×List Value->Shared->Prop}(I:Inv X pins σ H s)(e:H a=some (.ins C dx fs))(c:Cls X.K C)(k:Meth X.K C m g)(l:fs.lookup m=none)
   (h:Q (.ref g,[.ref a]) s):wpAny (model X.prog X.w) A (getMethod (.ref a) m pl) Q E s:=by
 obtain⟨mA,O,r,_,_,_⟩:=zga I.hok e;have hn:mA m=none:=RelO.none_of (by rw[<-l];exact r m);exact zrg I.kIn O (c.get m) k.at_ k.fn hn h
theorem zll{y:V}{u:Value}{Q:Unit->Shared->Prop}(I:Inv X pins σ H s)(e:H a=some (.ins C dx fs))(c:Cls X.K C)(n:NoAttr X.K C f)(hl:fs.length<1000)(ry:RelV y u)
   (h:∀s',Inv X pins σ (upd H a (.ins C dx (zeu f y fs))) s'->Q () s'):wpAny (model X.prog X.w) A (setAttr (.ref a) f u) Q E s:=by
 obtain⟨mA,O,r,wi,_,ho⟩:=zga I.hok e;have hz:(fs.map (·.1)).length<=sizeLine:=by rw[z7j,z60];omega
 refine zuu I.kIn O c.sa c.po n.taker c.hd wi hz fun h' O' sb=>h _ ?_;have hd:∃o,h'.get? dx=some o:=let⟨o,_,_,e',_⟩:=O'.ns;⟨o,e'⟩;refine I.write (x:=a) (e:=dx) (by rw[e];exact True.intro) (.inr ho) (fun b q hb z=>(sb.2 b hb).trans z) hd ?_;refine⟨by rw[qd O.ne];exact ho,?_,O.ne,O'.obj,_,O'.ns,fun g=>?_,fun g hg=>?_⟩
 · have:=zdw f y fs;omega
 · show RelO ((zeu f y fs).lookup g) (if g=f then some u else mA g);rw[zdt];by_cases q:g=f
   · rw[z5s q,z5s q];exact ry
   · rw[z5y q,z5y q];exact r g
 · by_cases q:g=f
   · rw[q];exact(zd0 f y fs).1
   · refine(zd0 f y fs).2 g (wi g fun z=>hg ?_);show(if g=f then some u else mA g)=none;rw[z5y q];exact z
theorem Inv.made(I:Inv X pins σ H s):Inv X pins σ (upd (upd H s.heap.objs.size (.own (s.heap.objs.size+1))) (s.heap.objs.size+1) (.ins C s.heap.objs.size []))
   { s with heap:=(s.heap.push PySem.W.emptyDict).push (PySem.W.instObj C s.heap.objs.size) }:=by
 have e1:(s.heap.push PySem.W.emptyDict).get? s.heap.objs.size=some PySem.W.emptyDict:=z53 s.heap rfl;have e2:((s.heap.push PySem.W.emptyDict).push (PySem.W.instObj C s.heap.objs.size)).get? (s.heap.objs.size+1)=some (PySem.W.instObj C s.heap.objs.size):=by
   have:=z53 (s.heap.push PySem.W.emptyDict) (o:=PySem.W.instObj C s.heap.objs.size) rfl
   rwa [qaf]at this
 have e3:(s.heap.push PySem.W.emptyDict).Ns s.heap.objs.size (fun _=>none):=⟨PySem.W.emptyDict,#[],_,e1,rfl,(fun e he=>absurd he (by simp)),fun _=>rfl⟩
 have I1:=I.laid (a:=s.heap.objs.size) (o:=.own (s.heap.objs.size+1)) (h':=s.heap.push PySem.W.emptyDict) (t':=s.toks) (fun b u q=>z48 _ q) (z44 _) ⟨_,e1⟩;refine I1.laid (a:=s.heap.objs.size+1) (o:=.ins C s.heap.objs.size []) (t':=s.toks) (fun b u q=>z48 _ q) (Nat.le_of_eq (qaf _ _)) ?_;have ne:s.heap.objs.size≠s.heap.objs.size+1:=z5q (z9s _);refine⟨by rw[qd ne,qo],z54 _,ne,e2,fun _=>none,(Heap.Ns1.of_empty e3).at fun o q=>z48 _ q,fun _=>True.intro,fun y hy=>absurd rfl hy⟩
theorem zwl{prog:Program}{w:World}{env:Env}{e:Expr}{f:Str}{pos:Pos}{s:Shared}{Q:zVP}(hb:attributeBase e f env (eval e env)=eval e env)
   (h:wpAny (model prog w) A (eval e env) (fun o s₁=>wpAny (model prog w) A (getAttr o f true) Q E s₁) E s):wpAny (model prog w) A (eval (.Attribute e f pos) env) Q E s :=
 Attribute_any_ h (by rw[arm_eval_Attribute,hb])
end
def z39(K:zFr)(ta:TE)(f:Str):TE:=fun σ H Q=>ta σ H fun x H1=>∃a C dx fs v,x=.ref a/\H1 a=some (.ins C dx fs)/\Cls K C/\NoAttr K C f/\fs.lookup f=some v/\Q v H1
def z4f(K:zFr)(ta tv:TE)(f:Str):TS:=fun D σ H=>tv σ H fun y H1=>ta σ H1 fun x H2=>∃a C dx fs,x=.ref a/\H2 a=some (.ins C dx fs)/\Cls K C/\NoAttr K C f/\fs.length<1000 /\
 D.nx σ (upd H2 a (.ins C dx (zeu f y fs)))
section
variable {X:Cx}{o e value:Expr}{f:Str}{pos pos' tpos:Pos}{ta tv:TE}
theorem zyk(he:PE X e ta)(hb:attributeBase e f X.env (eval e X.env)=eval e X.env):PE X (.Attribute e f pos) (z39 X.K ta f):=by intro pins s σ H Q I h;refine zwl hb (thn (he pins s σ H _ I h) fun u s1 ⟨x,H1,I1,rx,a,C,dx,fs,v,ex,ea,c,n,l,q⟩=>?_);subst ex;obtain rfl:u=Value.ref a:=rx;exact zl7 I1 ea c n l fun u' s2 I2 ru=>⟨v,H1,I2,ru,q⟩
theorem zx7(ha:PE X o ta)(hv:PE X value tv)(hs:swapsWith value (some (.Attribute o f pos')) pos.line X.env=pure false):PS X (.Assign [.Attribute o f pos'] value pos) (z4f X.K ta tv f):=by intro pins s σ H D I h;refine plainObj_wpAny_Assign_Attribute (thn (hv pins s σ H _ I h) fun u s1 ⟨y,H1,I1,ry,q⟩=>thn (ha pins s1 σ H1 _ I1 q) fun ov s2 ⟨x,H2,I2,rx,a,C,dx,fs,ex,ea,c,n,l,q2⟩=>?_) hs;subst ex;obtain rfl:ov=Value.ref a:=rx;exact zll I2 ea c n l ry fun s3 I3=>⟨σ,_,I3,q2⟩
end
section
variable {X:Cx}{pins:zAO}{σ:St}{H:Hp}{s:Shared}{A:Around}{E:zVP}{Q:zVP}{c:Value}{b:Bool}
inductive TyOf (K:zFr) (H:Hp):V->Value->Prop where
 |non:TyOf K H .non (.type "NoneType")
 |bl (x:Bool):TyOf K H (.bl x) (.type "bool")
 |int (i:Int):TyOf K H (.int i) (.type "int")
 |str (x:Str):TyOf K H (.str x) (.type "str")
 |flt (x:UInt64):TyOf K H (.flt x) (.type "float")
 |lst {a:Addr}{xs:List V} (e:H a=some (.lst xs)):TyOf K H (.ref a) (.type "list")
 |frz {a:Addr}{o:Obj}{xs:List V} (e:H a=some (.frz o (.lst xs))):TyOf K H (.ref a) (.type "list")
 |tup {a:Addr}{xs:List V} (e:H a=some (.tup xs)):TyOf K H (.ref a) (.type "tuple")
 |dK {a:Addr}{kvs:List (Key×V)} (e:H a=some (.dK kvs)):TyOf K H (.ref a) (.type "dict")
 |dT {a:Addr}{kvs:List (List Key×V)} (e:H a=some (.dT kvs)):TyOf K H (.ref a) (.type "dict")
 |ins {a C dx:Addr}{fs:List (Str×V)} (e:H a=some (.ins C dx fs)) (cl:Cls K C) (ha:PySem.W.findIn K (.ref C) "__class__"=some (some (.builtin "object.__class__")))
     (hn:PySem.W.specialIn K (.builtin "object.__class__") "__get__"=some (some (.builtin "getset_descriptor.__get__"))) (htk:PySem.W.takesIn K (.builtin "object.__class__")=some true)
     (hm:PySem.W.mroIn K C (.type "object")=some true):TyOf K H (.ref a) (.ref C)
theorem zom{x:V}{u t:Value}(I:Inv X pins σ H s)(rx:RelV x u)(ty:TyOf X.K H x t)(e:PySem.W.kitOne X.K t c=some b)(h:∀tk,Q (.bool b) { s with toks:=tk }) :
   wpAny (model X.prog X.w) A (call (.builtin "isinstance") [u,c]) Q E s:=by
 cases ty with
 |non=>cases(show u=Value.none from rx);exact z6p PySem.W.kitx_none I.kIn True.intro e (fun z=>nomatch z) h
 |bl y=>cases(show u=Value.bool y from rx);exact z6p PySem.W.kitx_bool I.kIn True.intro e (fun z=>nomatch z) h
 |int i=>obtain⟨t,q⟩:=(show ∃t,u=Value.int i t from rx);cases q;exact z6p PySem.W.kitx_int I.kIn True.intro e (fun z=>nomatch z) h
 |str y=>obtain⟨t,q⟩:=(show ∃t,u=Value.str y t from rx);cases q;exact z6p PySem.W.kitx_str I.kIn True.intro e (fun z=>nomatch z) h
 |flt y=>obtain⟨t,q⟩:=(show ∃t,u=Value.float y t from rx);cases q;exact z6p PySem.W.kitx_float I.kIn True.intro e (fun z=>nomatch z) h
 | @lst a xs ea=>
   cases(show u=Value.ref a from rx);obtain⟨_,_,n,_,h1⟩:=(show ObjOk X.prog X.w H s.heap a (.lst xs)from I.hok a _ ea)
   exact z6p qai I.kIn ⟨_,h1,rfl⟩ e (fun z=>nomatch z) h
 | @frz a ob xs ea=>
   cases(show u=Value.ref a from rx);obtain⟨_,_,_,n,_,h1⟩:=(show ObjOk X.prog X.w H s.heap a (.frz ob (.lst xs))from I.hok a _ ea)
   exact z6p qai I.kIn ⟨_,h1,rfl⟩ e (fun z=>nomatch z) h
 | @tup a xs ea=>
   cases(show u=Value.ref a from rx);obtain⟨_,_,_,p⟩:=(show ObjOk X.prog X.w H s.heap a (.tup xs)from I.hok a _ ea)
   obtain⟨o,h1,h2,_⟩:=p;exact z6p PySem.W.kitx_tuple I.kIn ⟨o,h1,h2⟩ e (fun z=>nomatch z) h
 | @dK a kvs ea=>
   cases(show u=Value.ref a from rx);obtain⟨_,_,vs,_,p⟩:=(show ObjOk X.prog X.w H s.heap a (.dK kvs)from I.hok a _ ea)
   obtain⟨o,es,ep,h1,h2,_⟩:=p;exact z6p PySem.W.kitx_dict I.kIn ⟨o,h1,h2.1⟩ e (fun z=>nomatch z) h
 | @dT a kvs ea=>
   cases(show u=Value.ref a from rx);obtain⟨_,_,xs,_,o,es,ep,h1,h2,_⟩:=(show ObjOk X.prog X.w H s.heap a (.dT kvs)from I.hok a _ ea)
   exact z6p PySem.W.kitx_dict I.kIn ⟨o,h1,h2.1⟩ e (fun z=>nomatch z) h
 | @ins a C dx fs ea cl ha hn htk hm=>
   cases(show u=Value.ref a from rx);obtain⟨mA,O,_⟩:=zga I.hok ea;obtain⟨od,J,_⟩:=O.look;exact z6p (PySem.W.kitx_own (cl.get _) cl.hd ha hn htk hm) I.kIn J e (fun z=>nomatch z) h
end
structure Room (k:Nat) (A:Around):Prop where
 hd:A.handled=none
 dp:A.depth+3*k+5<recursionLimit
 un:A.units+16*k+200<cLine
theorem Room.mono{j k:Nat}{A:Around}(r:Room k A)(h:j<=k):Room j A:=⟨r.hd,by have:=r.dp;omega,by have:=r.un;omega⟩
theorem Room.deeper{k:Nat}{A:Around}(r:Room (k+1) A)(env:Env):Room k (A.deeper env) :=
 ⟨r.hd,by have:=r.dp;show A.depth+1+3*k+5<_;omega,by have:=r.un;show A.units+3+16*k+200<_;omega⟩
theorem Room.in1{k:Nat}{A:Around}(r:Room (k+1) A):Room k A.in1 :=
 ⟨r.hd,by have:=r.dp;show A.depth+3*k+5<_;omega,by have:=r.un;show A.units+1+16*k+200<_;omega⟩
theorem zl1{A:Around}{C:Addr}{us:List Value}{kw:List (Str×Value)}:(A.under (.builtin "type.__call__" ⟨.ref C::us,kw⟩)).depth=A.depth+1:=by
 first | rfl | simp[Around.under,Code.weight,Code.isCreation,Code.isGuard,Code.isCaller,Code.frames,Code.isFrame,guardIds]
theorem zl0{A:Around}{C:Addr}{us:List Value}{kw:List (Str×Value)}:(A.under (.builtin "type.__call__" ⟨.ref C::us,kw⟩)).units=A.units+1:=by
 first | rfl | simp[Around.under,Code.cUnits,Code.frames,Code.isFrame]
theorem Room.make{k:Nat}{A:Around}(r:Room (k+1) A)(C:Addr)(us:List Value)(kw:List (Str×Value)):Room k (A.under (.builtin "type.__call__" ⟨.ref C::us,kw⟩)) :=
 ⟨r.hd,by have:=r.dp;rw[zl1];omega,by have:=r.un;rw[zl0];omega⟩
theorem Room.depth{k:Nat}{A:Around}(r:Room k A):A.depth<recursionLimit:=by have:=r.dp;omega
def z35:TA:=fun _ H Q=>Q [] H
def z1s(ta:TE)(tr:TA):TA:=fun σ H Q=>ta σ H fun x H1=>tr σ H1 fun xs H2=>Q (x::xs) H2
section
variable {X:Cx}{e:Expr}{es:List Expr}{te:TE}{t:TA}{pos:Pos}
theorem zn0:PA X [] z35:=fun _ _ _ _ H Q I h=>Calls.spliced_nil ⟨[],H,I,.nil,h⟩
theorem zf0(ha:PE X e te)(hr:PA X es t)(hs:starEach (e::es) X.env=(false,eval e X.env)::starEach es X.env:=by rfl):PA X (e::es) (z1s te t):=by intro pos pins s σ H Q I h;rw[hs];show wpAny _ _ (spliced ((false,eval e X.env)::backTo pos (starEach es X.env))) _ _ s;refine z98 (thn (ha pins s σ H _ I h) fun u s1 ⟨x,H1,I1,r1,q1⟩=>?_);exact thn (hr pos pins s1 σ H1 _ I1 q1) fun us s2 ⟨xs,H2,I2,r2,q2⟩=>⟨x::xs,H2,I2,.cons r1 r2,q2⟩
def z30(t:TA):TE:=fun σ H Q=>t σ H fun xs H1=>xs.length<=sizeLine/\∀p,H1 p=none->Q (.ref p) (upd H1 p (.tup xs))
def z36(t:TA):TE:=fun σ H Q=>t σ H fun xs H1=>xs.length<=sizeLine/\∀p,H1 p=none->Q (.ref p) (upd H1 p (.lst xs))
theorem zye{x1}(h:PA X es t):PE X (.Tuple es x1 pos) (z30 t):=by intro pins s σ H Q I hq;refine wpAny_Tuple_spliced (thn (h pos pins s σ H _ I hq) fun us s1 ⟨xs,H1,I1,r,z,q⟩=>⟨by rw[<-r.length];exact z,?_⟩);have hf:H1 s1.heap.objs.size=none:=I1.hok.fresh (z44 _);refine⟨.ref s1.heap.objs.size,upd H1 s1.heap.objs.size (.tup xs),I1.laid (t':=s1.toks) (fun b u e=>z48 _ e) (z44 _) ?_,rfl,q _ hf⟩;exact⟨z,us,r,⟨_,z53 _ rfl,rfl,_,rfl⟩⟩
theorem zs9(h:PA X es t):PE X (.List es pos) (z36 t):=by intro pins s σ H Q I hq;refine wpAny_List_spliced (thn (h pos pins s σ H _ I hq) fun us s1 ⟨xs,H1,I1,r,z,q⟩=>⟨by rw[<-r.length];exact z,?_⟩);have hf:H1 s1.heap.objs.size=none:=I1.hok.fresh (z44 _);refine⟨.ref s1.heap.objs.size,upd H1 s1.heap.objs.size (.lst xs),I1.laid (t':=s1.toks) (fun b u e=>z48 _ e) (z44 _) ?_,rfl,q _ hf⟩;exact⟨z,us,0,r,z53 _ rfl⟩
end
abbrev Sp:=List V->Hp->VK->XK->Prop
abbrev CXT:=List Env->Hp->Shared->XK->zVP
structure Env0 (P:Program) (w:World) (K:zFr) (mg:zMg) (base:Heap) (A:Around) (outer:List Env) (s:Shared) (H:Hp):Prop where
 frames:A.frames=some outer
 mod:Mod K mg base
 bs:∀b o,base.get? b=some o->s.heap.get? b=some o/\H b=none
 bsz:base.objs.size<=s.heap.objs.size
 funs:s.heap.FunFrames base outer
 frf:∀b∈frs outer,H b=none
 hok:HOk P w H s.heap
 bare:AllBare s.gens
def CE(outer:List Env)(P:Program)(w:World)(H:Hp)(s:Shared)(Q:VK)(u:Value)(s':Shared):Prop :=
 ∃v H',s'.os=s.os/\AllBare s'.gens/\Un (frs outer) [] H H' s.heap s'.heap/\HOk P w H' s'.heap/\RelV v u/\Q v H'
def CR(CX:CXT)(outer:List Env)(P:Program)(w:World)(H:Hp)(s:Shared)(Q:VK)(E:XK)(r:Result)(s':Shared):Prop :=
 match r with
 | .ok (.ret u)=>CE outer P w H s Q u s'
 | .ok _=>False
 | .error e=>CX outer H s E e s'
structure FnOk (P:Program) (w:World) (K:zFr) (mg:zMg) (base:Heap) (CX:CXT) (k:Nat) (f:Addr) (fd:FuncData) (ps:List Str) (sp:Sp):Prop where
 len:∀vs H Q E,sp vs H Q E->vs.length=ps.length
 run:∀(A:Around) (outer:List Env) (s:Shared) (H:Hp) (args:Args) (us:List Value) (vs:List V) (Q:VK) (E:XK),Room k A->Env0 P w K mg base A outer s H->BindsTo s fd args (ps.zip us)->Vals vs us->sp vs H Q E ->
   codeAny (model P w) A (.call (.ref f) args) (CR CX outer P w H s Q E) s
theorem FnOk.mono{P:Program}{w:World}{K:zFr}{mg:zMg}{base:Heap}{CX:CXT}{j k:Nat}{f:Addr}{fd:FuncData}{ps:List Str}{sp:Sp}(F:FnOk P w K mg base CX j f fd ps sp)(h:j<=k) :
   FnOk P w K mg base CX k f fd ps sp:=⟨F.len,fun A outer s H args us vs Q E hr=>F.run A outer s H args us vs Q E (hr.mono h)⟩
theorem FnOk.imp{P:Program}{w:World}{K:zFr}{mg:zMg}{base:Heap}{CX:CXT}{k:Nat}{f:Addr}{fd:FuncData}{ps:List Str}{sp sp':Sp}(F:FnOk P w K mg base CX k f fd ps sp)
   (h:∀vs H Q E,sp' vs H Q E->sp vs H Q E):FnOk P w K mg base CX k f fd ps sp' :=
 ⟨fun vs H Q E q=>F.len vs H Q E (h _ _ _ _ q),fun A outer s H args us vs Q E hr he hb hv hs=>F.run A outer s H args us vs Q E hr he hb hv (h _ _ _ _ hs)⟩
theorem Env0.make{P:Program}{w:World}{K:zFr}{mg:zMg}{base:Heap}{A:Around}{outer:List Env}{s:Shared}{H:Hp}(e:Env0 P w K mg base A outer s H)(C:Addr)(us:List Value)(kw:List (Str×Value)) :
   Env0 P w K mg base (A.under (.builtin "type.__call__" ⟨.ref C::us,kw⟩)) outer s H:=⟨by first | exact e.frames | (simpa [Around.under,Code.envs,Code.isFrame,pushEnvs] using e.frames),e.mod,e.bs,e.bsz,e.funs,e.frf,e.hok,e.bare⟩
theorem Env0.in1{P:Program}{w:World}{K:zFr}{mg:zMg}{base:Heap}{A:Around}{outer:List Env}{s:Shared}{H:Hp}(e:Env0 P w K mg base A outer s H) :
   Env0 P w K mg base A.in1 outer s H:=⟨e.frames,e.mod,e.bs,e.bsz,e.funs,e.frf,e.hok,e.bare⟩
section
variable {X:Cx}{pins:zAO}{σ:St}{H:Hp}{s s':Shared}
theorem Inv.env0(I:Inv X pins σ H s):Env0 X.prog X.w X.K X.mg X.base X.A X.stack s H :=
 ⟨I.ok.frames,I.ok.mod,I.bs,z5u I.ok.bsz I.sz,I.stack,I.stkFree,I.hok,I.bare⟩
theorem Inv.after{Q:VK}{u:Value}(I:Inv X pins σ H s)(h:CE X.stack X.prog X.w H s Q u s'):EP X pins σ Q u s':=by obtain⟨v,H',os,bare,un,hok,r,q⟩:=h;obtain⟨hh,g,d,t,os'⟩:=s';obtain rfl:os'=s.os:=os;exact⟨v,H',I.call (h':=hh) (g':=g) (d':=d) (t':=t) (ch:=[]) un hok bare (fun b z=>absurd z (by simp)),r,q⟩
end
def zug(sp:Sp)(dvs:List V)(E:XK)(t:TA):TE:=fun σ H Q=>t σ H fun vs H1=>sp (vs++dvs) H1 Q E
def z1p(C:Addr)(m:Str)(sp:Sp)(dvs:List V)(E:XK)(ta:TE)(t:TA):TE:=fun σ H Q=>ta σ H fun x H1=>∃a dx fs,x=.ref a/\H1 a=some (.ins C dx fs)/\fs.lookup m=none /\
 t σ H1 fun vs H2=>sp (x::(vs++dvs)) H2 Q E
def zxa(C:Addr)(sp:Sp)(dvs:List V)(E:XK)(t:TA):TE:=fun σ H Q=>t σ H fun vs H1=>∀x dx,H1 x=none->H1 dx=none->dx≠x ->
 sp (.ref x::(vs++dvs)) (upd (upd H1 dx (.own x)) x (.ins C dx [])) (fun v H2=>v=.non/\Q (.ref x) H2) E
def Binds(K:zFr)(fd:FuncData)(ps:List Str)(ds:List Value):Prop :=
 ∀(s:Shared) (us:List Value),K.In s.heap->(us++ds).length=ps.length->BindsTo s fd ⟨us,[]⟩ (ps.zip (us++ds))
theorem Binds.all{K:zFr}{fd:FuncData}{ps:List Str}(h:∀us:List Value,us.length=ps.length->bindArgs fd ⟨us,[]⟩=pure (ps.zip us)):Binds K fd ps []:=fun s us _ hl=>by rw[z50]at hl ⊢;exact .of_eq (h us hl)
def zet(CX:CXT)(X:Cx)(E:XK):Prop:=∀(pins:zAO) (σ:St) (H:Hp) (s:Shared) (e:Value) (s':Shared),Inv X pins σ H s->CX X.stack H s E e s'->X.xe e s'
section
variable {X:Cx}{CX:CXT}{k:Nat}{f C:Addr}{fd:FuncData}{ps:List Str}{sp:Sp}{dvs:List V}{ds:List Value}{E:XK}{x m:Str}{p pos apos:Pos}{e o:Expr}{es:List Expr}{ta:TE}{t:TA}
theorem zg8{pins:zAO}{σ:St}{H:Hp}{s:Shared}{Q:VK}{us:List Value}{vs:List V}(F:FnOk X.prog X.w X.K X.mg X.base CX k f fd ps sp)(hr:Room k X.A)(hb:Binds X.K fd ps ds)(hd:Vals dvs ds)(hx:zet CX X E)
   (I:Inv X pins σ H s) (r:Vals vs us) (h:sp (vs++dvs) H Q E):wpAny (model X.prog X.w) X.A (call (.ref f) us) (EP X pins σ Q) X.xe s:=by
 have r2:Vals (vs++dvs) (us++ds):=r.append hd;have hl:(us++ds).length=ps.length:=by rw[<-r2.length];exact F.len _ _ _ _ h
 refine z9x (z86 (F.run X.A X.stack s H ⟨us,[]⟩ (us++ds) (vs++dvs) Q E hr I.env0 (hb s us I.kIn hl) r2 h) fun r s' hq=>?_);cases r with
 |error e=>exact hx pins σ H s e s' I hq
 | ok fl=>
   cases fl with
   |ret u=>exact I.after hq
   |next=>exact False.elim hq
   |brk=>exact False.elim hq
   |cont=>exact False.elim hq
theorem zvb(F:FnOk X.prog X.w X.K X.mg X.base CX k f fd ps sp)(hr:Room k X.A)(hg:Gl X x)(hm:X.mg x=some (.ref f))(hk:PySem.W.keepIn X.K (.ref f)=true)(hb:Binds X.K fd ps ds)(hd:Vals dvs ds)(hx:zet CX X E)
   (ha:PA X (e::es) t) (hdb:(x==("__debug__":Str))=false:=by decide) (he:starEach (e::es) X.env=(false,eval e X.env)::starEach es X.env:=by rfl) (hpl:(backTo pos (starEach es X.env)).any (·.1)=false:=by rfl) :
   PE X (.Call (.Name x p) (e::es) [] pos) (zug sp dvs E t):=by
 intro pins s σ H Q I h;refine z6w (zax I hg hm ?_ hdb);refine z7l (h₀:=X.base) I.ok.mod.kin hk (thn (ha pos pins s σ H _ I h) fun us s1 ⟨vs,H1,I1,r,q⟩=>⟨I1.kIn,?_⟩) he hpl;exact zg8 F hr hb hd hx I1 r q
theorem zu8{pl:Sem Bool}(he:PE X o ta)(c:Cls X.K C)(hm:Meth X.K C m f)(F:FnOk X.prog X.w X.K X.mg X.base CX k f fd ps sp)(hr:Room k X.A)(hb:Binds X.K fd ps ds)(hd:Vals dvs ds)(hx:zet CX X E)(ha:PA X (e::es) t)
   (hst:starEach (e::es) X.env=(false,eval e X.env)::starEach es X.env:=by rfl) (hpl:(backTo pos (starEach es X.env)).any (·.1)=false:=by rfl)
   (ht:eval (.Call (.Attribute o m apos) (e::es) [] pos) X.env=(do
     let ov <-eval o X.env
     standAt apos.atName
     let(f,first) <-holding [ov] (getMethod ov m pl)
     callWith pos f first (backTo pos (starEach (e::es) X.env)) (backToKw pos (keywordEach [] X.env))):=by rfl) :
   PE X (.Call (.Attribute o m apos) (e::es) [] pos) (z1p C m sp dvs E ta t):=by
 intro pins s σ H Q I h;refine PySem.W.methodCall_KW (pl:=pl) (thn (he pins s σ H _ I h) fun u s1 ⟨x,H1,I1,rx,a,dx,fs,ex,ea,l,q⟩=>?_) ht;subst ex;obtain rfl:u=Value.ref a:=rx;refine zl6 I1 ea c hm l ?_;refine z7l (first:=[.ref a]) (h₀:=X.base) I.ok.mod.kin hm.kp (thn (ha pos pins s1 σ H1 _ I1 q) fun us s2 ⟨vs,H2,I2,r,q2⟩=>⟨I2.kIn,?_⟩) hst hpl;exact zg8 (us:=.ref a::us) (vs:=.ref a::vs) F hr hb hd hx I2 (.cons rfl r) q2
structure Mk (K:zFr) (C f:Addr):Prop where
 makes:PySem.W.makesIn K C=true
 init:PySem.W.findIn K (.ref C) "__init__"=some (some (.ref f))
 fn:PySem.W.isFn K (.ref f)=true
 kp:PySem.W.keepIn K (.ref C)=true
theorem zqk{pins:zAO}{σ:St}{H:Hp}{s:Shared}{Q:VK}{us:List Value}{vs:List V}(M:Mk X.K C f)(F:FnOk X.prog X.w X.K X.mg X.base CX k f fd ps sp)(hr:Room (k+1) X.A)(hb:Binds X.K fd ps ds)(hd:Vals dvs ds)
   (hx:zet CX X E) (I:Inv X pins σ H s) (r:Vals vs us)
   (h:∀x dx,H x=none->H dx=none->dx≠x->sp (.ref x::(vs++dvs)) (upd (upd H dx (.own x)) x (.ins C dx [])) (fun v H2=>v=.non/\Q (.ref x) H2) E) :
   wpAny (model X.prog X.w) X.A (call (.ref C) us) (EP X pins σ Q) X.xe s:=by
 have hq:=h (s.heap.objs.size+1) s.heap.objs.size (I.hok.fresh (z9i _)) (I.hok.fresh (z44 _)) (z5q (z9s _));have I2:=Inv.made (C:=C) I;have r2:Vals (V.ref (s.heap.objs.size+1)::(vs++dvs)) (Value.ref (s.heap.objs.size+1)::(us++ds)):=.cons rfl (r.append hd);have hl:(Value.ref (s.heap.objs.size+1)::us++ds).length=ps.length:=by have e:=r2.length;rw[F.len _ _ _ _ hq]at e;exact e.symm
 refine z9x (zq9 (f:=f) I.kIn M.makes M.init (z71.mp M.fn) (z86 (F.run _ X.stack _ _ ⟨Value.ref (s.heap.objs.size+1)::us,[]⟩ (Value.ref (s.heap.objs.size+1)::(us++ds)) _ _ E (hr.make C us [])
   (I2.env0.make C us []) (hb _ (Value.ref (s.heap.objs.size+1)::us) I2.kIn hl) r2 hq) fun r s' hq'=>?_))
 cases r with
 |error e=>exact hx pins σ _ _ e s' I2 hq'
 | ok fl=>
   cases fl with
   | ret u=>
     obtain⟨v,H',I3,rv,ev,q3⟩:=I2.after hq';subst ev;exact⟨rv,⟨V.ref (s.heap.objs.size+1),H',I3,rfl,q3⟩⟩
   |next=>exact False.elim hq'
   |brk=>exact False.elim hq'
   |cont=>exact False.elim hq'
theorem zu9(M:Mk X.K C f)(F:FnOk X.prog X.w X.K X.mg X.base CX k f fd ps sp)(hr:Room (k+1) X.A)(hg:Gl X x)(hm:X.mg x=some (.ref C))(hb:Binds X.K fd ps ds)(hd:Vals dvs ds)(hx:zet CX X E)
   (ha:PA X (e::es) t) (hdb:(x==("__debug__":Str))=false:=by decide) (he:starEach (e::es) X.env=(false,eval e X.env)::starEach es X.env:=by rfl) (hpl:(backTo pos (starEach es X.env)).any (·.1)=false:=by rfl) :
   PE X (.Call (.Name x p) (e::es) [] pos) (zxa C sp dvs E t):=by
 intro pins s σ H Q I h;refine z6w (zax I hg hm ?_ hdb);refine z7l (h₀:=X.base) I.ok.mod.kin M.kp (thn (ha pos pins s σ H _ I h) fun us s1 ⟨vs,H1,I1,r,q⟩=>⟨I1.kIn,?_⟩) he hpl;exact zqk M F hr hb hd hx I1 r q
end
structure FnScope (N P:List Str) (sc:Scope):Prop where
 kind:sc.kind=.function
 co:sc.isCoroutine=false
 gen:sc.isGenerator=false
 nd:N.Nodup
 pre:N.take P.length=P
 par:∀x∈P,sc.names.lookup x=some .local\/sc.names.lookup x=some .cell
 nofree:∀y∈sc.names,y.2≠.free
theorem zh2{kindOf:Str->Option NameKind}{x:Str}:∀{binds:List (Str×Value)}{m:zMg},(∀v,(x,v)∉binds)->bindL kindOf binds m x=m x
 | [],_,_=>rfl
 | (n,v)::r,m,h=>by
   unfold bindL;rw[zh2 fun w hw=>h w (z46 _ hw)];split
   · have:x≠n:=by rintro rfl;exact h v z5d
     simp[this]
   · rfl
theorem zh4{kindOf:Str->Option NameKind}{x:Str}:∀{binds:List (Str×Value)}{m:zMg},(∀v,(x,v)∉binds)->bindC kindOf binds m x=m x
 | [],_,_=>rfl
 | (n,v)::r,m,h=>by
   unfold bindC;rw[zh4 fun w hw=>h w (z46 _ hw)];split
   · rfl
   · have:x≠n:=by rintro rfl;exact h v z5d
     simp[this]
theorem zh3{kindOf:Str->Option NameKind}{x:Str}{v:Value}:∀{P:List Str}{vs:List Value}{i:Nat}{m:zMg},P.Nodup->P[i]? = some x->vs[i]? = some v->kindOf x=some .local ->
   bindL kindOf (P.zip vs) m x=some v
 | [],_,_,_,_,h,_,_=>by simp at h
 |_::_,[],_,_,_,_,h,_=>by simp at h
 | p::P,w::vs,0,m,nd,h1,h2,hk=>by simp at h1 h2;subst h1;subst h2;show bindL kindOf ((p,w)::P.zip vs) m p=_;unfold bindL;rw[zh2 fun v hv=>(z7v.mp nd).1 (z7w hv).1,z5s hk];simp
 | p::P,w::vs,i+1,m,nd,h1,h2,hk=>by show bindL kindOf ((p,w)::P.zip vs) m x=_;unfold bindL;exact zh3 (i:=i) (z7v.mp nd).2 (by simpa using h1) (by simpa using h2) hk
theorem zh5{kindOf:Str->Option NameKind}{x:Str}{v:Value}:∀{P:List Str}{vs:List Value}{i:Nat}{m:zMg},P.Nodup->P[i]? = some x->vs[i]? = some v->kindOf x≠some .local ->
   bindC kindOf (P.zip vs) m x=some v
 | [],_,_,_,_,h,_,_=>by simp at h
 |_::_,[],_,_,_,_,h,_=>by simp at h
 | p::P,w::vs,0,m,nd,h1,h2,hk=>by simp at h1 h2;subst h1;subst h2;show bindC kindOf ((p,w)::P.zip vs) m p=_;unfold bindC;rw[zh4 fun v hv=>(z7v.mp nd).1 (z7w hv).1,z5y hk];simp
 | p::P,w::vs,i+1,m,nd,h1,h2,hk=>by show bindC kindOf ((p,w)::P.zip vs) m x=_;unfold bindC;exact zh5 (i:=i) (z7v.mp nd).2 (by simpa using h1) (by simpa using h2) hk
def start(N:List Str)(vs:List V):St:=vs.map some++List.replicate (N.length-vs.length) none
def zcd(CX:CXT)(P:Program)(w:World)(K:zFr)(mg:zMg)(base:Heap)(N:List Str)(qual:Str)(scope:Scope)(f:Addr)(cd:Value)(A:Around)(outer:List Env)(s:Shared)(H:Hp)(E:XK):Cx where
 prog:=P
 w:=w
 K:=K
 mg:=mg
 base:=base
 A:=A.deeper (envOfC qual scope s.heap.objs.size f cd)
 N:=N
 s₀:=s
 H₀:=H
 env:=envOfC qual scope s.heap.objs.size f cd
 outer:=outer
 stack:=envOfC qual scope s.heap.objs.size f cd::outer
 ex:=[]
 calm:=true
 fn:=fun _=>true
 pn:=[]
 xe:=fun e s'=>wpAny (model P w) (A.deeper (envOfC qual scope s.heap.objs.size f cd)) (leaving (envOfC qual scope s.heap.objs.size f cd) e) (fun _ s''=>CX outer H s E e s'') (fun e' s''=>CX outer H s E e' s'') s'
theorem zlb{sc:Scope}{n:Nat}{x:Str}(h:sc.names.lookup x=some .cell):∃c,(cellsFrom n sc.names []).lookup x=some c:=by have q:=PySem.W.cellsFrom_some sc.names n [] (.inl h);exact z7m.mp q
theorem zhk{CX:CXT}{P:Program}{w:World}{K:zFr}{mg:zMg}{base:Heap}{N ps:List Str}{qual:Str}{scope:Scope}{f:Addr}{cd:Value}{A:Around}{outer:List Env}{s s1:Shared}{H:Hp}{E:XK}{us:List Value}{vs:List V}
   (S:FnScope N ps scope) (hd:A.handled=none) (e0:Env0 P w K mg base A outer s H) (hl:vs.length=ps.length) (r:Vals vs us)
   (x:InCallC s s.heap.objs.size (bindL (envOfC qual scope s.heap.objs.size f cd).kindOf (ps.zip us) fun _=>none) (cellsFrom (s.heap.objs.size+1) scope.names []) (bindC (envOfC qual scope s.heap.objs.size f cd).kindOf (ps.zip us) fun _=>none) s1) :
   Inv (zcd CX P w K mg base N qual scope f cd A outer s H E) [] (start N vs) H s1:=by
 have hpl:ps.length<=N.length:=by have:=z7a List.length S.pre;rw[z5m]at this;omega
 obtain⟨h1,tk,rfl,hk⟩:=x.done;have noA:∀b:Addr,b∉(zcd CX P w K mg base N qual scope f cd A outer s H E).ex:=fun b z=>absurd (show b∈([]:List Addr)from z) (by simp);refine⟨⟨e0.mod,S.kind,rfl,rfl,z44 _,fun y z c h1 h2=>?_,fun y hy=>?_,fun y c _ h=>?_,fun _=>hd,Around.frames_deeper e0.frames,.inr ⟨rfl,rfl⟩,fun b z=>absurd z (noA b),e0.bs,e0.bsz,fun b _ _=>noA b,fun b z=>absurd z (noA b),e0.funs,e0.frf⟩,
   rfl,e0.bare,Un.kept hk,⟨_,x.toInCall.ns,fun i y v h1 h2 h3=>?_⟩,fun y c h=>⟨_,x.cell y c h⟩,e0.hok.fresh (z44 _),fun y c h=>?_,fun p hp=>absurd (show p∈([]:zAO)from hp) (by simp),e0.hok.kept hk,?_⟩
 · exact name_of_addr x.apart (z7d h1) (z7d h2)
 · have hy:scope.names.lookup y=some .cell\/scope.names.lookup y=some .free:=hy;rcases hy with hy | hy
   · exact zlb hy
   · exact absurd rfl (S.nofree _ (z7d hy))
 · exact z6y (x.above y c (z7d h))
 · have hi:i<vs.length:=by
     unfold start at h2;by_cases hi:i<vs.length
     · exact hi
     · rw[z5t (by simpa using hi)]at h2;rw[List.getElem?_replicate]at h2;split at h2<;>cases h2
   have ha:vs[i]? = some v:=by
     unfold start at h2;rw[z55 (by simpa using hi),z6s]at h2;cases e:vs[i]? with
     |none=>rw[e]at h2;cases h2
     |some a=>rw[e]at h2;cases h2;rfl
   obtain⟨u,hu,rv⟩:=r.get ha;have hp:ps[i]? = some y:=by rw[<-S.pre,z78 (by omega)];exact h1
   have ndP:ps.Nodup:=by rw[<-S.pre];exact S.nd.sublist (z9j _ _)
   refine⟨u,rv,?_⟩;rcases S.par y (z51 hp)with k | k
   · exact .inl ⟨k,zh3 ndP hp hu k⟩
   · obtain⟨c,e⟩:=zlb (n:=s.heap.objs.size+1) k;refine .inr ⟨.inl k,c,e,?_⟩;have q:=x.cell y c e;rw[zh5 ndP hp hu (by show scope.names.lookup y≠_;rw[k];decide)]at q;exact q
 · exact e0.hok.fresh (z6y (x.above y c (z7d h)))
 · unfold start;show _=N.length;rw[z42,z7j,List.length_replicate];omega
theorem zrl{CX:CXT}{P:Program}{w:World}{K:zFr}{mg:zMg}{base:Heap}{k:Nat}{f:Addr}{name qual:Str}{params:Arguments}{body:List Stmt}{scope:Scope}{dV kV doc pm cdv ct oc:Value}{an od:Option Addr}
   {osl:Array (Option Value)}{N ps:List Str}{sp:Sp} (lk:K.lookup f=some ⟨oc,od,.func (PySem.W.fnOf name qual params body scope dV kV doc pm an cdv ct),osl⟩) (hcd:PySem.W.codeIn K cdv qual=true) (S:FnScope N ps scope)
   (len:∀vs H Q E,sp vs H Q E->vs.length=ps.length)
   (hbody:∀(A:Around) (outer:List Env) (s:Shared) (H:Hp) (vs:List V) (Q:VK) (E:XK),Room k (A.deeper (envOfC qual scope s.heap.objs.size f cdv))->sp vs H Q E ->
     ∃t,PSs (zcd CX P w K mg base N qual scope f cdv A outer s H E) body t/\t { nx:=fun _ H'=>Q .non H',rt:=Q } (start N vs) H) :
   FnOk P w K mg base CX (k+1) f (PySem.W.fnOf name qual params body scope dV kV doc pm an cdv ct) ps sp:=by
 refine⟨len,fun A outer s H args us vs Q E hr e0 hb r hsp=>?_⟩;have hl:=len _ _ _ _ hsp;have KX:K.In s.heap:=e0.mod.kin.keeps fun b o e=>(e0.bs b o e).1;have lim:s.heap.NoLimit:=e0.mod.nolimit.keeps fun b o e=>(e0.bs b o e).1;have hkind:∀y∈ps.zip us,scope.names.lookup y.1=some .local\/(scope.names.lookup y.1=some .cell/\((cellsFrom (s.heap.objs.size+1) scope.names []).lookup y.1).isSome=true):=fun⟨n,v⟩ hy=>by
   rcases S.par n (z7w hy).1 with q | q
   · exact .inl q
   · exact .inr ⟨q,PySem.W.cellsFrom_some _ _ _ (.inl q)⟩
 refine codeAny_call_function hr.depth (KX _ _ lk) rfl S.co S.gen rfl (PySem.W.codeRec_of KX hcd) (hb _ _ _ _ ?_);refine wpAny_newFunctionEnv_cells S.kind hkind fun env he s1 x=>?_;subst he;refine⟨lim.keeps x.toInCall.keep,codeAny_func ?_⟩;obtain⟨t,ht,hq⟩:=hbody A outer s H vs Q E (hr.deeper _) hsp;have I:Inv (zcd CX P w K mg base N qual scope f cdv A outer s H E) [] (start N vs) H s1:=zhk S hr.hd e0 hl r x;refine z7c (ht [] s1 (start N vs) H _ I hq) (fun fl s' hs=>?_) fun e s' hs=>hs;have fin:∀{σ':St}{H':Hp}{v:V}{u:Value},Inv (zcd CX P w K mg base N qual scope f cdv A outer s H E) [] σ' H' s'->RelV v u->Q v H'->CE outer P w H s Q u s' :=
   fun {σ' H' v u} J rv q=>⟨v,H',J.os,J.bare,J.base,J.hok,rv,q⟩
 cases fl with
 | ret u=>
   obtain⟨v,σ',H',J,rv,q⟩:=hs;exact fin J rv q
 | next=>
   obtain⟨σ',H',J,q⟩:=hs;exact fin (v:=V.non) (u:=Value.none) J rfl q
 | brk=>
   obtain⟨_,_,_,q⟩:=hs;exact False.elim q
 | cont=>
   obtain⟨_,_,_,q⟩:=hs;exact False.elim q
section
variable {X:Cx}{x:Str}{p pos:Pos}{e:Expr}{es:List Expr}{t:TA}{id T:String}{r:List V->Hp->VK->Prop}
def tCB(r:List V->Hp->VK->Prop)(t:TA):TE:=fun σ H Q=>t σ H fun vs H1=>r vs H1 Q
theorem zq3(hc:CallR X (.builtin id) r)(hg:Gl X x)(hm:X.mg x=none)(hv:bootBuiltins x=some (.builtin id))(ha:PA X (e::es) t)(hn:x≠"__name__":=by decide)(hdb:(x==("__debug__":Str))=false:=by decide)
   (he:starEach (e::es) X.env=(false,eval e X.env)::starEach es X.env:=by rfl) (hpl:(backTo pos (starEach es X.env)).any (·.1)=false:=by rfl):PE X (.Call (.Name x p) (e::es) [] pos) (tCB r t):=by
 intro pins s σ H Q I h;refine z6w (zdy I hg hm hv ?_ hn hdb);exact PyProof.Rows.callWith_builtin1 (thn (ha pos pins s σ H _ I h) fun us s1 ⟨vs,H1,I1,r1,q1⟩=>hc pins s1 σ H1 vs us Q I1 r1 q1) he hpl
theorem zha(hc:CallR X (.type T) r)(hg:Gl X x)(hm:X.mg x=none)(hv:bootBuiltins x=some (.type T))(ha:PA X (e::es) t)(hn:x≠"__name__":=by decide)(hdb:(x==("__debug__":Str))=false:=by decide)
   (he:starEach (e::es) X.env=(false,eval e X.env)::starEach es X.env:=by rfl) (hpl:(backTo pos (starEach es X.env)).any (·.1)=false:=by rfl):PE X (.Call (.Name x p) (e::es) [] pos) (tCB r t):=by
 intro pins s σ H Q I h;refine z6w (zdy I hg hm hv ?_ hn hdb);exact z7u (thn (ha pos pins s σ H _ I h) fun us s1 ⟨vs,H1,I1,r1,q1⟩=>hc pins s1 σ H1 vs us Q I1 r1 q1) he hpl
end
end L2
namespace HT
open PySem PyProof.Rows
theorem eqAt_int(A:Around)(s:Shared)(a:Int)(t:Tok)(c:Int)(u:Tok):∃e,SeqAt.EqAt A s (.int a t) (.int c u) e/\(e=true↔a=c) :=
 ⟨(a==c),SeqAt.EqAt.int_int a t c u,by simp⟩
theorem rcLt_int(A:Around)(s:Shared)(a:Int)(t:Tok)(c:Int)(u:Tok)(prog:Program)(w:World)(E:zVP)(Q:zVP)(h:Q (.bool (decide (a<c))) s) :
   wpAny (model prog w) A (richCompare .Lt (.int a t) (.int c u)) Q E s :=
 (PyProof.Rows.lt_int h:wpAny (model prog w) A (compareOp .Lt (.int a t) (.int c u)) Q E s)
section
open PySem.SeqAt
open PySem.AutoSeq1 (wpAny_loadPart')
open PySem.MeetsSeq PySem.MeetsSeq2 PySem.MeetsSeq3
end
section
variable {prog:Program}{w:World}{A:Around}{E:zVP}{s:Shared}
theorem cat_tup{t b:Addr}{vs ws:List Value}{Q:zVP}(ht:IsTup s.heap t vs.toArray)(hb:IsTup s.heap b ws.toArray)(hv:vs≠[])
   (h1:ws=[]->Q (.ref t) s) (h2:ws≠[]->Q (.ref s.heap.objs.size) { s with heap:=s.heap.push { cls:=.type "tuple",data:=.seq (vs++ws).toArray } })
   (hsz:vs.length+ws.length<=sizeLine):wpAny (model prog w) A (binaryOp .Add (.ref t) (.ref b)) Q E s:=by
 obtain⟨⟨cls,dd,data,sl⟩,ho,hc,n,hd⟩:=id ht;obtain⟨⟨cls2,dd2,data2,sl2⟩,ho2,hc2,n2,hd2⟩:=id hb;simp only at hc hd hc2 hd2;subst hc hd hc2 hd2;have e:vs.toArray++ws.toArray=(vs++ws).toArray:=by simp
 by_cases hw:ws=[]
 · exact qap ⟨_,ho,rfl⟩ ⟨_,ho2,rfl⟩ noFill_tuple_add seq_tuple_add z9f z9c (z87 _ _)
     (tuple_addW1 t b vs.toArray ws.toArray n n2 dd dd2 sl sl2 (by simpa using hv) (by simp[hw])) ⟨ho,ho2,h1 hw⟩
 · refine qap ⟨_,ho,rfl⟩ ⟨_,ho2,rfl⟩ noFill_tuple_add seq_tuple_add z9f z9c (z87 _ _)
     (tuple_addW2 t b vs.toArray ws.toArray n n2 dd dd2 sl sl2 (by simpa using hv) (by simpa using hw) (by rw[z5f,z5f];exact hsz)) ⟨ho,ho2,?_⟩
   rw[e];exact h2 hw
def sIx(n d:Nat):Option Int->Nat
 |none=>d
 |some v=>if v<0 then (v+(n:Int)).toNat else min v.toNat n
theorem zxr(n d:Nat)(hd:d<=n)(o:Option Int):sIx n d o<=n:=by
 cases o with
 |none=>exact hd
 | some v=>
   show(if v<0 then (v+(n:Int)).toNat else min v.toNat n)<=n;by_cases hv:v<0
   · rw[z5s hv];omega
   · rw[z5y hv];exact Nat.min_le_right _ _
theorem zpr(v:Int)(n d:Nat):(if v<0 then max (v+(n:Int)) 0 else min v (n:Int))=((sIx n d (some v):Nat):Int):=by
 show(if v<0 then max (v+(n:Int)) 0 else min v (n:Int))=(((if v<0 then (v+(n:Int)).toNat else min v.toNat n):Nat):Int)
 by_cases hv:v<0
 · simp only[z5s hv];omega
 · simp only[z5y hv];omega
theorem zmq(lo hi:Option Int)(n:Nat):Builtin.Slice.sliceAdjust lo hi 1 (n:Int)=(((sIx n 0 lo:Nat):Int),((sIx n n hi:Nat):Int)):=by
 have h1:¬ ((1:Int)<0):=by omega
 unfold Builtin.Slice.sliceAdjust;simp only[h1,z6i];refine Prod.ext ?_ ?_
 · cases lo with
   |none=>rfl
   |some v=>exact zpr v n 0
 · cases hi with
   |none=>rfl
   |some v=>exact zpr v n n
theorem zlt(i j:Nat):Builtin.Slice.slicePlaces (i:Int) (j:Int) 1=j-i:=by
 unfold Builtin.Slice.slicePlaces;have h1:(1:Int)>0:=by omega
 simp only[h1,z61,Int.ediv_one];split<;>omega
theorem ze7{v:Value}{o:Option Int}{Q:Option Int->Shared->Prop}(p:IsPart v o)(h:Q o s):wpAny (model prog w) A (Builtin.Slice.slicePartIndex v) Q E s:=by
 cases p with
 |none=>exact slicePart_none h
 |int i t=>exact slicePart_int h
theorem zc2{sl:Addr}{vl vu:Value}{lo hi:Option Int}{n:Nat}{Q:Int×Int×Nat->Shared->Prop}(hs:s.heap.IsSliceOf sl vl vu .none)(pl:IsPart vl lo)(pu:IsPart vu hi)
   (h:Q (((sIx n 0 lo:Nat):Int),1,sIx n n hi-sIx n 0 lo) s):wpAny (model prog w) A (Builtin.Slice.sliceApplied (.ref sl) (pure (n:Int))) Q E s:=by
 obtain⟨os,hos,hcs,hds⟩:=id hs;unfold Builtin.Slice.sliceApplied Builtin.Slice.sliceFields;refine z43 (z43 (wpAny_field hos hds (x:=vl) rfl (z43 (wpAny_field hos hds (x:=vu) rfl (z43 (wpAny_field hos hds (x:=.none) rfl (z5n ?_)))))));refine z43 (slicePart_none ?_);show wpAny _ _ (if((1:Int)==0)=true then _ else _) _ _ s;rw[z5y (by decide)];refine z43 (ze7 pl (z43 (ze7 pu (z43 (z5n ?_)))));show wpAny _ _ (match Builtin.Slice.sliceAdjust lo hi 1 (n:Int)with | (lo,hi)=>pure (lo,(1:Int),Builtin.Slice.slicePlaces lo hi 1)) _ _ s;rw[zmq lo hi n];show wpAny _ _ (pure (((sIx n 0 lo:Nat):Int),(1:Int),Builtin.Slice.slicePlaces ((sIx n 0 lo:Nat):Int) ((sIx n n hi:Nat):Int) 1)) _ _ s;rw[zlt];exact z5n h
theorem zq1(xs:Array Value)(i k:Nat):((List.range k).filterMap fun(m:Nat)=>xs[((i:Int)+(m:Int)*1).toNat]?).toArray=((xs.toList.drop i).take k).toArray:=by
 have e:(fun(m:Nat)=>xs[((i:Int)+(m:Int)*1).toNat]?)=fun m=>xs[i+m]?:=by
   funext m;have:((i:Int)+(m:Int)*1).toNat=i+m:=by omega
   rw[this]
 rw[e];have:=pick_run xs i k;rw[List.filterMap_map]at this;have e2:((fun x=>xs[x]?)∘fun x=>i+x)=fun m=>xs[i+m]?:=rfl;rw[e2]at this;rw[this]
theorem getItem_tuple_cut{t sl:Addr}{items:Array Value}{vl vu:Value}{lo hi:Option Int}{Q:zVP}(ht:IsTup s.heap t items)(hs:s.heap.IsSliceOf sl vl vu .none)(pl:IsPart vl lo)(pu:IsPart vu hi)
   (hw:¬ (sIx items.size 0 lo=0/\sIx items.size items.size hi=items.size))
   (h:Q (.ref s.heap.objs.size) { s with heap:=s.heap.push { cls:=.type "tuple",data:=.seq ((items.toList.drop (sIx items.size 0 lo)).take (sIx items.size items.size hi-sIx items.size 0 lo)).toArray } })
   (hsz:items.size<=sizeLine):wpAny (model prog w) A (getItem (.ref t) (.ref sl)) Q E s:=by
 have htake:sizeOk (.seq ((items.toList.drop (sIx items.size 0 lo)).take (sIx items.size items.size hi-sIx items.size 0 lo)).toArray):=by show((items.toList.drop (sIx items.size 0 lo)).take (sIx items.size items.size hi-sIx items.size 0 lo)).toArray.size<=sizeLine;rw[z5f,z5m,z5w,Array.length_toList];omega
 have hj:sIx items.size items.size hi<=items.size:=zxr _ _ (z44 _) hi;obtain⟨os,hos,hcs,hds⟩:=id hs;have hTs:s.TypeIs (.ref sl) "slice":=⟨os,hos,hcs⟩
 unfold getItem
 try with_reducible refine wpAny_holding ?_
 first | refine z43 (z5n ?_) | skip
 refine z43 (wpAny_sequenceKey ht.typeIs (by decide) ?_);refine z43 (wpAny_callSpecial?_slot (name:=Str.ofString "__getitem__") ht.typeIs z79
   (wpAny_call_entry z79 ht.typeIs entry_tuple_getitem ?_ (args_tuple_getitem _ _)))
 show wpAny _ _ (Builtin.Tuple.tupleItemsOf (.ref t) >>= _) _ _ s;refine z43 (tupleItemsOf_ ht ?_);refine z43 (wpAny_typeOf hTs ?_);rw[z5s (by decide)];refine z43 (zc2 hs pl pu ?_);have hno:¬ ((((sIx items.size 0 lo:Nat):Int)==0&&(1:Int)==1&&(sIx items.size items.size hi-sIx items.size 0 lo)==items.size)=true):=by intro q;rw[z6l,z6l]at q;have q1:((sIx items.size 0 lo:Nat):Int)=0:=eq_of_beq q.1.1;have q2:sIx items.size items.size hi-sIx items.size 0 lo=items.size:=eq_of_beq q.2;exact hw ⟨by omega,by omega⟩
 show wpAny _ _ (if(((sIx items.size 0 lo:Nat):Int)==0&&(1:Int)==1&&(sIx items.size items.size hi-sIx items.size 0 lo)==items.size)=true then _ else _) _ _ s;rw[z5y hno,zq1]
 first
   |exact z43 (m:=Builtin.Tuple.tupleExact _) (z8s (z5n ⟨_,rfl,z5n h⟩) htake)
   |exact z43 (m:=Builtin.Tuple.tupleExact _) (z8s (z43 (z5n (z5n ⟨_,rfl,z5n h⟩))) htake)
   |exact z43 (z43 (m:=Builtin.Tuple.tupleExact _) (z8s (z5n (z5n ⟨_,rfl,z5n h⟩)) htake))
   |exact z43 (z43 (m:=Builtin.Tuple.tupleExact _) (z8s (z5n ⟨_,rfl,z5n h⟩) htake))
end
end HT
namespace L2
open PySem PySem.Spec PyProof.Rows
abbrev TO:=St->Hp->(Option Int->Hp->Prop)->Prop
def PO(X:Cx)(e:Option Expr)(t:TO):Prop :=
 ∀(pins:zAO) (s:Shared) (σ:St) (H:Hp) (Q:Option Int->Hp->Prop),Inv X pins σ H s->t σ H Q ->
   wpAny (model X.prog X.w) X.A (evalPart e X.env) (fun u s'=>∃o H',Inv X pins σ H' s'/\IsPart u o/\Q o H') X.xe s
def zue:TO:=fun _ H Q=>Q none H
def z1m(t:TE):TO:=fun σ H Q=>t σ H fun x H1=>∃i,x=.int i/\Q (some i) H1
section
variable {X:Cx}{e:Expr}{te:TE}{lo hi:Option Expr}{tl th:TO}{pos p2:Pos}
theorem zu6:PO X none zue:=by intro pins s σ H Q I h;rw[evalPart_none];exact z5n ⟨none,H,I,.none,h⟩
theorem zu5(h:PE X e te):PO X (some e) (z1m te):=by intro pins s σ H Q I hw;rw[evalPart_some];refine thn (h pins s σ H _ I hw) fun u s1 ⟨x,H1,I1,r1,q1⟩=>?_;obtain⟨i,rfl,q⟩:=q1;obtain⟨t,rfl⟩:=r1;exact⟨some i,H1,I1,.int i t,q⟩
def SlR(X:Cx)(r:V->Option Int->Option Int->Hp->VK->Prop):Prop :=
 ∀(pins:zAO) (s:Shared) (σ:St) (H:Hp) (x:V) (v vl vu:Value) (lo hi:Option Int) (sl:Addr) (Q:VK),Inv X pins σ H s->RelV x v->s.heap.IsSliceOf sl vl vu .none->IsPart vl lo->IsPart vu hi->r x lo hi H Q ->
   ∃T id,typeLookup (.type T) "__getitem__"=pure (some (.builtin id))/\s.TypeIs v T/\wpAny (model X.prog X.w) X.A (getItem v (.ref sl)) (EP X pins σ Q) X.xe s
theorem SlR.or{r r':V->Option Int->Option Int->Hp->VK->Prop}(h:SlR X r)(h':SlR X r'):SlR X (fun x lo hi H Q=>r x lo hi H Q\/r' x lo hi H Q):=by
 intro pins s σ H x v vl vu lo hi sl Q I rx hs pl pu q;rcases q with q | q
 · exact h pins s σ H x v vl vu lo hi sl Q I rx hs pl pu q
 · exact h' pins s σ H x v vl vu lo hi sl Q I rx hs pl pu q
def tSl(r:V->Option Int->Option Int->Hp->VK->Prop)(te:TE)(tl th:TO):TE:=fun σ H Q=>te σ H fun x H1=>tl σ H1 fun l H2=>th σ H2 fun u H3=>r x l u H3 Q
theorem zkc{r:V->Option Int->Option Int->Hp->VK->Prop}(hr:SlR X r)(he:PE X e te)(hl:PO X lo tl)(hu:PO X hi th):PE X (.Subscript e (.Slice lo hi none p2) pos) (tSl r te tl th):=by intro pins s σ H Q I h;refine Subscript_ (thn (he pins s σ H _ I h) fun v s1 ⟨x,H1,I1,r1,q1⟩=>?_);refine wpAny_Slice (thn (hl pins s1 σ H1 _ I1 q1) fun vl s2 ⟨l,H2,I2,pl,q2⟩=>thn (hu pins s2 σ H2 _ I2 q2) fun vu s3 ⟨u,H3,I3,pu,q3⟩=>?_);rw[evalPart_none];refine z5n ?_;have I4:Inv X pins σ H3 { s3 with heap:=s3.heap.push { cls:=.type "slice",data:=.fields #[vl,vu,.none] } }:=I3.kept (t':=s3.toks) fun b ob q=>z48 _ q;obtain⟨T,id,hT,ht,hg⟩:=hr pins { s3 with heap:=s3.heap.push { cls:=.type "slice",data:=.fields #[vl,vu,.none] } } σ H3 x v vl vu l u s3.heap.objs.size Q I4 r1 (Heap.IsSliceOf.new ..) pl pu q3;show wpAny (model X.prog X.w) X.A (subscriptTail e (.Slice lo hi none p2) v (.ref s3.heap.objs.size)) (EP X pins σ Q) X.xe { s3 with heap:=s3.heap.push { cls:=.type "slice",data:=.fields #[vl,vu,.none] } };exact tail_any (ops:=[.ref s3.heap.objs.size,v]) ht hT hg (by with_unfolding_all rfl)
def zty(xs:List V)(lo hi:Option Int):List V:=(xs.drop (HT.sIx xs.length 0 lo)).take (HT.sIx xs.length xs.length hi-HT.sIx xs.length 0 lo)
theorem zei(xs:List V)(lo hi:Option Int):(zty xs lo hi).length<=xs.length:=by unfold zty;rw[z5m,z5w];omega
def z4h(K:zFr):V->Option Int->Option Int->Hp->VK->Prop:=fun x lo hi H Q=>∃a xs,x=.ref a/\SqT K H a xs /\
 ¬ (HT.sIx xs.length 0 lo=0/\HT.sIx xs.length xs.length hi=xs.length)/\∀p,H p=none->Q (.ref p) (upd H p (.tup (zty xs lo hi)))
theorem zxg:SlR X (z4h X.K):=by
 intro pins s σ H x v vl vu lo hi sl Q I rx hs pl pu h;obtain⟨a,xs,rfl,hx,hw,q⟩:=h;cases rx;obtain⟨its,r,ht,hz⟩:=I.tuple hx;have hlen:its.toArray.size=xs.length:=by rw[z5f];exact r.length.symm
 refine⟨"tuple",_,z79.lookup,ht.typeIs,?_⟩;refine HT.getItem_tuple_cut ht hs pl pu (by rw[hlen];exact hw) ?_ (by rw[hlen];exact hz);rw[hlen];refine⟨.ref s.heap.objs.size,_,I.laid (t':=s.toks) (o:=.tup (zty xs lo hi)) (fun b ob q=>z48 _ q) (z44 _) ?_,rfl,q _ (I.hok.fresh (z44 _))⟩;exact⟨z5u (zei xs lo hi) hz,_,(r.drop (HT.sIx xs.length 0 lo)).take (HT.sIx xs.length xs.length hi-HT.sIx xs.length 0 lo),IsTup.new _ _⟩
def zxx(K:zFr):R2:=fun x y H Q=>∃a b xs ys,x=.ref a/\y=.ref b/\SqT K H a xs/\SqT K H b ys/\xs≠[]/\xs.length+ys.length<=sizeLine /\
 (ys=[]->Q (.ref a) H)/\(ys≠[]->∀p,H p=none->Q (.ref p) (upd H p (.tup (xs++ys))))
theorem Vals.nil_iff{xs:List V}{us:List Value}(r:Vals xs us):us=[]↔xs=[]:=by
 cases r with
 |nil=>simp
 |cons _ _=>simp
theorem op_catT:OpR X (binaryOp .Add) (zxx X.K):=by intro pins s σ H x y v u Q I rx ry h;obtain⟨a,b,xs,ys,rfl,rfl,ha,hb,hx,hz,q1,q2⟩:=h;cases rx;cases ry;obtain⟨its,r1,p1,_⟩:=I.tuple ha;obtain⟨its2,r2,p2,_⟩:=I.tuple hb;refine HT.cat_tup p1 p2 (fun z=>hx (r1.nil_iff.mp z)) (fun z=>⟨.ref a,H,I,rfl,q1 (r2.nil_iff.mp z)⟩) (fun z=>?_) (by rw[<-r1.length,<-r2.length];exact hz);refine⟨.ref s.heap.objs.size,_,I.laid (t':=s.toks) (o:=.tup (xs++ys)) (fun b ob q=>z48 _ q) (z44 _) ?_,rfl,q2 (fun w=>z (r2.nil_iff.mpr w)) _ (I.hok.fresh (z44 _))⟩;exact⟨by rw[z42];exact hz,_,r1.append r2,IsTup.new _ _⟩
end
def ixN(n:Nat)(i:Int):Option Nat:=if 0<=i then (if i<n then some i.toNat else none)else if -(n:Int)<=i then some (i+n).toNat else none
def atI{α:Type}(xs:List α)(i:Int):Option α:=(ixN xs.length i).bind fun j=>xs[j]?
theorem zvq{n:Nat}{i:Int}{j:Nat}(h:ixN n i=some j):seqIndex? i n=some j/\j<n/\-(n:Int)<=i/\i<n:=by
 unfold ixN at h;by_cases h0:0<=i
 · rw[z5s h0]at h;by_cases h1:i<n
   · rw[z5s h1]at h;have e:i.toNat=j:=z58 h;exact⟨by rw[seqIndex_of h0 h1,e],by omega,by omega,h1⟩
   · rw[z5y h1]at h;cases h
 · rw[z5y h0]at h;by_cases h1:-(n:Int)<=i
   · rw[z5s h1]at h;have e:(i+n).toNat=j:=z58 h;exact⟨by rw[seqIndex_neg (by omega) h1,e],by omega,h1,by omega⟩
   · rw[z5y h1]at h;cases h
theorem zjp{α:Type}{xs:List α}{i:Int}{v:α}(h:atI xs i=some v):∃j,seqIndex? i xs.length=some j/\xs[j]? = some v/\j<xs.length/\-(xs.length:Int)<=i/\i<xs.length:=by
 unfold atI at h;cases e:ixN xs.length i with
 |none=>rw[e]at h;cases h
 | some j=>
   rw[e]at h;obtain⟨h1,h2,h3,h4⟩:=zvq e;exact⟨j,h1,h,h2,h3,h4⟩
theorem zer{α:Type}{xs:List α}{j:Nat}{v:α}(h:xs[j]? = some v):atI xs (j:Int)=some v:=by
 have hj:j<xs.length:=(z5b.mp h).1;have e:ixN xs.length (j:Int)=some j:=by unfold ixN;rw[z5s (by omega),z5s (by omega)];simp
 unfold atI;rw[e];exact h
def zp6(b:Expr):Prop:=∀o i,subscripted b false o i=operate [o,i] (getItem o i)
def IxR(X:Cx)(r:R2):Prop :=
 ∀(value slice:Expr) (pins:zAO) (s:Shared) (σ:St) (H:Hp) (x y:V) (v u:Value) (Q:VK),Inv X pins σ H s->RelV x v->RelV y u->r x y H Q ->
   subscripted slice false v u=operate [v,u] (getItem v u)->wpAny (model X.prog X.w) X.A (subscriptTail value slice v u) (EP X pins σ Q) X.xe s
def MtR(X:Cx)(id:String)(r:V->List V->Hp->VK->Prop):Prop :=
 ∀(pins:zAO) (s:Shared) (σ:St) (H:Hp) (x:V) (xs:List V) (v:Value) (us:List Value) (Q:VK),Inv X pins σ H s->RelV x v->Vals xs us->r x xs H Q ->
   wpAny (model X.prog X.w) X.A (call (.builtin id) (v::us)) (EP X pins σ Q) X.xe s
section
variable {X:Cx}{a b:Expr}{ta tb:TE}{pos:Pos}
theorem IxR.or{r r':R2}(h:IxR X r)(h':IxR X r'):IxR X (fun x y H Q=>r x y H Q\/r' x y H Q):=by
 intro value slice pins s σ H x y v u Q I rx ry q hs;rcases q with q | q
 · exact h value slice pins s σ H x y v u Q I rx ry q hs
 · exact h' value slice pins s σ H x y v u Q I rx ry q hs
theorem z15{r:R2}(hr:IxR X r)(ha:PE X a ta)(hb:PE X b tb)(hs:zp6 b):PE X (.Subscript a b pos) (tOp r ta tb):=by intro pins s σ H Q I h;exact Subscript_ (z21 ha hb I h fun v u s2 x y H2 I2 rx ry q=>hr a b pins s2 σ H2 x y v u Q I2 rx ry q (hs _ _))
def z3h(K:zFr):R2:=fun x y H Q=>∃p xs i v,x=.ref p/\y=.int i/\SqL K H p xs/\atI xs i=some v/\Q v H
def z3f(K:zFr):R2:=fun x y H Q=>∃p xs i v,x=.ref p/\y=.int i/\SqT K H p xs/\atI xs i=some v/\Q v H
def z3g:R2:=fun x y H Q=>∃z i c,x=.str z/\y=.int i/\z.length<=sizeLine/\atI z.cps.toList i=some c/\Q (.str ⟨#[c]⟩) H
theorem ix_list:IxR X (z3h X.K):=by
 intro value slice pins s σ H x y v u Q I rx ry h hs;obtain⟨p,xs,i,z,rfl,rfl,hq,he,q⟩:=h;cases rx;obtain⟨t,rfl⟩:=ry;obtain⟨its,r,pl,hz⟩:=I.list hq;obtain⟨j,h1,h2,h3,h4,h5⟩:=zjp he;obtain⟨w,ew,rw'⟩:=r.get h2;have hl:=r.length;have hn:=zhe;have fin:EP X pins σ Q w s:=⟨z,H,I,rw',q⟩
 by_cases h0:0<=i
 · have hj:i.toNat=j:=by rw[seqIndex_of h0 h5]at h1;exact z58 h1
   exact item_listR pl.isList h0 (by omega) (by rw[hj];simpa using ew) fin hs
 · have hj:(i+(its.toArray.size:Int)).toNat=j:=by rw[seqIndex_neg (by omega) h4]at h1;rw[z5f,<-hl];exact z58 h1
   exact subscriptTail_builtinR (x:=w) pl.isList.typeIs slot_list_getitem.lookup
     (wpAny_getItem_list_neg (Q:=fun r s'=>r=w/\EP X pins σ Q r s') pl.isList (by omega) (by rw[z5f]<;>omega) (by omega) (by rw[hj];simpa using ew) ⟨rfl,fin⟩) hs
theorem ix_tup:IxR X (z3f X.K):=by
 intro value slice pins s σ H x y v u Q I rx ry h hs;obtain⟨p,xs,i,z,rfl,rfl,hq,he,q⟩:=h;cases rx;obtain⟨t,rfl⟩:=ry;obtain⟨its,r,pl,hz⟩:=I.tuple hq;obtain⟨j,h1,h2,h3,h4,h5⟩:=zjp he;obtain⟨w,ew,rw'⟩:=r.get h2;have hl:=r.length;have hn:=zhe;have fin:EP X pins σ Q w s:=⟨z,H,I,rw',q⟩
 exact subscriptTail_builtinR (x:=w) pl.typeIs slot_tuple_getitem.lookup
   (getItem_tuple (j:=j) (Q:=fun r s'=>r=w/\EP X pins σ Q r s') pl (by omega) (by omega) (by rw[z5f,<-hl];exact h1) (by simpa using ew) ⟨rfl,fin⟩) hs
theorem zzn:IxR X z3g:=by
 intro value slice pins s σ H x y v u Q I rx ry h hs;obtain⟨z,i,c,rfl,rfl,hz,he,q⟩:=h;obtain⟨t,rfl⟩:=rx;obtain⟨t',rfl⟩:=ry;obtain⟨j,h1,h2,h3,h4,h5⟩:=zjp he;have hl:z.cps.toList.length=z.length:=by simp[Str.length]
 rw[hl]at h1 h4 h5;have hn:=zhe;exact tail_any (typeIs_str s z t) slot_str_getitem.lookup (getItem_str (c:=c) (by
   have e1:decide (i < -(2^63:Int))=false:=z5o (by omega);have e2:decide (i ≥ 2^63)=false:=z5o (by omega);rw[e1,e2,Bool.or_false]) (by rw[h1];simpa using h2) ⟨.str ⟨#[c]⟩,H,I.tok _,⟨_,rfl⟩,q⟩) hs
def rIx(K:zFr):R2:=fun x y H Q=>z3h K x y H Q\/z3f K x y H Q\/z3g x y H Q
theorem zzo:IxR X (rIx X.K):=ix_list.or (ix_tup.or zzn)
theorem zg6(lo hi:Option Int)(n:Nat):(sliceBounds lo hi none n).1=((HT.sIx n 0 lo:Nat):Int)/\(sliceBounds lo hi none n).2.1=((HT.sIx n n hi:Nat):Int)/\(sliceBounds lo hi none n).2.2=1:=by
 refine⟨?_,?_,rfl⟩
 · cases lo with
   |none=>simp[sliceBounds,HT.sIx]
   | some i=>
     simp only[sliceBounds,HT.sIx,Option.getD_none,show(1:Int)>0 by decide,z61];by_cases h:i<0
     · simp only[h,z61]<;>omega
     · simp only[h,z6i]<;>omega
 · cases hi with
   |none=>simp[sliceBounds,HT.sIx]
   | some i=>
     simp only[sliceBounds,HT.sIx,Option.getD_none,show(1:Int)>0 by decide,z61];by_cases h:i<0
     · simp only[h,z61]<;>omega
     · simp only[h,z6i]<;>omega
theorem zfw(its:List Value)(lo hi:Option Int):slicePick its.toArray lo hi none=((its.drop (HT.sIx its.length 0 lo)).take (HT.sIx its.length its.length hi-HT.sIx its.length 0 lo)).toArray:=by obtain⟨h1,h2,h3⟩:=zg6 lo hi its.toArray.size;unfold slicePick;rw[h1,h2,h3];simp only[sliceRange_one,pick_run,z5f]<;>rfl
def z4j(K:zFr):V->Option Int->Option Int->Hp->VK->Prop:=fun x lo hi H Q=>∃a xs,x=.ref a/\SqL K H a xs/\∀p,H p=none->Q (.ref p) (upd H p (.lst (zty xs lo hi)))
theorem sl_list:SlR X (z4j X.K):=by intro pins s σ H x v vl vu lo hi sl Q I rx hs pl pu h;obtain⟨a,xs,rfl,hx,q⟩:=h;cases rx;obtain⟨its,r,ht,hz⟩:=I.list hx;have hlen:=r.length;refine⟨"list",_,slot_list_getitem.lookup,ht.isList.typeIs,?_⟩;refine wpAny_getItem_list_slice ht.isList hs pl pu .none (by simp) ?_ (by rw[z5f]<;>omega);rw[zfw,<-hlen];refine⟨.ref s.heap.objs.size,_,I.laid (t':=s.toks) (o:=.lst (zty xs lo hi)) (fun b ob q=>z48 _ q) (z44 _) ?_,rfl,q _ (I.hok.fresh (z44 _))⟩;exact⟨z5u (zei xs lo hi) hz,_,0,(r.drop (HT.sIx xs.length 0 lo)).take (HT.sIx xs.length xs.length hi-HT.sIx xs.length 0 lo),z53 _ rfl⟩
def zi5:V->Bool
 | .non=>true
 | .bl _=>true
 | .int _=>true
 | .str _=>true
 |_=>false
def eqV:V->V->Bool
 | .non,.non=>true
 | .bl a,.bl b=>a==b
 | .bl a,.int b=>(if a then 1 else 0)==b
 | .int a,.bl b=>a==(if b then 1 else 0)
 | .int a,.int b=>a==b
 | .str a,.str b=>a==b
 |_,_=>false
theorem ztr{A:Around}{s:Shared}{y x:V}{u v:Value}(ry:RelV y u)(rx:RelV x v)(fy:zi5 y=true)(fx:zi5 x=true):SeqAt.EqAt A s u v (eqV y x):=by
 cases y with
 | non=>
   cases ry;cases x with
   |non=>cases rx;exact SeqAt.EqAt.same _
   |bl b=>cases rx;exact SeqAt.EqAt.none_bool b
   |int b=>obtain⟨t,rfl⟩:=rx;exact SeqAt.EqAt.none_int b t
   |str b=>obtain⟨t,rfl⟩:=rx;exact SeqAt.EqAt.none_str b t
   |_=>exact absurd (show false=true from fx) z6m
 | bl a=>
   cases ry;cases x with
   |non=>cases rx;exact SeqAt.EqAt.bool_none a
   |bl b=>cases rx;exact SeqAt.EqAt.bool_bool a b
   |int b=>obtain⟨t,rfl⟩:=rx;exact SeqAt.EqAt.bool_int a b t
   |str b=>obtain⟨t,rfl⟩:=rx;exact SeqAt.EqAt.bool_str a b t
   |_=>exact absurd (show false=true from fx) z6m
 | int a=>
   obtain⟨t',rfl⟩:=ry;cases x with
   |non=>cases rx;exact SeqAt.EqAt.int_none a t'
   |bl b=>cases rx;exact SeqAt.EqAt.int_bool a t' b
   |int b=>obtain⟨t,rfl⟩:=rx;exact SeqAt.EqAt.int_int a t' b t
   |str b=>obtain⟨t,rfl⟩:=rx;exact SeqAt.EqAt.int_str a t' b t
   |_=>exact absurd (show false=true from fx) z6m
 | str a=>
   obtain⟨t',rfl⟩:=ry;cases x with
   |non=>cases rx;exact SeqAt.EqAt.str_none a t'
   |bl b=>cases rx;exact SeqAt.EqAt.str_bool a t' b
   |int b=>obtain⟨t,rfl⟩:=rx;exact SeqAt.EqAt.str_int a t' b t
   |str b=>obtain⟨t,rfl⟩:=rx;exact SeqAt.EqAt.str_str a t' b t
   |_=>exact absurd (show false=true from fx) z6m
 |_=>exact absurd (show false=true from fy) z6m
theorem call_len_seq:CallR X (.builtin "len") (fun xs H Q=>∃p ys,xs=[.ref p]/\(SqL X.K H p ys\/SqT X.K H p ys)/\Q (.int ys.length) H):=by
 intro pins s σ H xs us Q I r h;obtain⟨p,ys,rfl,hq,q⟩:=h;obtain⟨u,rfl,rx⟩:=zp9 r;cases rx;have hn:=zhe;rcases hq with hq | hq
 · obtain⟨its,r',pl,hz⟩:=I.list hq;have hlen:=r'.length;exact Calls.call_len_list pl.isList (by simp only[z5f]<;>omega) ⟨.int ys.length,H,I.tok _,⟨s.toks+1,by rw[z5f,hlen]⟩,q⟩
 · obtain⟨its,r',pl,hz⟩:=I.tuple hq;have hlen:=r'.length;exact len_tuple pl (by simp only[z5f]<;>omega) ⟨.int ys.length,H,I.tok _,⟨s.toks+1,by rw[z5f,hlen]⟩,q⟩
theorem zhx:CallR X (.builtin "len") (fun xs H Q=>∃z,xs=[.str z]/\z.length<=sizeLine/\Q (.int z.length) H):=by intro pins s σ H xs us Q I r h;obtain⟨z,rfl,hz,q⟩:=h;obtain⟨u,rfl,t,rfl⟩:=zp9 r;have hn:=zhe;exact len_str (by omega) ⟨.int z.length,H,I.tok _,⟨_,rfl⟩,q⟩
theorem CallR.or{f:Value}{r r':List V->Hp->VK->Prop}(h:CallR X f r)(h':CallR X f r'):CallR X f (fun xs H Q=>r xs H Q\/r' xs H Q):=by
 intro pins s σ H xs us Q I rs q;rcases q with q | q
 · exact h pins s σ H xs us Q I rs q
 · exact h' pins s σ H xs us Q I rs q
theorem zcy:CallR X (.type "list") (fun xs H Q=>∃p ys,xs=[.ref p]/\(SqL X.K H p ys\/SqT X.K H p ys)/\∀l,H l=none->Q (.ref l) (upd H l (.lst ys))):=by
 intro pins s σ H xs us Q I r h;obtain⟨p,ys,rfl,hq,q⟩:=h;obtain⟨u,rfl,rx⟩:=zp9 r;cases rx;have fin:∀(its:List Value),Vals ys its->ys.length<=sizeLine->∀(h':Heap) (c':Nat),(∀b o',s.heap.get? b=some o'->h'.get? b=some o') ->
     h'.get? s.heap.objs.size=some { cls:=.type "list",dict:=none,data:=.seq its.toArray c',slots:=#[] }->EP X pins σ Q (.ref s.heap.objs.size) { s with heap:=h' }:=fun its r' hz h' c' kp e=>
   ⟨.ref s.heap.objs.size,_,I.laid (t':=s.toks) kp (z44 _) (show ObjOk X.prog X.w _ h' _ (.lst ys) from⟨hz,its,c',r',e⟩),rfl,q _ (I.hok.fresh (z44 _))⟩
 rcases hq with hq | hq
 · obtain⟨its,r',pl,hz⟩:=I.list hq;have hlen:=r'.length;obtain⟨o,ho,hc,n,hd⟩:=pl.isList;exact call_list_seq p (.inl rfl) ho hc hd (fun h' c' kp e=>fin its r' hz h' c' kp e) (by simp only[z5f]<;>omega)
 · obtain⟨its,r',pl,hz⟩:=I.tuple hq;have hlen:=r'.length;obtain⟨o,ho,hc,n,hd⟩:=pl;exact call_list_seq p (.inr rfl) ho hc hd (fun h' c' kp e=>fin its r' hz h' c' kp e) (by simp only[z5f]<;>omega)
def tyV(K:zFr)(T:String)(x:V)(H:Hp):Prop:=match x with
 | .str _=>T="str"
 | .int _=>T="int"
 | .ref p=>(T="list"/\∃xs,SqL K H p xs)\/(T="tuple"/\∃o,K.lookup p=some o/\o.cls=.type "tuple"/\o.dict=none) \/
     (T="dict"/\((∃kvs,H p=some (.dK kvs))\/∃kvs,H p=some (.dT kvs)))\/(T="set"/\∃S n,H p=some (.set S n))
 |_=>False
theorem zw5{pins:zAO}{σ:St}{H:Hp}{s:Shared}{T:String}{x:V}{v:Value}(I:Inv X pins σ H s)(r:RelV x v)(ty:tyV X.K T x H) :
   s.TypeIs v T/\∀a,v=.ref a->∃ob,s.heap.get? a=some ob/\ob.dict=none:=by
 cases x with
 | str z=>
   obtain⟨t,rfl⟩:=r;cases(show T="str" from ty);exact⟨typeIs_str s z t,fun _ e=>nomatch e⟩
 | int i=>
   obtain⟨t,rfl⟩:=r;cases(show T="int" from ty);exact⟨typeIs_int s i t,fun _ e=>nomatch e⟩
 | ref p=>
   cases r;rcases ty with⟨rfl,xs,hq⟩ | ⟨rfl,o,hk,hc,hd⟩ | ⟨rfl,hk⟩ | ⟨rfl,S,n,hk⟩
   · obtain⟨its,_,pl,_⟩:=I.list hq;refine⟨pl.isList.typeIs,fun a e=>?_⟩;cases e;obtain⟨o,n,e,c,hd,_⟩:=pl;exact⟨o,e,hd⟩
   · refine⟨⟨o,I.kIn p o hk,hc⟩,fun a e=>?_⟩;cases e;exact⟨o,I.kIn _ o hk,hd⟩
   · have z:∃o,s.heap.get? p=some o/\o.ExactDict:=by
       rcases hk with⟨kvs,hk⟩ | ⟨kvs,hk⟩
       · obtain⟨_,_,_,_,o,_,_,e,ex,_⟩:=I.hok p _ hk;exact⟨o,e,ex⟩
       · obtain⟨_,_,_,_,o,_,_,e,ex,_⟩:=I.hok p _ hk;exact⟨o,e,ex⟩
     obtain⟨o,e,ex⟩:=z;refine⟨⟨o,e,ex.1⟩,fun a e2=>?_⟩;cases e2;exact⟨o,e,ex.2.1⟩
   · obtain⟨o,_,_,_,e,ex,_⟩:=I.hok p _ hk;refine⟨⟨o,e,ex.1⟩,fun a e2=>?_⟩;cases e2;exact⟨o,e,ex.2.1⟩
 |_=>exact False.elim ty
def tBM(K:zFr)(T:String)(r:V->List V->Hp->VK->Prop)(to:TE)(t:TA):TE:=fun σ H Q=>to σ H fun x H1=>tyV K T x H1/\t σ H1 fun xs H2=>r x xs H2 Q
variable {o e:Expr}{es:List Expr}{to:TE}{t:TA}{name:Str}{apos cpos:Pos}{T id:String}{r:V->List V->Hp->VK->Prop}
theorem z16(pa:PlainAttrs T)(slot:Slot T name id)(hty:typeOf (.builtin id)=pure (.type "method_descriptor"))(hm:MtR X id r)(ho:PE X o to)(ha:PA X (e::es) t)
   (hbase:attributeBase o name X.env (eval o X.env)=eval o X.env:=by rfl)
   (hfew:((backTo cpos (starEach (e::es) X.env)).all (fun x=>!x.1)&&(backToKw cpos (keywordEach [] X.env)).all (fun x=>x.1.isSome)
     && decide ((e::es).length+([]:List Keyword).length+(if([]:List Keyword).isEmpty then 0 else 1)<30))=true:=by rfl)
   (hline:(apos.endLine==cpos.line)=true:=by rfl) (hs:starEach (e::es) X.env=(false,eval e X.env)::starEach es X.env:=by rfl) (hplain:(backTo cpos (starEach es X.env)).any (·.1)=false:=by rfl) :
   PE X (.Call (.Attribute o name apos) (e::es) [] cpos) (tBM X.K T r to t):=by
 intro pins s σ H Q I h;refine wpAny_Call_method_late hbase hfew hline rfl (thn (ho pins s σ H _ I h) fun v s1 ⟨x,H1,I1,r1,ty,q1⟩=>?_);obtain⟨h1,h2⟩:=zw5 I1 r1 ty;refine⟨T,id,pa,slot,hty,h1,h2,?_⟩;have hA:=ha cpos pins s1 σ H1 _ I1 q1;rw[hs]at hA ⊢;refine Calls.callWith_builtin (by show(false||(backTo cpos (starEach es X.env)).any (·.1))=false;rw[hplain]<;>rfl) (Calls.evalArgs_plain ?_);exact thn hA fun us s2 ⟨vs,H2,I2,r2,q2⟩=>hm pins s2 σ H2 x vs v us Q I2 r1 r2 q2
/- xs.append(e),list.index on a module's tuple .. are MtR facts of 06m -/
end
def MtM(X:Cx)(id:String)(r:V->List V->Hp->VK->Prop):Prop :=
 ∀(pins:zAO) (s:Shared) (σ:St) (H:Hp) (x:V) (xs:List V) (v:Value) (us:List Value) (Q:VK),Inv X pins σ H s->RelV x v->Vals xs us->r x xs H Q ->
   wpAny (model X.prog X.w) X.A (call (.builtin id) (v::us)) (EP X pins σ Q) X.xe s
theorem Vals.one:∀{x:V}{us:List Value},Vals [x] us->∃u,us=[u]/\RelV x u
 |_,_,.cons r .nil=>⟨_,rfl,r⟩
theorem Vals.dropLast{xs:List V}{us:List Value}(h:Vals xs us):Vals xs.dropLast us.dropLast:=by
 induction h with
 |nil=>exact .nil
 | cons r t ih=>
   cases t with
   |nil=>exact .nil
   |cons q t'=>exact .cons r ih
theorem Vals.reverse{xs:List V}{us:List Value}(h:Vals xs us):Vals xs.reverse us.reverse:=by
 induction h with
 |nil=>exact .nil
 |cons r t ih=>rw[z8t,z8t];exact Vals.append ih (.cons r .nil)
section
variable {X:Cx}{pins:zAO}{σ:St}{H:Hp}{s:Shared}{l b:Addr}{xs ys zs:List V}
theorem Inv.lset{its its':List Value}{n:Nat}{f:Array Value->Array Value}{t':Nat}(I:Inv X pins σ H s)(hH:H l=some (.lst xs))
   (e:s.heap.get? l=some { cls:=.type "list",data:=.seq its.toArray n }) (hf:f its.toArray=its'.toArray) (hv:Vals ys its') (hz:ys.length<=sizeLine) :
   Inv X pins σ (upd H l (.lst ys)) { s with heap:=s.heap.update l (Obj.mapSeq f),toks:=t' }:=by
 have q:=PySem.IsL.update e f;rw[hf]at q;refine I.write (x:=l) (e:=l) (by rw[hH];exact trivial) (.inl rfl) (fun b' u hb hu=>(z9g s.heap (Obj.mapSeq f) (z7q hb)).trans hu) ⟨_,q⟩ ?_;exact⟨hz,its',_,hv,q⟩
theorem Inv.lnew{its:List Value}{t':Nat}(I:Inv X pins σ H s)(hv:Vals ys its)(hz:ys.length<=sizeLine) :
   Inv X pins σ (upd H s.heap.objs.size (.lst ys)) { s with heap:=s.heap.push { cls:=.type "list",data:=.seq its.toArray },toks:=t' } :=
 I.laid (fun _ _ q=>z48 _ q) (z44 _) ⟨hz,its,0,hv,z53 _ rfl⟩
theorem Inv.fresh(I:Inv X pins σ H s):H s.heap.objs.size=none:=I.hok.fresh (z44 _)
theorem Inv.lstM(I:Inv X pins σ H s)(hH:H l=some (.lst xs)):xs.length<=sizeLine/\∃(its:List Value) (n:Nat),Vals xs its/\xs.length=its.length/\s.heap.get? l=some { cls:=.type "list",data:=.seq its.toArray n }:=by obtain⟨z,its,n,r,e⟩:=I.hok l _ hH;exact⟨z,its,n,r,r.length,e⟩
end
section
variable {X:Cx}
def zuy:V->List V->Hp->VK->Prop:=fun x vs H Q=>∃l xs y,x=.ref l/\vs=[y]/\H l=some (.lst xs)/\xs.length<sizeLine/\Q .non (upd H l (.lst (xs++[y])))
theorem zoa:MtM X "list.append" zuy:=by intro pins s σ H x vs v us Q I rx rv h;obtain⟨l,xs,y,rfl,rfl,hH,hz,q⟩:=h;cases rx;obtain⟨u,rfl,ru⟩:=rv.one;obtain⟨z,its,n,r,hl,e⟩:=I.lstM hH;refine call_meets F.slot_list_append ⟨_,e,rfl⟩ F.entry_list_append (F.args_list_append_2 _ _) (PySem.list_append l its.toArray n u (by rw[z5f];omega)) ⟨e,?_⟩;refine⟨.non,_,I.lset (its':=its++[u]) hH e (by simp) (r.append (.cons ru .nil)) ?_,rfl,q⟩;rw[z42,List.length_singleton];omega
end
end L2
namespace Att
open PySem PySem.W PySem.Calls PyProof.Rows
theorem zd4{P:Params}{h:Heap}:∀(ns:List Int) (vs:List Value),WellAll P h vs (ns.map WData.int)->IntsAre vs ns:=by
 intro ns
 induction ns with
 | nil=>
   intro vs w;rw[List.map_nil]at w;cases w;exact .nil
 | cons n ns ih=>
   intro vs w;rw[z5j]at w;cases w with
   | cons a b=>
     cases a;exact .cons _ _ (ih _ b)
theorem zni{l:OpenLaw}{n:Nat}(hn:l.most=some n){P:Params}{h:Heap}{args:List WData}{vals:List Value}
   (hpre:l.row.toRowW.claim.pre args=true) (hwl:WellAll P h vals args) :
   ∃a vs ns,vals=[Value.ref a]/\args=[WData.list (ns.map WData.int)]/\h.get? a=some { cls:=.type "list",data:=.seq vs.toArray }/\IntsAre vs ns/\ns.length<=n:=by
 have hsh:WShape.hasAll [] args [.list .int]=true:=(pre_splitW hpre).1;have hc:l.pre.holds [] { args:=args }=true:=(pre_splitW hpre).2;obtain⟨d,r,rfl,h1,h2⟩:=hasAllW_cons hsh;obtain rfl:=hasAllW_nil h2;obtain⟨xs,rfl,h3⟩:=hasW_list h1;obtain⟨ns,rfl⟩:=items_int h3;have hlen:ns.length<=n:=by
   unfold OpenLaw.pre at hc;have h4:(WTm.not (.lt (.lit (.int (n:Int))) (.len (.arg 0)))).holds [] { args:=[.list (ns.map .int)] }=true:=by have h4:=(holds_andW hc).1;rw[hn]at h4;exact h4
   have h5:=condW_of h4 (w_not (w_lt w_lit (w_len_list (w_arg rfl))));rw[z7j]at h5;refine Nat.le_of_not_lt fun q=>?_;have q':(n:Int)<((ns.length:Nat):Int):=by omega
   first
     | (rw[z5z q']at h5;exact absurd h5 (by decide))
     | (simp at h5;omega)
 cases hwl with
 | cons w1 w2=>
   cases w2;cases w1 with
   |list ho hall=>exact⟨_,_,ns,rfl,rfl,ho,zd4 ns _ hall,hlen⟩
theorem znw(l:OpenLaw)(args:List WData):l.row.toRowW.claim.post args (.bool true) args=true :=
 postW_of (r:=l.row.toRowW) (X:=(true==true))
   (show WShape.has [] (.bool true) .bool=true by first | rfl | decide | simp[WShape.has,WShape.arms,WShape.armsAll])
   (show(WTm.eq .res (.lit (.bool true))).value [] { args:=args,res:=some (.bool true),after:=args }=some (.bool (true==true))from w_eq_bool (w_res rfl) w_lit) rfl
theorem attach_call{l:OpenLaw}{n:Nat}{q:Program}{loose:List Str}{XP:(zMg)->Heap->Prop}{YP:World->Heap->Prop}{d:DefRec}
   (hn:l.most=some n) (hdf:d.params.defaults=[])
   (call:∀(w:World) (s₀ s₁:Shared) (mg mb:zMg) (fa:Addr) (o:Obj) (pm cd doc:Value) (a:Addr) (vs:List Value) (ns:List Int),
     Ground q loose [] XP w s₀ mg mb s₁.heap->YP w s₁.heap ->
     s₁.heap.get? fa=some o->o.data=.func (docDef d.name d.params d.body d.scope pm cd doc)->s₁.heap.CodeRec cd d.name->mg d.name=some (.ref fa) ->
     s₁.heap.get? a=some { cls:=.type "list",data:=.seq vs.toArray }->IntsAre vs ns->ns.length<=n->s₁.gens=#[] ->
     codeAny (model l.prog w) callerA (.call (.ref fa) ⟨[.ref a],[]⟩) (fun r s'=>r=.ok (.ret (.bool true))/\OldK s₁.heap s'.heap/\s'.os=s₁.os/\AllBare s'.gens) s₁) :
   WalkO q loose XP YP l.row.toRowW d [] (fun f vs=>PySem.call f vs):=by
 intro w s₀ s₁ mg mb G Y fa o pm cd doc dV kV ho hd hcd hD hmg hg args vals as hpre hlay hrd hwl hlo;obtain rfl:dV=.none:=Dflts.none hD hdf;obtain rfl:kV=.none:=Dflts.noKw hD;obtain⟨a,vs,ns,rfl,rfl,hobj,hints,hlen⟩:=zni hn hpre hwl;refine enter_call (z86 (call w s₀ s₁ mg mb fa o pm cd doc a vs ns G Y ho (fd_plain hd) hcd hmg hobj hints hlen hg) fun r s' hq=>?_);obtain⟨rfl,h2,h3,h4⟩:=hq;exact⟨.inl ⟨.bool true,.bool true,[],rfl,fun _=>rfl,.bool true,znw l _,fun _=>⟨List.Pairwise.nil,fun _ hm=>(nomatch hm)⟩⟩,h2,h3,h4⟩
section
variable {prog:Program}{w:World}{A:Around}{E:zVP}{s:Shared}{K:Frag}
def z3m(h:Heap)(L d:Addr):zAO:=(List.range h.objs.size).filterMap fun a=>if a=L\/a=d then none else (h.get? a).map fun o=>(a,o)
end
end Att
namespace L2
open PySem PySem.Spec PyProof.Rows
theorem zg2:∀{vs:List Value}{ns:List Int},IntsAre vs ns->Vals (ns.map V.int) vs
 |_,_,.nil=>.nil
 |_,_,.cons n t h=>.cons ⟨t,rfl⟩ (zg2 h)
abbrev KOf{K:zFr}{h:Heap}(_:K.In h):zFr:=K
end L2
/- THE LAST THEOREM (shape;LID,My.* are yours):
  My.Adr: a structure of the addresses that your layer names (classes,functions);My.Txt K t: a structure (Prop) of the equations over K;
  My.txt_mk:{K}{implicit addresses ..} (e1:nsIn K mainGlobals "law"=some (some (.ref f))) (e2:K.lookup f=some ⟨oc,od,.func (fnOf "law" "law" params body scope dV kV doc pm an cdv ct),sl⟩) (e3:codeIn K cdv "law"=true) ..:∃t,My.Txt K t
(the tactic k_is has no namespace: write k_is) -/
namespace L2
open PySem PySem.Spec PyProof.Rows
def zgc(s:Stmt)(j:Nat):Stmt:=match s with
 | .ClassDef _ _ _ body _ _ _ _ _ _ _=>body.getD j (.Pass ⟨0,0,0,0⟩)
 |_=>.Pass ⟨0,0,0,0⟩
def za5(s:Stmt):Arguments:=match s with
 | .FunctionDef _ a _ _ _ _ _ _ _ _=>a
 |_=>{ posonlyargs:=[],args:=[],vararg:=none,kwonlyargs:=[],kw_defaults:=[],kwarg:=none,defaults:=[] }
def jo(s:Stmt):List Stmt:=match s with
 | .FunctionDef _ _ b _ _ _ _ _ _ _=>b
 |_=>[]
def zk(s:Stmt):Scope:=match s with
 | .FunctionDef _ _ _ _ _ _ sc _ _ _=>sc
 |_=>{ kind:=.function,names:=[],isGenerator:=false,isCoroutine:=false }
abbrev CX0:CXT:=fun _ _ _ _ _ _=>False
abbrev E0:XK:=fun _ _ _=>False
theorem zlv{X:Cx}:zet CX0 X E0:=fun _ _ _ _ _ _ _ h=>h.elim
theorem z03{A B:Prop}(h:B):if false=true then A else B:=by rw[z5y z6m];exact h
theorem z02{A B:Prop}(h:A):if true=true then A else B:=by rw[z5s rfl];exact h
section
variable {X:Cx}{pins:zAO}{σ:St}{H:Hp}{s:Shared}{a:Addr}{y v:V}{u r:Value}{o:Option V}{A:Around}{E:zVP}
end
end L2
namespace F
open PySem L2
def zyz:Expr->Bool
 | .Starred ..=>false
 |_=>true
theorem z9{e:Expr}{es:List Expr}{env:Env}(h:zyz e=true):starEach (e::es) env=(false,eval e env)::starEach es env:=by cases e<;>first | rfl | cases h
theorem qx{pos:Pos}{env:Env}:∀{es:List Expr},es.all zyz=true->(backTo pos (starEach es env)).any (·.1)=false
 | [],_=>rfl
 | e::es,h=>by rw[List.all_cons,z6l]at h;rw[z9 h.1];show(false||(backTo pos (starEach es env)).any (·.1))=false;rw[qx h.2];rfl
structure LT where
 params:Arguments
 body:Expr
 scope:Scope
 qual:Str
 caps:List Str:=[]
 cl:zLA:=[]
inductive D where
 |non | bl (b:Bool) | int (i:Int) | str (x:Str) | fn (x:Str) | ty (n:String)
 |tup (ds:List D) | lst (ds:List D) | obj (i:Nat) | lam (t:LT) | clo (t:LT) (vs:List D)
inductive MO where
 |lst (ds:List D) | ins (c:Str) (fs:List (Str×D)) | dct (kvs:List (Int×D)) | exc (c:Str) | tab (x q:Str)
abbrev Sto:=List MO
abbrev Ev:=List (Option D)
abbrev E:=Ev->Sto->Option (D×Sto)
abbrev B:=Ev->Sto->Option (Bool×Sto)
abbrev As:=Ev->Sto->Option (List D×Sto)
abbrev G:=List D->Sto->Option (D×Sto)
inductive Out where
 |nx (e:Ev) | rt (d:D) | bk (e:Ev) | ct (e:Ev)
abbrev C:=Ev->Sto->Option (Out×Sto)
def TupAt(K:zFr)(ρ:List Addr)(H:Hp)(p:Addr)(vs:List V):Prop :=
 (p∉ρ/\Rd H p (.tup vs))\/∃(o:Obj) (its:Array Value) (n:Nat),K.lookup p=some o/\o.cls=.type "tuple"/\o.data=.seq its n/\its.size<=sizeLine/\Vals vs its.toList
def LstAt(K:zFr)(ρ:List Addr)(H:Hp)(p:Addr)(vs:List V):Prop :=
 (p∉ρ/\Rd H p (.lst vs))\/∃(o:Obj) (its:Array Value) (n:Nat),K.lookup p=some o/\o.cls=.type "list"/\o.dict=none/\o.data=.seq its n/\its.size<=sizeLine/\Vals vs its.toList
theorem TupAt.sq{K ρ H p vs}(h:TupAt K ρ H p vs):SqT K H p vs:=by
 rcases h with⟨_,h⟩ | h
 · exact .inl h
 · exact .inr h
theorem LstAt.sq{K ρ H p vs}(h:LstAt K ρ H p vs):SqL K H p vs:=by
 rcases h with⟨_,h⟩ | h
 · exact .inl h
 · exact .inr h
def yw(c:Addr)(q:Str):Heap->Prop:=fun h=>h.CodeRec (.ref c) q
def zte(t:LT)(a c:Addr)(pm ct:Value):Heap->Prop:=fun h=>h.get? a=some (PySem.W.kla_obj "<lambda>" t.qual t.params t.body t.scope t.cl pm c ct)
def LamAt(ρ:List Addr)(H:Hp)(t:LT)(a:Addr):Prop:=a∉ρ/\∃c pm ct,c∉ρ/\H a=some (.ext (zte t a c pm ct))/\H c=some (.ext (yw c t.qual))
def zje(t:LT)(cl:zLA)(a c:Addr)(pm ct:Value):Heap->Prop:=fun h=>h.get? a=some (PySem.W.kla_obj "<lambda>" t.qual t.params t.body t.scope cl pm c ct)
def Cells(ρ:List Addr)(H:Hp):List Str->List V->zLA->Prop
 | [],[],[]=>True
 |x::xs,u::us,p::cl=>p.1=x/\p.2∉ρ/\(∃(o:Obj) (w:Value),H p.2=some (.frz o (.own 0))/\o.data=.cell (some w)/\RelV u w)/\Cells ρ H xs us cl
 |_,_,_=>False
def CloAt(ρ:List Addr)(H:Hp)(t:LT)(us:List V)(a:Addr):Prop:=a∉ρ/\∃c pm ct cl,c∉ρ/\H a=some (.ext (zje t cl a c pm ct))/\H c=some (.ext (yw c t.qual))/\(cl.map (·.2)).Nodup/\Cells ρ H t.caps us cl
section
variable (K:zFr) (mg:zMg)
mutual
def Rep(ρ:List Addr)(H:Hp):D->V->Prop
 | .non,v=>v=.non
 | .bl b,v=>v=.bl b
 | .int i,v=>v=.int i
 | .str x,v=>v=.str x
 | .fn x,v=>∃a,v=.ref a/\mg x=some (.ref a)
 | .ty n,v=>v=.ty n
 | .tup ds,v=>∃p vs,v=.ref p/\TupAt K ρ H p vs/\RepL ρ H ds vs
 | .lst ds,v=>∃p vs,v=.ref p/\LstAt K ρ H p vs/\RepL ρ H ds vs
 | .obj i,v=>∃a,v=.ref a/\ρ[i]? = some a
 | .lam t,v=>∃a,v=.ref a/\LamAt ρ H t a
 | .clo t vs,v=>∃a us,v=.ref a/\CloAt ρ H t us a/\RepL ρ H vs us
def RepL(ρ:List Addr)(H:Hp):List D->List V->Prop
 | [],vs=>vs=[]
 |d::ds,vs=>∃v r,vs=v::r/\Rep ρ H d v/\RepL ρ H ds r
end
end
structure Ext (ρ:List Addr) (H:Hp) (ρ':List Addr) (H':Hp):Prop where
 pre:∀(i:Nat) (a:Addr),ρ[i]? = some a->ρ'[i]? = some a
 keep:∀b o,H b=some o->b∉ρ->H' b=some o
 new:∀b,b∈ρ'->b∉ρ->H b=none
theorem Ext.refl(ρ:List Addr)(H:Hp):Ext ρ H ρ H:=⟨fun _ _ h=>h,fun _ _ h _=>h,fun _ h n=>absurd h n⟩
theorem Ext.out{ρ ρ' H H'}(e:Ext ρ H ρ' H'){b:Addr}{o:HO}(h:H b=some o)(n:b∉ρ):b∉ρ':=fun z=>by have:=e.new b z n;rw[h]at this;cases this
theorem Ext.trans {ρ ρ' ρ'' H H' H''} (a:Ext ρ H ρ' H') (b:Ext ρ' H' ρ'' H''):Ext ρ H ρ'' H'' where
 pre:=fun i x h=>b.pre i x (a.pre i x h)
 keep:=fun c o h n=>b.keep c o (a.keep c o h n) (a.out h n)
 new:=fun c h n=>by
   by_cases z:c∈ρ'
   · exact a.new c z n
   · cases q:H c with
     |none=>rfl
     | some o=>
       have:=a.keep c o q n;rw[b.new c h z]at this;cases this
section
variable {K:zFr}{mg:zMg}{ρ ρ':List Addr}{H H':Hp}
theorem TupAt.mono{p vs}(h:TupAt K ρ H p vs)(e:Ext ρ H ρ' H'):TupAt K ρ' H' p vs:=by
 rcases h with⟨n,h | ⟨o,h⟩⟩ | h
 · exact .inl ⟨e.out h n,.inl (e.keep _ _ h n)⟩
 · exact .inl ⟨e.out h n,.inr ⟨o,e.keep _ _ h n⟩⟩
 · exact .inr h
theorem LstAt.mono{p vs}(h:LstAt K ρ H p vs)(e:Ext ρ H ρ' H'):LstAt K ρ' H' p vs:=by
 rcases h with⟨n,h | ⟨o,h⟩⟩ | h
 · exact .inl ⟨e.out h n,.inl (e.keep _ _ h n)⟩
 · exact .inl ⟨e.out h n,.inr ⟨o,e.keep _ _ h n⟩⟩
 · exact .inr h
theorem LamAt.mono{t a}(h:LamAt ρ H t a)(e:Ext ρ H ρ' H'):LamAt ρ' H' t a:=by obtain⟨n,c,pm,ct,nc,h1,h2⟩:=h;exact⟨e.out h1 n,c,pm,ct,e.out h2 nc,e.keep _ _ h1 n,e.keep _ _ h2 nc⟩
theorem Cells.mono(e:Ext ρ H ρ' H'):∀{xs:List Str}{us:List V}{cl:zLA},Cells ρ H xs us cl->Cells ρ' H' xs us cl
 | [],[],[],_=>trivial
 | x::xs,u::us,p::cl,h=>by obtain⟨h1,h2,⟨o,w,h3,h4⟩,h5⟩:=h;exact⟨h1,e.out h3 h2,⟨o,w,e.keep _ _ h3 h2,h4⟩,Cells.mono e h5⟩
 | [],[],_::_,h=>h.elim
 | [],_::_,_,h=>h.elim
 |_::_,[],_,h=>h.elim
 |_::_,_::_,[],h=>h.elim
theorem CloAt.mono{t us a}(h:CloAt ρ H t us a)(e:Ext ρ H ρ' H'):CloAt ρ' H' t us a:=by obtain⟨n,c,pm,ct,cl,nc,h1,h2,h3,h4⟩:=h;exact⟨e.out h1 n,c,pm,ct,cl,e.out h2 nc,e.keep _ _ h1 n,e.keep _ _ h2 nc,h3,h4.mono e⟩
mutual
theorem Rep.mono(e:Ext ρ H ρ' H'):∀{d:D}{v:V},Rep K mg ρ H d v->Rep K mg ρ' H' d v
 | .non,_,h=>h
 | .bl _,_,h=>h
 | .int _,_,h=>h
 | .str _,_,h=>h
 | .fn _,_,h=>h
 | .ty _,_,h=>h
 | .tup ds,_,h=>by unfold Rep at h ⊢;obtain⟨p,vs,e1,t,r⟩:=h;exact⟨p,vs,e1,t.mono e,RepL.mono e r⟩
 | .lst ds,_,h=>by unfold Rep at h ⊢;obtain⟨p,vs,e1,t,r⟩:=h;exact⟨p,vs,e1,t.mono e,RepL.mono e r⟩
 | .obj i,_,h=>by unfold Rep at h ⊢;obtain⟨a,e1,t⟩:=h;exact⟨a,e1,e.pre _ _ t⟩
 | .lam t,_,h=>by unfold Rep at h ⊢;obtain⟨a,e1,t⟩:=h;exact⟨a,e1,t.mono e⟩
 | .clo t vs,_,h=>by unfold Rep at h ⊢;obtain⟨a,us,e1,t,r⟩:=h;exact⟨a,us,e1,t.mono e,RepL.mono e r⟩
theorem RepL.mono(e:Ext ρ H ρ' H'):∀{ds:List D}{vs:List V},RepL K mg ρ H ds vs->RepL K mg ρ' H' ds vs
 | [],_,h=>h
 | d::ds,_,h=>by unfold RepL at h ⊢;obtain⟨v,r,e1,h1,h2⟩:=h;exact⟨v,r,e1,Rep.mono e h1,RepL.mono e h2⟩
end
theorem RepL.nil:RepL K mg ρ H [] []:=by unfold RepL;rfl
theorem RepL.cons{d ds v vs}(h:Rep K mg ρ H d v)(t:RepL K mg ρ H ds vs):RepL K mg ρ H (d::ds) (v::vs):=by unfold RepL;exact⟨v,vs,rfl,h,t⟩
theorem RepL.length:∀{ds:List D}{vs:List V},RepL K mg ρ H ds vs->ds.length=vs.length
 | [],_,h=>by unfold RepL at h;subst h;rfl
 | d::ds,_,h=>by unfold RepL at h;obtain⟨v,r,rfl,_,h2⟩:=h;rw[List.length_cons,List.length_cons,h2.length]
theorem RepL.get:∀{ds:List D}{vs:List V}{i:Nat}{d:D},RepL K mg ρ H ds vs->ds[i]? = some d->∃v,vs[i]? = some v/\Rep K mg ρ H d v
 | [],_,_,_,_,e=>by simp at e
 | d::ds,_,0,x,h,e=>by unfold RepL at h;obtain⟨v,r,rfl,h1,_⟩:=h;simp at e;subst e;exact⟨v,rfl,h1⟩
 | d::ds,_,i+1,x,h,e=>by unfold RepL at h;obtain⟨v,r,rfl,_,h2⟩:=h;obtain⟨u,e1,e2⟩:=RepL.get (i:=i) (d:=x) h2 (by simpa using e);exact⟨u,by simpa using e1,e2⟩
theorem RepL.append:∀{ds es:List D}{vs us:List V},RepL K mg ρ H ds vs->RepL K mg ρ H es us->RepL K mg ρ H (ds++es) (vs++us)
 | [],_,_,_,h,t=>by unfold RepL at h;subst h;exact t
 | d::ds,_,_,_,h,t=>by unfold RepL at h;obtain⟨v,r,rfl,h1,h2⟩:=h;exact RepL.cons h1 (RepL.append h2 t)
theorem RepL.take:∀{ds:List D}{vs:List V} (n:Nat),RepL K mg ρ H ds vs->RepL K mg ρ H (ds.take n) (vs.take n)
 |_,_,0,_=>by simpa using RepL.nil
 | [],_,_+1,h=>by unfold RepL at h;subst h;simpa using RepL.nil
 | d::ds,_,n+1,h=>by unfold RepL at h;obtain⟨v,r,rfl,h1,h2⟩:=h;exact RepL.cons h1 (RepL.take n h2)
theorem RepL.drop:∀{ds:List D}{vs:List V} (n:Nat),RepL K mg ρ H ds vs->RepL K mg ρ H (ds.drop n) (vs.drop n)
 |_,_,0,h=>by simpa using h
 | [],_,_+1,h=>by unfold RepL at h;subst h;simpa using RepL.nil
 | d::ds,_,n+1,h=>by unfold RepL at h;obtain⟨v,r,rfl,h1,h2⟩:=h;simpa using RepL.drop n h2
theorem RepL.reverse:∀{ds:List D}{vs:List V},RepL K mg ρ H ds vs->RepL K mg ρ H ds.reverse vs.reverse
 | [],_,h=>by unfold RepL at h;subst h;exact RepL.nil
 | d::ds,_,h=>by unfold RepL at h;obtain⟨v,r,rfl,h1,h2⟩:=h;rw[z8t,z8t];exact RepL.append (RepL.reverse h2) (RepL.cons h1 RepL.nil)
end
def zwz(K:zFr)(mg:zMg)(ρ:List Addr)(H:Hp)(fs:List (Str×D))(vs:List (Str×V)):Prop :=
 vs.map (·.1)=fs.map (·.1)/\RepL K mg ρ H (fs.map (·.2)) (vs.map (·.2))
def zwp(K:zFr)(mg:zMg)(x:Str)(a:Addr):Prop:=∃(f:Addr) (o:Obj) (fd:FuncData) (c:Addr),mg x=some (.ref f)/\K.lookup f=some o/\o.data=.func fd/\fd.code=.ref c/\PySem.W.codeHdIn K c a=true
def MOk(K:zFr)(mg:zMg)(ρ:List Addr)(H:Hp)(a:Addr):MO->Prop
 | .lst ds=>∃vs,H a=some (.lst vs)/\RepL K mg ρ H ds vs
 | .ins c fs=>∃C dx vs,mg c=some (.ref C)/\H a=some (.ins C dx vs)/\zwz K mg ρ H fs vs
 | .dct kvs=>∃vs:List (Key×V),H a=some (.dK vs)/\vs.map (·.1)=kvs.map (fun p=>Sum.inl p.1)/\RepL K mg ρ H (kvs.map (·.2)) (vs.map (·.2))
 | .exc c=>∃C,mg c=some (.ref C)/\H a=some (.ext fun h=>∃o,h.get? a=some o/\o.cls=.ref C)
 | .tab x q=>zwp K mg x a/\∃ps:Array Value,H a=some (.tbl ps)/\TriplesOk ps.toList/\∀(pos:Pos) (cv:Value),codeAmong pos ps.toList=some cv->∃c,cv=.ref c/\c∉ρ/\H c=some (.ext (yw c q))
structure StOk (K:zFr) (mg:zMg) (ρ:List Addr) (H:Hp) (S:Sto):Prop where
 len:ρ.length=S.length
 nd:ρ.Nodup
 ob:∀(i:Nat) (m:MO) (a:Addr),S[i]? = some m->ρ[i]? = some a->MOk K mg ρ H a m
section
variable {K:zFr}{mg:zMg}{ρ ρ':List Addr}{H H':Hp}{S:Sto}
theorem MOk.mono{a m}(h:MOk K mg ρ H a m)(e:Ext ρ H ρ' H')(k:H' a=H a):MOk K mg ρ' H' a m:=by
 cases m with
 |lst ds=>obtain⟨vs,h1,h2⟩:=h;exact⟨vs,k.trans h1,h2.mono e⟩
 |ins c fs=>obtain⟨C,dx,vs,h0,h1,h2,h3⟩:=h;exact⟨C,dx,vs,h0,k.trans h1,h2,h3.mono e⟩
 |dct kvs=>obtain⟨vs,h1,h2,h3⟩:=h;exact⟨vs,k.trans h1,h2,h3.mono e⟩
 |exc c=>obtain⟨C,h1,h2⟩:=h;exact⟨C,h1,k.trans h2⟩
 | tab x q=>
   obtain⟨h0,ps,h1,h2,h3⟩:=h;exact⟨h0,ps,k.trans h1,h2,fun pos cv z=>let⟨c,z1,z2,z3⟩:=h3 pos cv z;⟨c,z1,e.out z3 z2,e.keep _ _ z3 z2⟩⟩
theorem MOk.some{a m}(h:MOk K mg ρ H a m):∃o,H a=some o:=by
 cases m with
 |lst ds=>obtain⟨vs,h1,h2⟩:=h;exact⟨_,h1⟩
 |ins c fs=>obtain⟨C,dx,vs,h0,h1,h2,h3⟩:=h;exact⟨_,h1⟩
 |dct kvs=>obtain⟨vs,h1,h2,h3⟩:=h;exact⟨_,h1⟩
 |exc c=>obtain⟨C,h1,h2⟩:=h;exact⟨_,h2⟩
 |tab x q=>obtain⟨_,ps,h1,_⟩:=h;exact⟨_,h1⟩
theorem StOk.at(s:StOk K mg ρ H S){i:Nat}{a:Addr}(h:ρ[i]? = some a):∃m,S[i]? = some m/\MOk K mg ρ H a m:=by
 have hi:i<ρ.length:=(z5b.mp h).1;have hj:i<S.length:=by rw[<-s.len];exact hi
 exact⟨S[i],z49 hj,s.ob i _ a (z49 hj) h⟩
theorem StOk.adr(s:StOk K mg ρ H S){i:Nat}{m:MO}(h:S[i]? = some m):∃a,ρ[i]? = some a/\MOk K mg ρ H a m:=by
 have hi:i<S.length:=(z5b.mp h).1;have hj:i<ρ.length:=by rw[s.len];exact hi
 exact⟨ρ[i],z49 hj,s.ob i m _ h (z49 hj)⟩
theorem StOk.mem(s:StOk K mg ρ H S){a}(h:a∈ρ):∃o,H a=some o:=by obtain⟨i,hi,e⟩:=List.mem_iff_getElem.mp h;obtain⟨m,_,q⟩:=s.at (i:=i) (a:=a) (by rw[z49 hi,e]);exact q.some
theorem StOk.fresh(s:StOk K mg ρ H S){p}(h:H p=none):p∉ρ:=fun z=>by obtain⟨o,e⟩:=s.mem z;rw[h]at e;cases e
theorem jh(s:StOk K mg ρ H S){p:Addr}(o:HO)(h:H p=none):Ext ρ H ρ (upd H p o) :=
 ⟨fun _ _ e=>e,fun b u e _=>by rw[qd (qy e h)];exact e,fun _ z n=>absurd z n⟩
theorem StOk.new(s:StOk K mg ρ H S){p:Addr}(o:HO)(h:H p=none):StOk K mg ρ (upd H p o) S :=
 ⟨s.len,s.nd,fun i m a e1 e2=>by
   have q:=s.ob i m a e1 e2;obtain⟨u,z⟩:=q.some;exact q.mono (jh s o h) (qd (qy z h))⟩
theorem zi8(s:StOk K mg ρ H S){i:Nat}{a:Addr}(o:HO)(h:ρ[i]? = some a):Ext ρ H ρ (upd H a o) :=
 ⟨fun _ _ e=>e,fun b u e n=>by rw[qd (fun(z:b=a)=>n (by rw[z];exact z51 h))];exact e,fun _ z n=>absurd z n⟩
theorem zke{l:List Addr}(hN:l.Nodup){i j:Nat}{x:Addr}(a:l[i]? = some x)(b:l[j]? = some x):i=j:=by obtain⟨h1,e1⟩:=z5b.mp a;obtain⟨h2,e2⟩:=z5b.mp b;exact(qan hN).mp (e1.trans e2.symm)
theorem StOk.set(s:StOk K mg ρ H S){i:Nat}{a:Addr}{o:HO}{m:MO}(h:ρ[i]? = some a)(q:MOk K mg ρ (upd H a o) a m):StOk K mg ρ (upd H a o) (S.set i m):=by
 refine⟨by rw[z8a];exact s.len,s.nd,fun j m' b e1 e2=>?_⟩;by_cases hj:j=i
 · subst hj;have hi:j<S.length:=by rw[<-s.len];exact(z5b.mp h).1
   rw[z6b hi]at e1;cases e1;rw[h]at e2;cases e2;exact q
 · rw[z6u (z7q hj)]at e1;exact(s.ob j m' b e1 e2).mono (zi8 s o h) (qd fun z=>hj (zke s.nd (z▸e2) h))
theorem zco(s:StOk K mg ρ H S){p:Addr}(o:HO)(h:H p=none):Ext ρ H (ρ++[p]) (upd H p o) :=
 ⟨fun i a e=>by rw[z55 (z5b.mp e).1];exact e,fun b u e _=>by rw[qd (qy e h)];exact e,
   fun b z n=>by
     rcases z5x.mp z with z | z
     · exact absurd z n
     · rw[z5g.mp z];exact h⟩
theorem StOk.add(s:StOk K mg ρ H S){p:Addr}{o:HO}{m:MO}(h:H p=none)(q:MOk K mg (ρ++[p]) (upd H p o) p m):StOk K mg (ρ++[p]) (upd H p o) (S++[m]):=by
 refine⟨by rw[z42,z42,s.len]<;>rfl,?_,fun j m' b e1 e2=>?_⟩
 · rw[z9k];refine⟨s.nd,by simp,fun x hx y hy=>?_⟩;rw[z5g.mp hy];exact fun z=>s.fresh h (z▸hx)
 · by_cases hj:j<S.length
   · rw[z55 hj]at e1;rw[z55 (by rw[s.len];exact hj)]at e2;have q:=s.ob j m' b e1 e2;obtain⟨u,z⟩:=q.some;exact q.mono (zco s o h) (qd (qy z h))
   · rw[z5t (by omega)]at e1;rw[z5t (by rw[s.len];omega)]at e2;have e0:j-S.length=0:=by have:=(z5b.mp e1).1;simp at this;omega
     rw[e0]at e1;rw[s.len,e0]at e2;simp at e1 e2;subst e1 e2;exact q
theorem Rep.tup{p ds vs}{s:StOk K mg ρ H S}(h:H p=none)(r:RepL K mg ρ H ds vs):Rep K mg ρ (upd H p (.tup vs)) (.tup ds) (.ref p):=by unfold Rep;exact⟨p,vs,rfl,.inl ⟨s.fresh h,.inl qo⟩,r.mono (jh s _ h)⟩
theorem Rep.lst{p ds vs}{s:StOk K mg ρ H S}(h:H p=none)(r:RepL K mg ρ H ds vs):Rep K mg ρ (upd H p (.lst vs)) (.lst ds) (.ref p):=by unfold Rep;exact⟨p,vs,rfl,.inl ⟨s.fresh h,.inl qo⟩,r.mono (jh s _ h)⟩
end
structure EnvR (K:zFr) (mg:zMg) (ρ:List Addr) (H:Hp) (ev:Ev) (σ:St):Prop where
 len:ev.length=σ.length
 at_:∀(i:Nat) (d:D),ev[i]? = some (some d)->∃v,σ[i]? = some (some v)/\Rep K mg ρ H d v
section
variable {K:zFr}{mg:zMg}{ρ ρ':List Addr}{H H':Hp}{ev:Ev}{σ:St}
theorem EnvR.mono(h:EnvR K mg ρ H ev σ)(e:Ext ρ H ρ' H'):EnvR K mg ρ' H' ev σ :=
 ⟨h.len,fun i d q=>let⟨v,a,b⟩:=h.at_ i d q;⟨v,a,b.mono e⟩⟩
theorem EnvR.set(h:EnvR K mg ρ H ev σ){d v}(r:Rep K mg ρ H d v)(i:Nat):EnvR K mg ρ H (ev.set i (some d)) (σ.set i (some v)):=by
 refine⟨by rw[z8a,z8a];exact h.len,fun j x q=>?_⟩;by_cases hj:j=i
 · subst hj;have hi:j<ev.length:=by
     have:=(z5b.mp q).1
     rwa [z8a]at this
   rw[z6b hi]at q;cases q;exact⟨v,by rw[z6b (by rw[<-h.len];exact hi)],r⟩
 · rw[z6u (z7q hj)]at q ⊢;exact h.at_ j x q
theorem EnvR.start{N:List Str}{ds:List D}{vs:List V}(h:RepL K mg ρ H ds vs):EnvR K mg ρ H (ds.map some++List.replicate (N.length-ds.length) none) (L2.start N vs):=by
 have hl:=h.length;refine⟨by unfold L2.start;simp[hl],fun i d q=>?_⟩;have hi:i<ds.length:=by
   by_cases hi:i<ds.length
   · exact hi
   · rw[z5t (by simpa using hi),List.getElem?_replicate]at q;split at q<;>cases q
 rw[z55 (by simpa using hi),z6s]at q;cases e:ds[i]? with
 |none=>rw[e]at q;cases q
 | some x=>
   rw[e]at q;cases q;obtain⟨v,e1,r⟩:=h.get e;refine⟨v,?_,r⟩;unfold L2.start;rw[z55 (by simpa [<-hl] using hi),z6s,e1];rfl
end
section
variable (K:zFr) (mg:zMg)
def tE(f:E):TE:=fun σ H Q=>∃ρ ev S d S',EnvR K mg ρ H ev σ/\StOk K mg ρ H S/\f ev S=some (d,S') /\
 ∀v ρ' H',Ext ρ H ρ' H'->StOk K mg ρ' H' S'->Rep K mg ρ' H' d v->Q v H'
def tB(f:B):TT:=fun σ H Q=>∃ρ ev S b S',EnvR K mg ρ H ev σ/\StOk K mg ρ H S/\f ev S=some (b,S') /\
 ∀ρ' H',Ext ρ H ρ' H'->StOk K mg ρ' H' S'->Q b H'
def tAs(f:As):TA:=fun σ H Q=>∃ρ ev S ds S',EnvR K mg ρ H ev σ/\StOk K mg ρ H S/\f ev S=some (ds,S') /\
 ∀vs ρ' H',Ext ρ H ρ' H'->StOk K mg ρ' H' S'->RepL K mg ρ' H' ds vs->Q vs H'
def Post(D:Ends)(S':Sto)(ρ:List Addr)(H:Hp):Out->Prop
 | .nx e=>∀σ' ρ' H',Ext ρ H ρ' H'->StOk K mg ρ' H' S'->EnvR K mg ρ' H' e σ'->D.nx σ' H'
 | .bk e=>∀σ' ρ' H',Ext ρ H ρ' H'->StOk K mg ρ' H' S'->EnvR K mg ρ' H' e σ'->D.bk σ' H'
 | .ct e=>∀σ' ρ' H',Ext ρ H ρ' H'->StOk K mg ρ' H' S'->EnvR K mg ρ' H' e σ'->D.ct σ' H'
 | .rt d=>∀v ρ' H',Ext ρ H ρ' H'->StOk K mg ρ' H' S'->Rep K mg ρ' H' d v->D.rt v H'
def tC(f:C):TS:=fun D σ H=>∃ρ ev S o S',EnvR K mg ρ H ev σ/\StOk K mg ρ H S/\f ev S=some (o,S')/\Post K mg D S' ρ H o
def spG(g:G):Sp:=fun vs H Q _=>∃ρ ds S d S',RepL K mg ρ H ds vs/\StOk K mg ρ H S/\g ds S=some (d,S') /\
 ∀v ρ' H',Ext ρ H ρ' H'->StOk K mg ρ' H' S'->Rep K mg ρ' H' d v->Q v H'
end
theorem Post.ext{K mg}{D:Ends}{S':Sto}{ρ ρ' H H'}(e:Ext ρ H ρ' H'):∀{o:Out},Post K mg D S' ρ H o->Post K mg D S' ρ' H' o
 | .nx _,h=>fun σ' _ _ e'=>h σ' _ _ (e.trans e')
 | .bk _,h=>fun σ' _ _ e'=>h σ' _ _ (e.trans e')
 | .ct _,h=>fun σ' _ _ e'=>h σ' _ _ (e.trans e')
 | .rt _,h=>fun v _ _ e'=>h v _ _ (e.trans e')
def FE(X:Cx)(e:Expr)(f:E):Prop:=PE X e (tE X.K X.mg f)
def FB(X:Cx)(e:Expr)(f:B):Prop:=PT X e (tB X.K X.mg f)
def FW(X:Cx)(e:Expr)(f:B):Prop:=PW X e (tB X.K X.mg f)
def FA(X:Cx)(es:List Expr)(f:As):Prop:=PA X es (tAs X.K X.mg f)
def FS(X:Cx)(st:Stmt)(f:C):Prop:=PS X st (tC X.K X.mg f)
def FSs(X:Cx)(st:List Stmt)(f:C):Prop:=PSs X st (tC X.K X.mg f)
theorem jf{X:Cx}{e:Expr}{t t':TE}(h:PE X e t)(m:∀σ H Q,t' σ H Q->t σ H Q):PE X e t':=fun pins s σ H Q I q=>h pins s σ H Q I (m _ _ _ q)
theorem zdp{X:Cx}{e:Expr}{t t':TT}(h:PT X e t)(m:∀σ H Q,t' σ H Q->t σ H Q):PT X e t':=fun pins s σ H Q I q=>h pins s σ H Q I (m _ _ _ q)
theorem znr{X:Cx}{e:Expr}{t t':TT}(h:PW X e t)(m:∀σ H Q,t' σ H Q->t σ H Q):PW X e t':=fun w pins s σ H Q I q=>h w pins s σ H Q I (m _ _ _ q)
theorem zfz{X:Cx}{e:List Expr}{t t':TA}(h:PA X e t)(m:∀σ H Q,t' σ H Q->t σ H Q):PA X e t':=fun pos pins s σ H Q I q=>h pos pins s σ H Q I (m _ _ _ q)
theorem kr{X:Cx}{e:Stmt}{t t':TS}(h:PS X e t)(m:∀σ H Q,t' Q σ H->t Q σ H):PS X e t':=fun pins s σ H Q I q=>h pins s σ H Q I (m _ _ _ q)
theorem zj9{X:Cx}{e:List Stmt}{t t':TS}(h:PSs X e t)(m:∀σ H Q,t' Q σ H->t Q σ H):PSs X e t':=fun pins s σ H Q I q=>h pins s σ H Q I (m _ _ _ q)
end F
namespace F
open PySem L2
noncomputable def eV(i:Nat):E:=fun ev S=>match ev[i]? with
 |some (some d)=>some (d,S)
 |_=>none
noncomputable def eK(d:D):E:=fun _ S=>some (d,S)
def e1(op:D->Option D)(f:E):E:=fun ev S=>(f ev S).bind fun p=>(op p.1).map fun d=>(d,p.2)
def e2(op:D->D->Option D)(f g:E):E:=fun ev S=>(f ev S).bind fun p=>(g ev p.2).bind fun q=>(op p.1 q.1).map fun d=>(d,q.2)
def e2s(op:Sto->D->D->Option D)(f g:E):E:=fun ev S=>(f ev S).bind fun p=>(g ev p.2).bind fun q=>(op q.2 p.1 q.1).map fun d=>(d,q.2)
def aN:As:=fun _ S=>some ([],S)
def aC(f:E)(g:As):As:=fun ev S=>(f ev S).bind fun p=>(g ev p.2).bind fun q=>some (p.1::q.1,q.2)
def eA(op:Sto->List D->Option D)(g:As):E:=fun ev S=>(g ev S).bind fun q=>(op q.2 q.1).map fun d=>(d,q.2)
def zm(g:G)(a:As):E:=fun ev S=>(a ev S).bind fun q=>g q.1 q.2
def zd6(c:Str)(S:Sto):D->Option (Nat×List (Str×D))
 | .obj i=>match S[i]? with
   |some (.ins c' fs)=>if c'=c then some (i,fs)else none
   |_=>none
 |_=>none
def x9(c m:Str)(g:G)(f:E)(a:As):E:=fun ev S=>(f ev S).bind fun p=>(zd6 c p.2 p.1).bind fun r=>if r.2.lookup m=none then (a ev p.2).bind fun q=>g (p.1::q.1) q.2 else none
def zl9(c:Str)(g:G)(a:As):E:=fun ev S=>(a ev S).bind fun q=>(g (.obj q.2.length::q.1) (q.2++[.ins c []])).bind fun r=>match r.1 with
 | .non=>some (.obj q.2.length,r.2)
 |_=>none
def zwx(c n:Str)(f:E):E:=fun ev S=>(f ev S).bind fun p=>(zd6 c p.2 p.1).bind fun r=>(r.2.lookup n).map fun d=>(d,p.2)
def zja(g:As):E:=fun ev S=>(g ev S).bind fun q=>if q.1.length<=sizeLine then some (.obj q.2.length,q.2++[.lst q.1])else none
def zar(g:As):E:=eA (fun _ ds=>if ds.length<=sizeLine then some (.tup ds)else none) g
def zk2(g:As):E:=eA (fun _ ds=>if ds.length<=sizeLine then some (.lst ds)else none) g
def bE(f:E):B:=fun ev S=>(f ev S).bind fun p=>match p.1 with
 | .bl b=>some (b,p.2)
 |_=>none
def zdi(f:B):B:=fun ev S=>(f ev S).map fun p=>(!p.1,p.2)
def zp0(f g:B):B:=fun ev S=>(f ev S).bind fun p=>if p.1=true then g ev p.2 else some (false,p.2)
def bOr(f g:B):B:=fun ev S=>(f ev S).bind fun p=>if p.1=true then some (true,p.2)else g ev p.2
def zww(f:E):E:=e1 (fun d=>match d with | .bl b=>some (.bl !b) | _=>none) f
def zh9(f g:E):E:=fun ev S=>(f ev S).bind fun p=>match p.1 with
 | .bl true=>g ev p.2
 | .bl false=>some (.bl false,p.2)
 |_=>none
def jc:C:=fun ev S=>some (.nx ev,S)
def z8(a b:C):C:=fun ev S=>(a ev S).bind fun p=>match p.1 with
 | .nx e=>b e p.2
 |o=>some (o,p.2)
def ql(f:E):C:=fun ev S=>(f ev S).map fun p=>(.rt p.1,p.2)
def zxq:C:=fun _ S=>some (.rt .non,S)
def zbj(f:E):C:=fun ev S=>(f ev S).map fun p=>(.nx ev,p.2)
def qp(i:Nat)(f:E):C:=fun ev S=>(f ev S).map fun p=>(.nx (ev.set i (some p.1)),p.2)
def z41(i j:Nat)(f:As):C:=fun ev S=>(f ev S).bind fun p=>match p.1 with
 | [a,b]=>some (.nx ((ev.set i (some a)).set j (some b)),p.2)
 |_=>none
def y4(ev:Ev):List Nat->List D->Option Ev
 | [],[]=>some ev
 |i::is,d::ds=>y4 (ev.set i (some d)) is ds
 |_,_=>none
def zxo(is:List Nat)(f:E):C:=fun ev S=>(f ev S).bind fun p=>match p.1 with
 | .tup ds=>(y4 ev is ds).map fun e=>(.nx e,p.2)
 |_=>none
def sIf(c:B)(a b:C):C:=fun ev S=>(c ev S).bind fun p=>if p.1=true then a ev p.2 else b ev p.2
def zcr:C:=fun _ _=>none
def zs2(n:Str)(d:D):List (Str×D)->List (Str×D)
 | []=>[(n,d)]
 | (g,x)::r=>if g=n then (g,d)::r else (g,x)::zs2 n d r
def zlo(c n:Str)(o v:E):C:=fun ev S=>(v ev S).bind fun p=>(o ev p.2).bind fun q=>(zd6 c q.2 q.1).bind fun r=>if r.2.length<1000 then some (.nx ev,q.2.set r.1 (.ins c (zs2 n p.1 r.2)))else none
def z4e(o i v:E):C:=fun ev S=>(v ev S).bind fun p=>(o ev p.2).bind fun q=>(i ev q.2).bind fun r=>match q.1,r.1 with
 | .obj a,.int k=>(match r.2[a]? with
   |some (.lst ds)=>(ixN ds.length k).map fun j=>(.nx ev,r.2.set a (.lst (ds.set j p.1)))
   |_=>none)
 |_,_=>none
def zav(o v:E):C:=fun ev S=>(o ev S).bind fun q=>match q.1 with
 | .obj a=>(match q.2[a]? with
   | some (.lst _)=>(v ev q.2).bind fun p=>(match p.2[a]? with
     |some (.lst ds)=>if ds.length<sizeLine then some (.nx ev,p.2.set a (.lst (ds++[p.1])))else none
     |_=>none)
   |_=>none)
 |_=>none
def zck(i:Nat)(body:C):List D->Ev->Sto->Option (Out×Sto)
 | [],ev,S=>some (.nx ev,S)
 | d::ds,ev,S=>(body (ev.set i (some d)) S).bind fun p=>match p.1 with
   | .nx e=>zck i body ds e p.2
   | .ct e=>zck i body ds e p.2
   | .bk e=>some (.nx e,p.2)
   | .rt x=>some (.rt x,p.2)
def j6(lo:Int)(n:Nat):List D:=(List.range n).map fun k:Nat=>D.int (lo+(k:Int))
def zil(i:Nat)(f:E)(body:C):C:=fun ev S=>(f ev S).bind fun p=>match p.1 with
 | .int j=>if -(2^62)<=j/\j<2^62 then zck i body (j6 0 j.toNat) ev p.2 else none
 |_=>none
def qa(N n:Nat)(c:C):G:=fun ds S=>if ds.length=n then (match c (ds.map some++List.replicate (N-ds.length) none) S with
 |some (.nx _,S1)=>some (.non,S1)
 |some (.rt d,S1)=>some (d,S1)
 |_=>none)else none
theorem zy{α β:Type}{o:Option α}{f:α->Option β}{b:β}(h:o.bind f=some b):∃a,o=some a/\f a=some b:=by
 cases o with
 |none=>cases h
 |some a=>exact⟨a,rfl,h⟩
theorem zaq{α β:Type}{o:Option α}{f:α->β}{b:β}(h:o.map f=some b):∃a,o=some a/\f a=b:=by
 cases o with
 |none=>cases h
 |some a=>exact⟨a,rfl,z58 h⟩
section
variable {X:Cx}
def zia(K:zFr)(mg:zMg)(R:R2)(op:Sto->D->D->Option D):Prop :=
 ∀(ρ:List Addr) (H:Hp) (S:Sto) (x y:V) (dx dy d:D) (Q:VK),StOk K mg ρ H S->Rep K mg ρ H dx x->Rep K mg ρ H dy y->op S dx dy=some d ->
   (∀v H',Ext ρ H ρ H'->StOk K mg ρ H' S->Rep K mg ρ H' d v->Q v H')->R x y H Q
def zwq(K:zFr)(mg:zMg)(R:List V->Hp->VK->Prop)(op:Sto->List D->Option D):Prop :=
 ∀(ρ:List Addr) (H:Hp) (S:Sto) (xs:List V) (ds:List D) (d:D) (Q:VK),StOk K mg ρ H S->RepL K mg ρ H ds xs->op S ds=some d ->
   (∀v H',Ext ρ H ρ H'->StOk K mg ρ H' S->Rep K mg ρ H' d v->Q v H')->R xs H Q
section
variable {K:zFr}{mg:zMg}{R R':R2}{op op':Sto->D->D->Option D}
theorem t2(hs:zia K mg R op){f g:E}{σ:St}{H:Hp}{Q:VK}(h:tE K mg (e2s op f g) σ H Q):tOp R (tE K mg f) (tE K mg g) σ H Q:=by obtain⟨ρ,ev,S,d,S',hE,hS,hf,k⟩:=h;obtain⟨⟨x,S1⟩,q1,hf⟩:=zy hf;obtain⟨⟨y,S2⟩,q2,hf⟩:=zy hf;obtain⟨z,q3,hf⟩:=zaq hf;cases hf;refine⟨ρ,ev,S,x,S1,hE,hS,q1,fun v ρ1 H1 E1 hS1 r1=>⟨ρ1,ev,S1,y,S2,hE.mono E1,hS1,q2,fun u ρ2 H2 E2 hS2 r2=>?_⟩⟩;exact hs ρ2 H2 _ v u x y _ Q hS2 (r1.mono E2) r2 q3 fun w H' E3 hS3 r3=>k w ρ2 H' ((E1.trans E2).trans E3) hS3 r3
end
theorem zfi{o:Operator}{R:R2}{op:Sto->D->D->Option D}{a b:Expr}{f g:E}{pos:Pos}(ho:OpR X (binaryOp o) R)(hs:zia X.K X.mg R op)(ha:FE X a f)(hb:FE X b g):FE X (.BinOp a o b pos) (e2s op f g) :=
 jf (z14 ho ha hb) fun _ _ _ h=>t2 hs h
theorem zky{o:CmpOp}{R:R2}{op:Sto->D->D->Option D}{a b:Expr}{f g:E}{pos:Pos}(ho:OpR X (compareOp o) R)(hs:zia X.K X.mg R op)(ha:FE X a f)(hb:FE X b g)(hm:behindInMarks o b=false):FE X (.Compare a [o] [b] pos) (e2s op f g) :=
 jf (zva ho ha hb hm) fun _ _ _ h=>t2 hs h
theorem zua{K mg}{f:E}{t:TE}{σ:St}{H:Hp}{Q:Bool->Hp->Prop}(m:∀Q,tE K mg f σ H Q->t σ H Q)(h:tB K mg (bE f) σ H Q):zqc t σ H Q:=by
 obtain⟨ρ,ev,S,b,S',hE,hS,hf,k⟩:=h;obtain⟨⟨x,S1⟩,q1,hf⟩:=zy hf;cases x with
 | bl c=>
   cases hf;refine m _ ⟨ρ,ev,S,_,_,hE,hS,q1,fun v ρ1 H1 E1 hS1 r1=>?_⟩;exact⟨b,r1,k ρ1 H1 E1 hS1⟩
 |_=>cases hf
theorem zcw{o:CmpOp}{R:R2}{op:Sto->D->D->Option D}{a b:Expr}{f g:E}{pos:Pos}(ho:OpR X (compareOp o) R)(hs:zia X.K X.mg R op)(ha:FE X a f)(hb:FE X b g)(hm:behindInMarks o b=false):FB X (.Compare a [o] [b] pos) (bE (e2s op f g)) :=
 zdp (zu1 ho ha hb hm) fun _ _ _ h=>zua (fun _ h=>t2 hs h) h
theorem zf(i:Nat){x:Str}{pos:Pos}(hN:X.N[i]? = some x:=by rfl)(hv:Vis X.env.scope x:=by first | exact Or.inl rfl | exact Or.inr (Or.inl rfl) | exact Or.inr (Or.inr rfl))(hd:(x==("__debug__":Str))=false:=by decide)
   (hcd:(x==("__classdict__":Str))=false:=by decide):FE X (.Name x pos) (eV i) :=
 jf (zyd hN hv hd hcd) fun σ H Q h=>by
   obtain⟨ρ,ev,S,d,S',hE,hS,hf,k⟩:=h;unfold eV at hf;split at hf
   · rename_i x e;cases hf;obtain⟨v,e1,r⟩:=hE.at_ i _ e;exact⟨v,e1,k v ρ H (Ext.refl _ _) hS r⟩
   · cases hf
theorem zal{e:Expr}{v:V}{d:D}(h:PE X e (L2.tC v))(r:∀ρ H,Rep X.K X.mg ρ H d v):FE X e (eK d) :=
 jf h fun σ H Q h=>by obtain⟨ρ,ev,S,d,S',hE,hS,hf,k⟩:=h;cases hf;exact k v ρ H (Ext.refl _ _) hS (r _ _)
theorem zo{i:Int}{j pos}:FE X (.Constant (.int i) j pos) (eK (.int i)):=zal zyj fun _ _=>rfl
theorem y9{b:Bool}{j pos}:FE X (.Constant (.bool b) j pos) (eK (.bl b)):=zal z17 fun _ _=>rfl
theorem q9{j pos}:FE X (.Constant .none j pos) (eK .non):=zal zyi fun _ _=>rfl
theorem zo4{x:Str}{j pos}:FE X (.Constant (.str x) j pos) (eK (.str x)):=zal zyf fun _ _=>rfl
theorem zx{x:Str}{n:Int}{pos:Pos}(hm:∃t,X.mg x=some (.int n t))(hg:Gl X x:=by rfl)(hd:(x==("__debug__":Str))=false:=by decide):FE X (.Name x pos) (eK (.int n)):=by obtain⟨t,hm⟩:=hm;exact zal (znz hg hm (v:=.int n) ⟨t,rfl⟩ hd) fun _ _=>rfl
theorem zed{x:Str}{pos:Pos}(hm:∃f,X.mg x=some (.ref f))(hg:Gl X x:=by rfl)(hd:(x==("__debug__":Str))=false:=by decide):FE X (.Name x pos) (eK (.fn x)):=by obtain⟨f,hm⟩:=hm;exact zal (znz hg hm (v:=.ref f) rfl hd) fun ρ H=>by unfold Rep;exact⟨f,rfl,hm⟩
theorem ze:FA X [] aN:=zfz zn0 fun σ H Q h=>by obtain⟨ρ,ev,S,d,S',hE,hS,hf,k⟩:=h;cases hf;exact k [] ρ H (Ext.refl _ _) hS RepL.nil
theorem zb{e:Expr}{es:List Expr}{f:E}{g:As}(ha:FE X e f)(hr:FA X es g)(hs:starEach (e::es) X.env=(false,eval e X.env)::starEach es X.env:=by exact z9 rfl):FA X (e::es) (aC f g) :=
 zfz (zf0 ha hr hs) fun σ H Q h=>by obtain⟨ρ,ev,S,d,S',hE,hS,hf,k⟩:=h;obtain⟨⟨x,S1⟩,q1,hf⟩:=zy hf;obtain⟨⟨y,S2⟩,q2,hf⟩:=zy hf;cases hf;refine⟨ρ,ev,S,x,S1,hE,hS,q1,fun v ρ1 H1 E1 hS1 r1=>⟨ρ1,ev,S1,y,_,hE.mono E1,hS1,q2,fun vs ρ2 H2 E2 hS2 r2=>?_⟩⟩;exact k (v::vs) ρ2 H2 (E1.trans E2) hS2 (RepL.cons (r1.mono E2) r2)
theorem tA{K mg}{R:List V->Hp->VK->Prop}{op:Sto->List D->Option D}(hs:zwq K mg R op){g:As}{σ:St}{H:Hp}{Q:VK}(h:tE K mg (eA op g) σ H Q):tAs K mg g σ H fun vs H1=>R vs H1 Q:=by obtain⟨ρ,ev,S,d,S',hE,hS,hf,k⟩:=h;obtain⟨⟨x,S1⟩,q1,hf⟩:=zy hf;obtain⟨z,q3,hf⟩:=zaq hf;cases hf;exact⟨ρ,ev,S,x,_,hE,hS,q1,fun vs ρ1 H1 E1 hS1 r1=>hs ρ1 H1 _ vs x _ Q hS1 r1 q3 fun w H' E3 hS3 r3=>k w ρ1 H' (E1.trans E3) hS3 r3⟩
theorem jl{es:List Expr}{g:As}{x1 pos}(h:FA X es g):FE X (.Tuple es x1 pos) (zar g) :=
 jf (zye h) fun σ H Q h=>tA (K:=X.K) (mg:=X.mg) (R:=fun xs H1 Q=>xs.length<=sizeLine/\∀p,H1 p=none->Q (.ref p) (upd H1 p (.tup xs))) (fun ρ H S xs ds d Q hS r e k=>by
   split at e
   · rename_i hl;cases e;exact⟨by rw[<-r.length];exact hl,fun p hp=>k _ _ (jh hS _ hp) (hS.new _ hp) (Rep.tup (s:=hS) hp r)⟩
   · cases e) h
theorem zcu{es:List Expr}{g:As}{pos}(h:FA X es g):FE X (.List es pos) (zk2 g) :=
 jf (zs9 h) fun σ H Q h=>tA (K:=X.K) (mg:=X.mg) (R:=fun xs H1 Q=>xs.length<=sizeLine/\∀p,H1 p=none->Q (.ref p) (upd H1 p (.lst xs))) (fun ρ H S xs ds d Q hS r e k=>by
   split at e
   · rename_i hl;cases e;exact⟨by rw[<-r.length];exact hl,fun p hp=>k _ _ (jh hS _ hp) (hS.new _ hp) (Rep.lst (s:=hS) hp r)⟩
   · cases e) h
theorem zi6{es:List Expr}{g:As}{pos}(h:FA X es g):FE X (.List es pos) (zja g) :=
 jf (zs9 h) fun σ H Q h=>by
   obtain⟨ρ,ev,S,d,S',hE,hS,hf,k⟩:=h;obtain⟨⟨x,S1⟩,q1,hf⟩:=zy hf;dsimp only at hf;split at hf
   · rename_i hl;cases hf;refine⟨ρ,ev,S,x,S1,hE,hS,q1,fun vs ρ1 H1 E1 hS1 r1=>⟨by rw[<-r1.length];exact hl,fun p hp=>?_⟩⟩;refine k _ _ _ (E1.trans (zco hS1 _ hp)) (hS1.add hp ⟨vs,qo,r1.mono (zco hS1 _ hp)⟩) ?_;unfold Rep;refine⟨p,rfl,?_⟩;rw[z5t (by rw[hS1.len]<;>exact z44 _),hS1.len];simp
   · cases hf
theorem zho{id:String}{R:List V->Hp->VK->Prop}{op:Sto->List D->Option D}{x:Str}{p pos:Pos}{e:Expr}{es:List Expr}{g:As}(hc:CallR X (.builtin id) R)(hs:zwq X.K X.mg R op)(hm:X.mg x=none)(hv:bootBuiltins x=some (.builtin id))(ha:FA X (e::es) g)
   (hg:Gl X x:=by rfl) (hn:x≠"__name__":=by decide) (hdb:(x==("__debug__":Str))=false:=by decide)
   (he:starEach (e::es) X.env=(false,eval e X.env)::starEach es X.env:=by exact z9 rfl) (hpl:(backTo pos (starEach es X.env)).any (·.1)=false:=by exact qx rfl):FE X (.Call (.Name x p) (e::es) [] pos) (eA op g) :=
 jf (zq3 hc hg hm hv ha hn hdb he hpl) fun σ H Q h=>tA hs h
end
structure Cal (P:Program) (w:World) (K:zFr) (mg:zMg) (base:Heap) (k:Nat) (x:Str) (g:G):Prop where
 ex:∃(f:Addr) (fd:FuncData) (ps:List Str) (ds:List Value) (dvs:List V) (dds:List D) (gg:G),FnOk P w K mg base CX0 k f fd ps (spG K mg gg)/\mg x=some (.ref f)/\PySem.W.keepIn K (.ref f)=true /\
   Binds K fd ps ds/\Vals dvs ds/\(∀ρ H,RepL K mg ρ H dds dvs)/\∀args S r,g args S=some r->gg (args++dds) S=some r
theorem Cal.mono{P w K mg base j k x g}(c:Cal P w K mg base j x g)(h:j<=k):Cal P w K mg base k x g:=by obtain⟨f,fd,ps,ds,dvs,dds,gg,F,r⟩:=c.ex;exact⟨f,fd,ps,ds,dvs,dds,gg,F.mono h,r⟩
structure Mth (P:Program) (w:World) (K:zFr) (mg:zMg) (base:Heap) (k:Nat) (c m:Str) (g:G):Prop where
 ex:∃(C f:Addr) (fd:FuncData) (ps:List Str) (ds:List Value) (dvs:List V) (dds:List D) (gg:G),FnOk P w K mg base CX0 k f fd ps (spG K mg gg)/\mg c=some (.ref C)/\Cls K C/\Meth K C m f /\
   Binds K fd ps ds/\Vals dvs ds/\(∀ρ H,RepL K mg ρ H dds dvs)/\∀args S r,g args S=some r->gg (args++dds) S=some r
structure Mak (P:Program) (w:World) (K:zFr) (mg:zMg) (base:Heap) (k:Nat) (c:Str) (g:G):Prop where
 ex:∃(C f:Addr) (fd:FuncData) (ps:List Str) (ds:List Value) (dvs:List V) (dds:List D) (gg:G),FnOk P w K mg base CX0 k f fd ps (spG K mg gg)/\mg c=some (.ref C)/\Mk K C f /\
   Binds K fd ps ds/\Vals dvs ds/\(∀ρ H,RepL K mg ρ H dds dvs)/\∀args S r,g args S=some r->gg (args++dds) S=some r
def Fld(K:zFr)(mg:zMg)(c n:Str):Prop:=∀C,mg c=some (.ref C)->Cls K C/\NoAttr K C n
section
variable {X:Cx}{k:Nat}{x c m n:Str}{g:G}{e o:Expr}{es:List Expr}{a:As}{f:E}{p pos apos:Pos}
theorem zjy{K mg}{gg:G}{dds:List D}{dvs:List V}(hdd:∀ρ H,RepL K mg ρ H dds dvs)(hg:∀args S r,g args S=some r->gg (args++dds) S=some r){σ:St}{H:Hp}{Q:VK}(h:tE K mg (zm g a) σ H Q) :
   zug (spG K mg gg) dvs E0 (tAs K mg a) σ H Q:=by
 obtain⟨ρ,ev,S,d,S',hE,hS,hf,k⟩:=h;obtain⟨⟨ds,S1⟩,q1,hf⟩:=zy hf;exact⟨ρ,ev,S,ds,S1,hE,hS,q1,fun vs ρ1 H1 E1 hS1 r1=>⟨ρ1,ds++dds,S1,d,S',r1.append (hdd ρ1 H1),hS1,hg _ _ _ hf,fun v ρ' H' E' hS' r'=>k v ρ' H' (E1.trans E') hS' r'⟩⟩
theorem zg(cal:Cal X.prog X.w X.K X.mg X.base k x g)(hr:Room k X.A)(ha:FA X (e::es) a)(hg:Gl X x:=by rfl)(hdb:(x==("__debug__":Str))=false:=by decide)
   (he:starEach (e::es) X.env=(false,eval e X.env)::starEach es X.env:=by exact z9 rfl) (hpl:(backTo pos (starEach es X.env)).any (·.1)=false:=by exact qx rfl) :
   FE X (.Call (.Name x p) (e::es) [] pos) (zm g a):=by
 obtain⟨f,fd,ps,ds,dvs,dds,gg,F,hm,hk,hb,hd,hdd,hgg⟩:=cal.ex;exact jf (zvb F hr hg hm hk hb hd zlv ha hdb he hpl) fun σ H Q h=>zjy hdd hgg h
theorem zgb{c:Str}{S:Sto}{d:D}{r:Nat×List (Str×D)}(h:zd6 c S d=some r):d=.obj r.1/\S[r.1]? = some (.ins c r.2):=by
 unfold zd6 at h;split at h
 · split at h
   · rename_i i _ c' fs e;split at h
     · rename_i hc;cases h;subst hc;exact⟨rfl,e⟩
     · cases h
   · cases h
 · cases h
theorem zin{K mg ρ H S}(hS:StOk K mg ρ H S){c:Str}{i:Nat}{fs:List (Str×D)}{v:V}(h:S[i]? = some (.ins c fs))(r:Rep K mg ρ H (.obj i) v) :
   ∃b C dx vs,v=.ref b/\ρ[i]? = some b/\mg c=some (.ref C)/\H b=some (.ins C dx vs)/\zwz K mg ρ H fs vs:=by
 unfold Rep at r;obtain⟨b,rfl,e⟩:=r;obtain⟨C,dx,vs,h1,h2,h3⟩:=hS.ob i _ b h e;exact⟨b,C,dx,vs,rfl,e,h1,h2,h3⟩
theorem ziz{fs:List (Str×D)}{vs:List (Str×V)}{m:Str}(h:vs.map (·.1)=fs.map (·.1))(e:fs.lookup m=none):vs.lookup m=none:=by
 induction fs generalizing vs with
 | nil=>
   cases vs with
   |nil=>rfl
   |cons _ _=>cases h
 | cons q fs ih=>
   cases vs with
   |nil=>cases h
   | cons q' vs=>
     obtain⟨a,b⟩:=q;obtain⟨a',b'⟩:=q';simp only[z5j,z7k]at h;obtain⟨h1,h2⟩:=h;subst h1;simp only[List.lookup]at e ⊢;split at e
     · cases e
     · exact ih h2 e
theorem ziy{K mg ρ H}{fs:List (Str×D)}{vs:List (Str×V)}{m:Str}{d:D}(h:zwz K mg ρ H fs vs)(e:fs.lookup m=some d):∃v,vs.lookup m=some v/\Rep K mg ρ H d v:=by
 obtain⟨h,r⟩:=h
 induction fs generalizing vs with
 |nil=>cases e
 | cons q fs ih=>
   cases vs with
   |nil=>cases h
   | cons q' vs=>
     obtain⟨a,b⟩:=q;obtain⟨a',b'⟩:=q';simp only[z5j,z7k]at h;obtain⟨h1,h2⟩:=h;subst h1;rw[z5j,z5j]at r;unfold RepL at r;obtain⟨u,t,e1,r1,r2⟩:=r;cases e1;simp only[List.lookup]at e ⊢;split at e
     · cases e;exact⟨_,rfl,r1⟩
     · exact ih e h2 r2
theorem jg(mt:Mth X.prog X.w X.K X.mg X.base k c m g)(hr:Room k X.A)(ho:FE X o f)(ha:FA X (e::es) a){pl:Sem Bool}
   (hst:starEach (e::es) X.env=(false,eval e X.env)::starEach es X.env:=by exact z9 rfl) (hpl:(backTo pos (starEach es X.env)).any (·.1)=false:=by exact qx rfl)
   (ht:eval (.Call (.Attribute o m apos) (e::es) [] pos) X.env=(do
     let ov <-eval o X.env
     standAt apos.atName
     let(f,first) <-holding [ov] (getMethod ov m pl)
     callWith pos f first (backTo pos (starEach (e::es) X.env)) (backToKw pos (keywordEach [] X.env))):=by rfl) :
   FE X (.Call (.Attribute o m apos) (e::es) [] pos) (x9 c m g f a):=by
 obtain⟨C,fa,fd,ps,ds,dvs,dds,gg,F,hm,hc,hme,hb,hd,hdd,hgg⟩:=mt.ex;refine jf (zu8 ho hc hme F hr hb hd zlv ha hst hpl ht) fun σ H Q h=>?_;obtain⟨ρ,ev,S,d,S',hE,hS,hf,k⟩:=h;obtain⟨⟨y,S1⟩,q1,hf⟩:=zy hf;obtain⟨⟨i,fs⟩,q2,hf⟩:=zy hf;dsimp only at hf q2;split at hf
 · rename_i hl;obtain⟨⟨ys,S2⟩,q3,hf⟩:=zy hf;obtain⟨rfl,hi⟩:=zgb q2;refine⟨ρ,ev,S,_,S1,hE,hS,q1,fun v ρ1 H1 E1 hS1 r1=>?_⟩;obtain⟨b,C',dx,vs,rfl,hb1,hm',hb2,hb3⟩:=zin hS1 hi r1;have ec:C'=C:=by rw[hm]at hm';cases hm';rfl
   subst ec;refine⟨b,dx,vs,rfl,hb2,ziz hb3.1 hl,ρ1,ev,S1,ys,S2,hE.mono E1,hS1,q3,fun us ρ2 H2 E2 hS2 r2=>?_⟩;exact⟨ρ2,_,S2,d,S',(RepL.cons (r1.mono E2) r2).append (hdd ρ2 H2),hS2,hgg _ _ _ hf,fun v ρ' H' E' hS' r'=>k v ρ' H' ((E1.trans E2).trans E') hS' r'⟩
 · cases hf
theorem zqb{K mg}{gg:G}{C:Addr}{dds:List D}{dvs:List V}(hm:mg c=some (.ref C))(hdd:∀ρ H,RepL K mg ρ H dds dvs)(hg:∀args S r,g args S=some r->gg (args++dds) S=some r){σ:St}{H:Hp}{Q:VK}(h:tE K mg (zl9 c g a) σ H Q) :
   zxa C (spG K mg gg) dvs E0 (tAs K mg a) σ H Q:=by
 obtain⟨ρ,ev,S,d,S',hE,hS,hf,k⟩:=h;obtain⟨⟨ds,S1⟩,q1,hf⟩:=zy hf;obtain⟨⟨y,S2⟩,q2,hf⟩:=zy hf;dsimp only at hf;cases y with
 | non=>
   cases hf;refine⟨ρ,ev,S,ds,S1,hE,hS,q1,fun vs ρ1 H1 E1 hS1 r1=>fun x dx nx ndx ne=>?_⟩;have s0:=hS1.new (.own x) ndx;have nx':upd H1 dx (.own x) x=none:=by rw[qd (z7q ne)];exact nx
   have e0:=jh hS1 (.own x) ndx;have e1:=zco s0 (p:=x) (.ins C dx []) nx';have s1:StOk K mg (ρ1++[x]) (upd (upd H1 dx (.own x)) x (.ins C dx [])) (S1++[.ins c []]):=s0.add nx' ⟨C,dx,[],hm,qo,rfl,RepL.nil⟩;have ro:Rep K mg (ρ1++[x]) (upd (upd H1 dx (.own x)) x (.ins C dx [])) (.obj S1.length) (.ref x):=by unfold Rep;refine⟨x,rfl,?_⟩;rw[z5t (by rw[hS1.len]<;>exact z44 _),hS1.len];simp
   refine⟨ρ1++[x],_,_,.non,_,RepL.cons ro ((r1.mono (e0.trans e1)).append (hdd _ _)),s1,hg _ _ _ q2,fun v ρ' H' E' hS' r'=>⟨r',?_⟩⟩;exact k _ ρ' H' (E1.trans ((e0.trans e1).trans E')) hS' (ro.mono E')
 |_=>cases hf
theorem zv5(mk:Mak X.prog X.w X.K X.mg X.base k c g)(hr:Room (k+1) X.A)(ha:FA X (e::es) a)(hg:Gl X c:=by rfl)(hdb:(c==("__debug__":Str))=false:=by decide)
   (he:starEach (e::es) X.env=(false,eval e X.env)::starEach es X.env:=by exact z9 rfl) (hpl:(backTo pos (starEach es X.env)).any (·.1)=false:=by exact qx rfl) :
   FE X (.Call (.Name c p) (e::es) [] pos) (zl9 c g a):=by
 obtain⟨C,f,fd,ps,ds,dvs,dds,gg,F,hm,M,hb,hd,hdd,hgg⟩:=mk.ex;exact jf (zu9 M F hr hg hm hb hd zlv ha hdb he hpl) fun σ H Q h=>zqb hm hdd hgg h
theorem ztl(hc:Fld X.K X.mg c n)(ho:FE X o f)(hb:attributeBase o n X.env (eval o X.env)=eval o X.env:=by rfl):FE X (.Attribute o n pos) (zwx c n f) :=
 jf (zyk ho hb) fun σ H Q h=>by obtain⟨ρ,ev,S,d,S',hE,hS,hf,k⟩:=h;obtain⟨⟨y,S1⟩,q1,hf⟩:=zy hf;obtain⟨⟨i,fs⟩,q2,hf⟩:=zy hf;obtain⟨d',q3,hf⟩:=zaq hf;cases hf;obtain⟨rfl,hi⟩:=zgb q2;refine⟨ρ,ev,S,_,_,hE,hS,q1,fun v ρ1 H1 E1 hS1 r1=>?_⟩;obtain⟨b,C,dx,vs,rfl,hb1,hm',hb2,hb3⟩:=zin hS1 hi r1;obtain⟨v,e1,r2⟩:=ziy hb3 q3;exact⟨b,C,dx,vs,v,rfl,hb2,(hc C hm').1,(hc C hm').2,e1,k v ρ1 H1 E1 hS1 r2⟩
def ztv(ft:Str->Option G)(f:E)(a:As):E:=fun ev S=>(f ev S).bind fun p=>match p.1 with
 | .fn x=>(ft x).bind fun g=>(a ev p.2).bind fun q=>g q.1 q.2
 |_=>none
theorem zrq{fe:Expr}{ft:Str->Option G}(hT:∀x g,ft x=some g->Cal X.prog X.w X.K X.mg X.base k x g)(hr:Room k X.A)(hf:FE X fe f)(ha:FA X (e::es) a)
   (ht:eval (.Call fe (e::es) [] pos) X.env=(eval fe X.env >>= fun v=>callWith pos v [] (backTo pos (starEach (e::es) X.env)) (backToKw pos (keywordEach [] X.env))):=by rfl)
   (he:starEach (e::es) X.env=(false,eval e X.env)::starEach es X.env:=by exact z9 rfl) (hpl:(backTo pos (starEach es X.env)).any (·.1)=false:=by exact qx rfl) :
   FE X (.Call fe (e::es) [] pos) (ztv ft f a):=by
 intro pins s σ H Q I h;rw[ht];obtain⟨ρ,ev,S,d,S',hE,hS,hf',kk⟩:=h;obtain⟨⟨y,S1⟩,q1,hf'⟩:=zy hf';cases y with
 | fn x=>
   dsimp only at hf';obtain⟨g,hx,hf'⟩:=zy hf';obtain⟨f0,fd,ps,ds,dvs,dds,gg,F,hm,hk,hb,hd,hdd,hgg⟩:=(hT x g hx).ex;refine z43 (thn (hf pins s σ H (fun v H1=>v=.ref f0/\zug (spG X.K X.mg gg) dvs E0 (tAs X.K X.mg a) σ H1 Q) I ⟨ρ,ev,S,_,S1,hE,hS,q1,fun v ρ1 H1 E1 hS1 r1=>⟨?_,?_⟩⟩) fun u s1 ⟨v,H1,I1,rv,ev1,q⟩=>?_)
   · unfold Rep at r1;obtain⟨b,rfl,e1⟩:=r1;rw[hm]at e1;cases e1;rfl
   · exact zjy (g:=g) hdd hgg ⟨ρ1,ev,S1,d,S',hE.mono E1,hS1,hf',fun v ρ' H' E' hS' r'=>kk v ρ' H' (E1.trans E') hS' r'⟩
   · subst ev1;obtain rfl:u=Value.ref f0:=rv;refine z7l (h₀:=X.base) I.ok.mod.kin hk (thn (ha pos pins s1 σ H1 _ I1 q) fun us s2 ⟨vs,H2,I2,r,q2⟩=>⟨I2.kIn,?_⟩) he hpl;exact zg8 F hr hb hd zlv I2 r q2
 |_=>cases hf'
theorem xu(h:FE X e f)(he:∀whole,isTrue e X.env whole=(do let v <-whole;standAt e.pos;holding [v] (truthy v)):=by intro _;rfl):FB X e (bE f) :=
 zdp (zx3 h he) fun σ H Q h=>by
   obtain⟨ρ,ev,S,b,S',hE,hS,hf,k⟩:=h;obtain⟨⟨x,S1⟩,q1,hf⟩:=zy hf;cases x with
   | bl c=>
     cases hf;exact⟨ρ,ev,S,_,_,hE,hS,q1,fun v ρ1 H1 E1 hS1 r1=>⟨b,r1,k ρ1 H1 E1 hS1⟩⟩
   |_=>cases hf
variable {b:Expr}{rest:List Expr}{u v:B}
theorem zaa(h:FB X e u):FB X (.UnaryOp .Not e pos) (zdi u):=zdp (zx4 h) fun σ H Q h=>by obtain⟨ρ,ev,S,b,S',hE,hS,hf,k⟩:=h;obtain⟨⟨x,S1⟩,q1,hf⟩:=zaq hf;cases hf;exact⟨ρ,ev,S,_,_,hE,hS,q1,fun ρ1 H1 E1 hS1=>k ρ1 H1 E1 hS1⟩
theorem zgf(h:FB X e u):FW X (.BoolOp .And [e] pos) u:=zuz h
theorem zov(h:FB X e u):FW X (.BoolOp .Or [e] pos) u:=zxz h
theorem zku(h:FB X e u)(hb:FW X (.BoolOp .And (b::rest) pos) v):FW X (.BoolOp .And (e::b::rest) pos) (zp0 u v):=znr (zx1 h hb) fun σ H Q h=>by
 obtain⟨ρ,ev,S,b,S',hE,hS,hf,k⟩:=h;obtain⟨⟨x,S1⟩,q1,hf⟩:=zy hf;refine⟨ρ,ev,S,x,S1,hE,hS,q1,fun ρ1 H1 E1 hS1=>?_⟩;cases x with
 |true=>exact z02 ⟨ρ1,ev,S1,b,S',hE.mono E1,hS1,hf,fun ρ2 H2 E2 hS2=>k ρ2 H2 (E1.trans E2) hS2⟩
 |false=>cases hf;exact z03 (k ρ1 H1 E1 hS1)
theorem zvz(h:FB X e u)(hb:FW X (.BoolOp .Or (b::rest) pos) v):FW X (.BoolOp .Or (e::b::rest) pos) (bOr u v):=znr (z1z h hb) fun σ H Q h=>by
 obtain⟨ρ,ev,S,b,S',hE,hS,hf,k⟩:=h;obtain⟨⟨x,S1⟩,q1,hf⟩:=zy hf;refine⟨ρ,ev,S,x,S1,hE,hS,q1,fun ρ1 H1 E1 hS1=>?_⟩;cases x with
 |true=>cases hf;exact z02 (k ρ1 H1 E1 hS1)
 |false=>exact z03 ⟨ρ1,ev,S1,b,S',hE.mono E1,hS1,hf,fun ρ2 H2 E2 hS2=>k ρ2 H2 (E1.trans E2) hS2⟩
theorem zv7(h:FW X e u):FB X e u:=h.pt
variable {g1 g2:E}
theorem zec{op}(h:FE X e g1):FE X (.BoolOp op [e] pos) g1:=zyg h
theorem zcv(h:FE X e g1)(hb:FE X (.BoolOp .And (b::rest) pos) g2):FE X (.BoolOp .And (e::b::rest) pos) (zh9 g1 g2):=jf (zym h hb) fun σ H Q h=>by
 obtain⟨ρ,ev,S,d,S',hE,hS,hf,k⟩:=h;obtain⟨⟨x,S1⟩,q1,hf⟩:=zy hf;refine⟨ρ,ev,S,x,S1,hE,hS,q1,fun w ρ1 H1 E1 hS1 r1=>?_⟩;cases x with
 | bl c=>
   refine⟨c,r1,?_⟩;cases c with
   |true=>exact z02 ⟨ρ1,ev,S1,d,S',hE.mono E1,hS1,hf,fun v ρ2 H2 E2 hS2 r2=>k v ρ2 H2 (E1.trans E2) hS2 r2⟩
   |false=>cases hf;exact z03 (k _ ρ1 H1 E1 hS1 rfl)
 |_=>cases hf
theorem zo6(h:FE X e g1):FE X (.UnaryOp .Not e pos) (zww g1):=jf (zyh h) fun σ H Q h=>by
 obtain⟨ρ,ev,S,d,S',hE,hS,hf,k⟩:=h;obtain⟨⟨x,S1⟩,q1,hf⟩:=zy hf;obtain⟨z,q2,hf⟩:=zaq hf;cases hf;refine⟨ρ,ev,S,x,_,hE,hS,q1,fun w ρ1 H1 E1 hS1 r1=>?_⟩;cases x with
 |bl c=>cases q2;exact⟨c,r1,k _ ρ1 H1 E1 hS1 rfl⟩
 |_=>cases q2
end
section
variable {X:Cx}{st:Stmt}{rest:List Stmt}{a b body:C}{e o:Expr}{f g h':E}{u:B}{pos pos':Pos}{x c n:Str}
theorem zt:FSs X [] jc:=zj9 zu3 fun σ H D h=>by obtain⟨ρ,ev,S,o,S',hE,hS,hf,k⟩:=h;cases hf;exact k σ ρ H (Ext.refl _ _) hS hE
theorem zd(h1:FS X st a)(h2:FSs X rest b):FSs X (st::rest) (z8 a b):=zj9 (zqz h1 h2) fun σ H D h=>by
 obtain⟨ρ,ev,S,o,S',hE,hS,hf,k⟩:=h;obtain⟨⟨o1,S1⟩,q1,hf⟩:=zy hf;refine⟨ρ,ev,S,o1,S1,hE,hS,q1,?_⟩;cases o1 with
 |nx e=>exact fun σ' ρ' H' E' hS' hE'=>⟨ρ',e,S1,o,S',hE',hS',hf,k.ext E'⟩
 |rt d=>cases hf;exact k
 |bk e=>cases hf;exact k
 |ct e=>cases hf;exact k
theorem zj(h1:FS X st a):FSs X [st] a:=zu2 h1
theorem zp(h:FE X e f):FS X (.Return (some e) pos) (ql f):=kr (zx6 h) fun σ H D h=>by obtain⟨ρ,ev,S,o,S',hE,hS,hf,k⟩:=h;obtain⟨⟨d,S1⟩,q1,hf⟩:=zaq hf;cases hf;exact⟨ρ,ev,S,d,_,hE,hS,q1,k⟩
theorem zv0:FS X (.Return none pos) zxq:=kr zu4 fun σ H D h=>by obtain⟨ρ,ev,S,o,S',hE,hS,hf,k⟩:=h;cases hf;exact k .non ρ H (Ext.refl _ _) hS rfl
theorem zb5:FS X st zcr:=kr zq0 fun σ H D h=>by obtain⟨ρ,ev,S,o,S',hE,hS,hf,k⟩:=h;cases hf
theorem yc(h:FE X e f)(hs:swapsWith e none pos.line X.env=pure false:=by rfl):FS X (.Expr e pos) (zbj f):=kr (znv h hs) fun σ H D h=>by obtain⟨ρ,ev,S,o,S',hE,hS,hf,k⟩:=h;obtain⟨⟨d,S1⟩,q1,hf⟩:=zaq hf;cases hf;exact⟨ρ,ev,S,d,_,hE,hS,q1,fun v ρ1 H1 E1 hS1 r1=>k σ ρ1 H1 E1 hS1 (hE.mono E1)⟩
theorem zv(i:Nat)(h:FE X e f)(hN:X.N.Nodup)(hi:X.N[i]? = some x:=by rfl)(hx:Loc X.env.scope x:=by first | exact Or.inl rfl | exact Or.inr rfl)(hs:swapsWith e (some (.Name x pos')) pos.line X.env=pure false:=by rfl)
   (hf:X.fn x=true\/X.env.scope.names.lookup x=some .local:=by first | exact .inl rfl | exact .inr rfl | assumption):FS X (.Assign [.Name x pos'] e pos) (qp i f) :=
 kr (zx5 hN hi hx h hs hf) fun σ H D h=>by obtain⟨ρ,ev,S,o,S',hE,hS,hf,k⟩:=h;obtain⟨⟨d,S1⟩,q1,hf⟩:=zaq hf;cases hf;exact⟨ρ,ev,S,d,_,hE,hS,q1,fun v ρ1 H1 E1 hS1 r1=>k _ ρ1 H1 E1 hS1 ((hE.mono E1).set r1 i)⟩
inductive Names (X:Cx):List Expr->List Nat->TGs->Prop where
 |nil:Names X [] [] z3t
 |cons {i:Nat}{x:Str}{px:Pos}{es:List Expr}{is:List Nat}{t:TGs} (hN:X.N.Nodup) (hi:X.N[i]? = some x) (hx:Loc X.env.scope x) (hf:X.fn x=true\/X.env.scope.names.lookup x=some .local) (h:Names X es is t) (p:PGs X (.Name x px::es) (zri (zhm i) t)):Names X (.Name x px::es) (i::is) (zri (zhm i) t)
theorem Names.pgs{es is t}(h:Names X es is t):PGs X es t:=by
 cases h with
 |nil=>exact zu7
 |cons _ _ _ _ _ p=>exact p
theorem zkh{K mg ρ H}{es is t}(h:Names X es is t):∀{ds:List D}{vs:List V}{ev ev':Ev}{σ:St}{Q:St->Hp->Prop},RepL K mg ρ H ds vs->EnvR K mg ρ H ev σ->y4 ev is ds=some ev'->(∀σ',EnvR K mg ρ H ev' σ'->Q σ' H)->t vs σ H Q:=by
 induction h with
 | nil=>
   intro ds vs ev ev' σ Q r hE e k;cases ds with
   | nil=>
     unfold RepL at r;unfold y4 at e;cases e;exact⟨r,k σ hE⟩
   |cons _ _=>unfold y4 at e;cases e
 | cons hN hi hx hf _ _ ih=>
   intro ds vs ev ev' σ Q r hE e k;cases ds with
   |nil=>unfold y4 at e;cases e
   | cons d ds=>
     unfold RepL at r;obtain⟨v,r',rfl,r1,r2⟩:=r;unfold y4 at e;exact⟨v,r',rfl,ih r2 (hE.set r1 _) e k⟩
theorem zch:∀{is:List Nat}{ds:List D}{ev ev':Ev},y4 ev is ds=some ev'->ds.length=is.length
 | [],[],_,_,_=>rfl
 |i::is,d::ds,_,_,h=>by unfold y4 at h;rw[List.length_cons,List.length_cons,zch h]
 | [],_::_,_,_,h=>by unfold y4 at h;cases h
 |_::_,[],_,_,h=>by unfold y4 at h;cases h
theorem zzx(is:List Nat){es:List Expr}{t:TGs}{k:Nat}{pt:Pos}(hn:Names X es is t)(h:FE X e f)(hc:X.calm=true:=by rfl)(hl:(assignEach es X.env).length=is.length:=by rfl)(hst:(assignEach es X.env).findIdx? (·.1)=none:=by rfl)
   (hs:swapsWithSole [.Tuple es k pt] e pos.line X.env=pure false:=by rfl) (hw:swappedStores [.Tuple es k pt] e X.env=pure none:=by rfl) (h1:(assignEach [.Tuple es k pt] X.env).map (·.2)=[assign (.Tuple es k pt) X.env]:=by rfl) :
   FS X (.Assign [.Tuple es k pt] e pos) (zxo is f):=kr (zx8 h (zs8 hc hn.pgs hl hst) hs hw h1) fun σ H D h=>by
 obtain⟨ρ,ev,S,o,S',hE,hS,hf,k⟩:=h;obtain⟨⟨d,S1⟩,q1,hf⟩:=zy hf;cases d with
 | tup ds=>
   obtain⟨ev',q2,hf⟩:=zaq hf;cases hf;refine⟨ρ,ev,S,_,_,hE,hS,q1,fun v ρ1 H1 E1 hS1 r1=>?_⟩;unfold Rep at r1;obtain⟨p,vs,rfl,t,r⟩:=r1;exact⟨p,vs,rfl,t.sq,by rw[<-r.length];exact zch q2,zkh hn r (hE.mono E1) q2 fun σ' hE'=>k σ' ρ1 H1 E1 hS1 hE'⟩
 |_=>cases hf
theorem qj(hc:FB X e u){sa sb:List Stmt}(ha:FSs X sa a)(hb:FSs X sb b):FS X (.If e sa sb pos) (sIf u a b):=kr (z12 hc ha hb) fun σ H D h=>by
 obtain⟨ρ,ev,S,o,S',hE,hS,hf,k⟩:=h;obtain⟨⟨x,S1⟩,q1,hf⟩:=zy hf;refine⟨ρ,ev,S,x,S1,hE,hS,q1,fun ρ1 H1 E1 hS1=>?_⟩;cases x with
 |true=>exact z02 ⟨ρ1,ev,S1,o,S',hE.mono E1,hS1,hf,k.ext E1⟩
 |false=>exact z03 ⟨ρ1,ev,S1,o,S',hE.mono E1,hS1,hf,k.ext E1⟩
theorem zs1{K mg ρ H}{n:Str}{d:D}{v:V}(r:Rep K mg ρ H d v):∀{fs:List (Str×D)}{vs:List (Str×V)},zwz K mg ρ H fs vs->zwz K mg ρ H (zs2 n d fs) (zeu n v vs)
 | [],vs,h=>by
   obtain⟨h1,_⟩:=h;cases vs with
   |nil=>exact⟨rfl,RepL.cons r RepL.nil⟩
   |cons _ _=>cases h1
 | (a,b)::fs,vs,h=>by
   obtain⟨h1,h2⟩:=h;cases vs with
   |nil=>cases h1
   | cons q vs=>
     obtain⟨a',b'⟩:=q;simp only[z5j,z7k]at h1;obtain⟨h3,h4⟩:=h1;subst h3;rw[z5j,z5j]at h2;unfold RepL at h2;obtain⟨u,t,e1,r1,r2⟩:=h2;cases e1;rw[show zs2 n d ((a',b)::fs)=(if a'=n then (a',d)::fs else (a',b)::zs2 n d fs)from rfl,show zeu n v ((a',b')::vs)=(if a'=n then (a',v)::vs else (a',b')::zeu n v vs)from rfl];by_cases hn:a'=n
     · rw[z5s hn,z5s hn];exact⟨by simp[h4],RepL.cons r r2⟩
     · rw[z5y hn,z5y hn];obtain⟨i1,i2⟩:=zs1 r (fs:=fs) (vs:=vs) ⟨h4,r2⟩;exact⟨by rw[z5j,z5j,i1],RepL.cons r1 i2⟩
theorem zow(hc:Fld X.K X.mg c n)(ho:FE X o f)(hv:FE X e g)(hs:swapsWith e (some (.Attribute o n pos')) pos.line X.env=pure false:=by rfl):FS X (.Assign [.Attribute o n pos'] e pos) (zlo c n f g) :=
 kr (zx7 ho hv hs) fun σ H D h=>by
   obtain⟨ρ,ev,S,o,S',hE,hS,hf,k⟩:=h;obtain⟨⟨d,S1⟩,q1,hf⟩:=zy hf;obtain⟨⟨y,S2⟩,q2,hf⟩:=zy hf;obtain⟨⟨i,fs⟩,q3,hf⟩:=zy hf;dsimp only at hf q3;split at hf
   · rename_i hl;cases hf;obtain⟨rfl,hi⟩:=zgb q3;refine⟨ρ,ev,S,d,S1,hE,hS,q1,fun v ρ1 H1 E1 hS1 r1=>⟨ρ1,ev,S1,_,S2,hE.mono E1,hS1,q2,fun w ρ2 H2 E2 hS2 r2=>?_⟩⟩;obtain⟨b,C,dx,vs,rfl,hb1,hm',hb2,hb3⟩:=zin hS2 hi r2;have e0:=zi8 hS2 (.ins C dx (zeu n v vs)) hb1;refine⟨b,C,dx,vs,rfl,hb2,(hc C hm').1,(hc C hm').2,by have:=z7a List.length hb3.1;simp at this;omega,?_⟩;have hf2:zwz X.K X.mg ρ2 (upd H2 b (.ins C dx (zeu n v vs))) (zs2 n d fs) (zeu n v vs):=zs1 ((r1.mono E2).mono e0) ⟨hb3.1,hb3.2.mono e0⟩;exact k σ ρ2 _ ((E1.trans E2).trans e0) (hS2.set hb1 ⟨C,dx,_,hm',qo,hf2⟩) (((hE.mono E1).mono E2).mono e0)
   · cases hf
section
variable {K:zFr}{mg:zMg}{ρ1:List Addr}{H1:Hp}{E:Ends}{S':Sto}{o:Out}{i:Nat}
def zsj(K:zFr)(mg:zMg)(ρ1:List Addr)(H1:Hp)(i:Nat)(body:C)(o:Out)(S':Sto)(ds:List D)(σ:St)(H:Hp):Prop :=
 ∃ρ ev S,Ext ρ1 H1 ρ H/\StOk K mg ρ H S/\EnvR K mg ρ H ev σ/\zck i body ds ev S=some (o,S')
theorem turn_ok{d:D}{ds:List D}{x:V}{σ:St}{H:Hp}{ρ:List Addr}{ev:Ev}{S:Sto}(k:Post K mg E S' ρ1 H1 o)(e0:Ext ρ1 H1 ρ H)(hS:StOk K mg ρ H S)(hE:EnvR K mg ρ H ev σ)(r:Rep K mg ρ H d x)(hl:zck i body (d::ds) ev S=some (o,S')) :
   tC K mg body { E with nx:=zsj K mg ρ1 H1 i body o S' ds,ct:=zsj K mg ρ1 H1 i body o S' ds,bk:=E.nx } (σ.set i (some x)) H:=by
 obtain⟨⟨o1,S3⟩,q,hl⟩:=zy hl;refine⟨ρ,ev.set i (some d),S,o1,S3,hE.set r i,hS,q,?_⟩;cases o1 with
 |nx e=>exact fun σ' ρ' H' E' hS' hE'=>⟨ρ',e,S3,e0.trans E',hS',hE',hl⟩
 |ct e=>exact fun σ' ρ' H' E' hS' hE'=>⟨ρ',e,S3,e0.trans E',hS',hE',hl⟩
 |bk e=>cases hl;exact fun σ' ρ' H' E' hS' hE'=>k σ' ρ' H' (e0.trans E') hS' hE'
 |rt y=>cases hl;exact fun v ρ' H' E' hS' r'=>k v ρ' H' (e0.trans E') hS' r'
theorem zp2{σ:St}{H:Hp}(k:Post K mg E S' ρ1 H1 o)(h:zsj K mg ρ1 H1 i body o S' [] σ H):E.nx σ H:=by obtain⟨ρ,ev,S,e0,hS,hE,hl⟩:=h;cases hl;exact k σ ρ H e0 hS hE
end
theorem zqw{K mg}{ρ1:List Addr}{H1:Hp}{E:Ends}{S' S1:Sto}{o:Out}{i n:Nat}{lo:Int}{σ:St}{ev:Ev}(k:Post K mg E S' ρ1 H1 o)(hS1:StOk K mg ρ1 H1 S1)(hE:EnvR K mg ρ1 H1 ev σ)(hf:zck i body (j6 lo n) ev S1=some (o,S')) :
   ∃W:Nat->Nat->St->Hp->Prop,(∃m,W 0 m σ H1)/\∀j m σ H,W j m σ H ->
     ((Itr lo n).stop j H/\E.nx σ H)\/((Itr lo n).go j H/\∃N:St->Hp->Prop,(∀σ' H',N σ' H'->∃m',m'<m/\W (j+1) m' σ' H')/\∀x H',(Itr lo n).yld j H x H'->zhm i x σ H' fun σ2 H2=>tC K mg body { E with nx:=N,ct:=N,bk:=E.nx } σ2 H2):=by
 refine zoy (g:=zhm i) (fun j σ' H'=>zsj K mg ρ1 H1 i body o S' ((j6 lo n).drop j) σ' H') ⟨ρ1,ev,S1,Ext.refl _ _,hS1,hE,hf⟩ ?_ ?_
 · rintro j σ' H' hj ⟨ρ',ev',S2,e0,hS2,hE2,hl2⟩;have hjl:j<(j6 lo n).length:=by unfold j6;simpa using hj
   have ed:(j6 lo n).drop j=(j6 lo n)[j]::(j6 lo n).drop (j+1):=z7i hjl;rw[ed]at hl2;refine turn_ok k e0 hS2 hE2 ?_ hl2;have:(j6 lo n)[j]=D.int (lo+(j:Int)):=by simp[j6]
   rw[this];exact rfl
 · intro σ' H' ha;rw[List.drop_eq_nil_of_le (by unfold j6;simp)]at ha;exact zp2 k ha
theorem zi4(i:Nat){l:Expr}{px p2 p3:Pos}{sb:List Stmt}(hN:X.N.Nodup)(hm:X.mg "range"=none)(hl:FE X l f)(hb:FSs X sb body)(hp:PassesOwn (model X.prog X.w) X.A X.env X.xe)(hg:Gl X "range":=by rfl)(hc:X.calm=true:=by rfl)(hi:X.N[i]? = some x:=by rfl)(hx:Loc X.env.scope x:=by first | exact Or.inl rfl | exact Or.inr rfl)
   (hf:X.fn x=true\/X.env.scope.names.lookup x=some .local:=by first | exact .inl rfl | exact .inr rfl | assumption) (hst:starEach [l] X.env=[(false,eval l X.env)]:=by exact z9 rfl) (hs:∀v,foldedSetIterable (.Call (.Name "range" p2) [l] [] p3) X.env v=pure v:=by intro _;rfl) :
   FS X (.For (.Name x px) (.Call (.Name "range" p2) [l] [] p3) sb [] pos) (zil i f body) :=
 kr (zs4 hp hc (zny hg hm (zb hl ze hst) hst) (zis hN hi hx hf) hb hs) fun σ H D h=>by
   obtain⟨ρ,ev,S,o,S',hE,hS,hf,k⟩:=h;obtain⟨⟨d,S1⟩,q1,hf⟩:=zy hf;cases d with
   | int j=>
     dsimp only at hf;split at hf
     · rename_i hj;refine⟨ρ,ev,S,[.int j],S1,hE,hS,by simp only[aC,aN,q1,Option.bind_some],fun vs ρ1 H1 E1 hS1 r1=>?_⟩;unfold RepL at r1;obtain⟨v,r,rfl,r2,r3⟩:=r1;unfold RepL at r3;subst r3;exact⟨j,by rw[show v=.int j from r2],hj.1,hj.2,zqw (k.ext E1) hS1 (hE.mono E1) hf⟩
     · cases hf
   |_=>cases hf
end
open PySem.Spec PyProof.Rows
structure FunD (K:zFr) (x qual:Str) (st:Stmt) (f:Addr) (fd:FuncData) (dV:Value):Prop where
 ex:∃(oc:Value) (od:Option Addr) (kV doc pm:Value) (an:Option Addr) (cdv ct:Value) (osl:Array (Option Value)),
   fd=PySem.W.fnOf x qual (za5 st) (jo st) (zk st) dV kV doc pm an cdv ct/\K.lookup f=some ⟨oc,od,.func fd,osl⟩/\PySem.W.codeIn K cdv qual=true
 kp:PySem.W.keepIn K (.ref f)=true
theorem zep{N n c ds S r}(h:qa N n c ds S=some r):ds.length=n:=by
 unfold qa at h;split at h
 · rename_i hl;exact hl
 · cases h
theorem zjl{K mg}{c:C}{N:List Str}{n:Nat}{vs:List V}{H:Hp}{Q:VK}{E:XK}(h:spG K mg (qa N.length n c) vs H Q E):tC K mg c { nx:=fun _ H'=>Q .non H',rt:=Q } (start N vs) H:=by
 obtain⟨ρ,ds,S,d,S',r,hS,hf,k⟩:=h;unfold qa at hf;split at hf
 · split at hf
   · rename_i e S1 hc;cases hf;exact⟨ρ,_,S,_,_,EnvR.start r,hS,hc,fun σ' ρ' H' E' hS' _=>k .non ρ' H' E' hS' rfl⟩
   · rename_i e S1 hc;cases hf;exact⟨ρ,_,S,_,_,EnvR.start r,hS,hc,k⟩
   · cases hf
 · cases hf
theorem FunD.ok{P:Program}{w:World}{K:zFr}{mg:zMg}{base:Heap}{x qual:Str}{st:Stmt}{f:Addr}{fd:FuncData}{dV:Value}{N ps:List Str}{k:Nat}{c:C}(F:FunD K x qual st f fd dV)(S:FnScope N ps (zk st))
   (hbody:∀(cdv:Value) (A:Around) (outer:List Env) (s:Shared) (H:Hp) (E:XK),Room k (A.deeper (envOfC qual (zk st) s.heap.objs.size f cdv)) ->
     FSs (zcd CX0 P w K mg base N qual (zk st) f cdv A outer s H E).nox (jo st) c):FnOk P w K mg base CX0 (k+1) f fd ps (spG K mg (qa N.length ps.length c)):=by
 obtain⟨oc,od,kV,doc,pm,an,cdv,ct,osl,rfl,lk,hcd⟩:=F.ex;refine zrl lk hcd S (fun vs H Q E h=>?_) fun A outer s H vs Q E hr hsp=>?_
 · obtain⟨ρ,ds,S,d,S',r,hS,hf,k⟩:=h;rw[<-r.length];exact zep hf
 · exact⟨_,(hbody cdv A outer s H E hr).nox,zjl hsp⟩
def zhu(cells:zLA):List (Str×NameKind)->zLA->zLA
 | [],acc=>acc
 | (n,k)::r,acc=>zhu cells r (if k=.free then (match cells.lookup n with | some c=>(n,c)::acc | none=>acc)else acc)
theorem zdh{cells:zLA}:∀{names:List (Str×NameKind)}{acc:zLA},(∀x c,acc.lookup x=some c->cells.lookup x=some c)->∀x c,(zhu cells names acc).lookup x=some c->cells.lookup x=some c
 | [],_,h=>h
 | (n,k)::r,acc,h=>by
   unfold zhu;refine zdh (names:=r) ?_;intro x c;split
   · split
     · rename_i c' e;intro q;simp only[List.lookup]at q;split at q
       · rename_i hx;cases q;rw[z71.mp hx];exact e
       · exact h x c q
     · exact h x c
   · exact h x c
theorem zla{cells:zLA}{x:Str}:∀{names:List (Str×NameKind)}{acc:zLA},(∃c,acc.lookup x=some c)->∃c,(zhu cells names acc).lookup x=some c
 | [],_,h=>h
 | (n,k)::r,acc,h=>by
   unfold zhu;refine zla (names:=r) ?_;split
   · split
     · rename_i c' e;simp only[List.lookup];split
       · exact⟨_,rfl⟩
       · exact h
     · exact h
   · exact h
theorem zgl{cells:zLA}{x:Str}(hx:∃c,cells.lookup x=some c):∀{names:List (Str×NameKind)}{acc:zLA},(x,NameKind.free)∈names->∃c,(zhu cells names acc).lookup x=some c
 | [],_,h=>by cases h
 | (n,k)::r,acc,h=>by
   unfold zhu;rcases z5p.mp h with e | h
   · cases e;refine zla ?_;obtain⟨c,hc⟩:=hx;rw[z5s rfl,hc];exact⟨c,by simp[List.lookup]⟩
   · exact zgl hx h
theorem zb9{scope:Scope}{env:Env}(h:∀p∈scope.names,p.2=NameKind.free->∃c,env.cells.lookup p.1=some c):closureFor scope env=pure (zhu env.cells scope.names []):=by
 unfold closureFor;generalize scope.names=names at h;have key:∀(names:List (Str×NameKind)) (acc:zLA),(∀p∈names,p.2=NameKind.free->∃c,env.cells.lookup p.1=some c) ->
     (forIn names acc fun(x:Str×NameKind) (cs:zLA)=>(do
       if(x.2==NameKind.free)=true then do
         let a <-cellOf env x.1
         pure (ForInStep.yield ((x.1,a)::cs))
       else pure (ForInStep.yield cs):Sem (ForInStep (zLA))))=pure (zhu env.cells names acc):=by
   intro names
   induction names with
   |nil=>intro acc _;rfl
   | cons p r ih=>
     intro acc h;obtain⟨n,k⟩:=p;rw[z8n];unfold zhu;by_cases hk:k=.free
     · subst hk;obtain⟨c,hc⟩:=h (n,.free) z5d rfl;have hc':env.cells.lookup n=some c:=hc;simp only[beq_self_eq_true,z61,cellOf,hc',pure_bind];exact ih _ fun q hq=>h q (z46 _ hq)
     · have hb:(k==NameKind.free)=false:=by simpa using hk
       simp only[hb,z5e,z6i,pure_bind,z5y hk];exact ih _ fun q hq=>h q (z46 _ hq)
 have:=key names [] h
 first
   | (simp only[bind_pure];exact this)
   | (rw[show(fun(x:Str×NameKind) (cs:zLA)=>_)=_ from rfl];exact this)
   |exact this
def zh8(ev:Ev)(i:Nat):Option D:=match ev[i]? with
 |some o=>o
 |none=>none
def zgx(σ:L2.St)(i:Nat):Option V:=match σ[i]? with
 |some o=>o
 |none=>none
def jw(X:Cx)(N':List Str)(scope:Scope)(s₀:Shared)(H₀:Hp)(C:Addr)(ex:List Addr):Cx :=
 { X with N:=N',s₀:=s₀,H₀:=H₀,env:=compEnvC scope (zhu X.env.cells scope.names []) C X.env,outer:=X.stack,ex:=ex,fn:=fun _=>false,pn:=[],xe:=fun _ _=>False }
section
variable {X:Cx}{pins:zAO}{σ:L2.St}{H:Hp}{s:Shared}{scope:Scope}{x:Str}{N':List Str}{fr:List Nat}
structure CompOk (X:Cx) (scope:Scope) (x:Str) (N':List Str) (fr:List Nat):Prop where
 nd:(x::N').Nodup
 hx:scope.names.lookup x=some .local
 kind:scope.kind=.function
 frn:fr.map (fun j=>X.N[j]?)=N'.map some
 frk:∀y∈N',X.env.kindOf y=some .cell/\(relabel scope X.env).names.lookup y=some .cell
 chk:∀p∈scope.names,p.2≠.cell/\(p.2=.free->X.env.kindOf p.1=some .cell)/\(p.2=.local->scope.names.lookup p.1=some .local)
theorem zb8(nd:(x::N').Nodup)(hx:scope.names.lookup x=some .local)(kind:scope.kind=.function)(frn:fr.map (fun j=>X.N[j]?)=N'.map some)
   (frk:(N'.all fun y=>X.env.kindOf y==some NameKind.cell&&(relabel scope X.env).names.lookup y==some NameKind.cell)=true)
   (chk:(scope.names.all fun p=>p.2 != NameKind.cell&&(p.2 != NameKind.free||X.env.kindOf p.1==some NameKind.cell)&&(p.2 != NameKind.local||scope.names.lookup p.1==some NameKind.local))=true):CompOk X scope x N' fr:=by
 refine⟨nd,hx,kind,frn,fun y hy=>?_,fun p hp=>?_⟩
 · have:=z6d.mp frk y hy;simpa using this
 · have:=z6d.mp chk p hp;simp only[z6l,Bool.or_eq_true,bne_iff_ne,z71]at this;exact⟨this.1.1,fun e=>this.1.2.resolve_left (fun z=>z e),fun e=>this.2.resolve_left (fun z=>z e)⟩
theorem zfa{α:Type}{x:Str}{k:α}:∀{l:List (Str×α)},l.lookup x=some k->(x,k)∈l
 | [],h=>by cases h
 | (n,a)::r,h=>by
   simp only[List.lookup]at h;split at h
   · rename_i e;cases h;rw[z71.mp e];exact z5d
   · exact z46 _ (zfa h)
theorem CompOk.free(c:CompOk X scope x N' fr){y:Str}(h:(relabel scope X.env).names.lookup y=some .cell\/(relabel scope X.env).names.lookup y=some .free):(y,NameKind.free)∈scope.names:=by
 have go:∀k,(k=NameKind.cell\/k=.free)->(relabel scope X.env).names.lookup y=some k->(y,NameKind.free)∈scope.names:=by
   intro k hk e;have m:=zfa e;unfold relabel at m;obtain⟨⟨n,k0⟩,hm,e2⟩:=z72.mp m;dsimp only at e2;split at e2
   · rename_i hc;cases e2;have:k0=.free:=by rw[z6l,z6l]at hc;simpa using hc.1.1
     subst this;exact hm
   · cases e2;rcases hk with rfl | rfl
     · exact absurd rfl (c.chk _ hm).1
     · exact hm
 rcases h with h | h
 · exact go _ (.inl rfl) h
 · exact go _ (.inr rfl) h
theorem CompOk.start(c:CompOk X scope x N' fr)(I:Inv X pins σ H s){fp:List Addr}(hf:∀b∈fp,zmr X pins H b)(hfl:∀b∈fp,b<s.heap.objs.size){C:Addr}(hC:s.heap.objs.size<=C){h1:Heap}{m:zMg}{t':Nat}(hk:∀b o,s.heap.get? b=some o->h1.get? b=some o)(hn:h1.Ns C m) :
   Inv (jw X (x::N') scope s H C fp) [] (none::fr.map (zgx σ)) H { s with heap:=h1,toks:=t' }:=by
 have sub:∀y a,(zhu X.env.cells scope.names []).lookup y=some a->X.env.cells.lookup y=some a:=zdh (fun _ _ h=>by cases h);have hfs:∀b∈frs X.stack,H b=none:=I.stkFree;have cellt:∀y a,X.env.cells.lookup y=some a->a<s.heap.objs.size:=fun y a e=>by obtain⟨v,q⟩:=I.cell y a e;exact q.lt
 refine⟨⟨I.ok.mod,c.kind,I.ok.glob,I.ok.blt,hC,fun y z a h1 h2=>I.ok.inj y z a (sub _ _ h1) (sub _ _ h2),fun y hy=>?_,fun y a h=>?_,I.ok.hd,I.ok.frames,.inl rfl,fun b hb=>⟨z5q (z45 (hfl b hb) hC),fun y a e=>(hf b hb).2.2.2.2.1 y a (sub _ _ e)⟩,I.bs,z5u I.ok.bsz I.sz,fun b o e hb=>?_,fun b hb z=>?_,I.stack,hfs⟩,
   rfl,I.bare,Un.kept hk,⟨m,hn,fun i y v e1 e2 e3=>?_⟩,fun y a e=>?_,I.hok.fresh hC,fun y a e=>I.freeC y a (sub _ _ e),fun p hp=>absurd hp (by simp[jw]),I.hok.kept hk,?_⟩
 · exact zgl (I.ok.has y (.inl ((c.chk _ (c.free hy)).2.1 rfl))) (c.free hy)
 · cases h
 · have:=(I.bs b o e).1;have z:=hf b hb;rcases z.2.2.2.1 with z | z
   · exact I.ok.noex b o e z
   · have:=(I.ok.bs b o e).1;exact absurd (z45 (z5l this) z) (z69 _)
 · rcases z5p.mp (I.stkSub b z)with e | e
   · exact(hf b hb).2.1 e
   · exact(hf b hb).2.2.1 e
 · cases i with
   |zero=>simp at e2
   | succ i=>
     have e1:N'[i]? = some y:=by simpa [jw] using e1
     have e2:(fr.map (zgx σ))[i]? = some (some v):=by simpa using e2
     rw[z6s]at e2;cases ej:fr[i]? with
     |none=>rw[ej]at e2;cases e2
     | some j=>
       rw[ej]at e2;have e2:zgx σ j=some v:=by simpa using e2
       have hv:σ[j]? = some (some v):=by
         unfold zgx at e2;split at e2
         · rename_i o ho;rw[ho,e2]
         · cases e2
       have hN:X.N[j]? = some y:=by have q:=z7a (fun l=>l[i]?) c.frn;simp only[z6s,ej,e1,Option.map_some,Option.some.injEq]at q;exact q
       obtain⟨k1,k2⟩:=c.frk y (z51 e1);obtain⟨mm,_,hl⟩:=I.loc;obtain⟨u,r,l⟩:=hl j y v hN hv (.inr (.inl k1));refine⟨u,r,?_⟩;rcases l with⟨k,_⟩ | ⟨_,a,ha,hcl⟩
       · rw[k1]at k;cases k
       · refine .inr ⟨.inl k2,a,?_,?_⟩
         · obtain⟨a',ha'⟩:=zgl (cells:=X.env.cells) (names:=scope.names) (acc:=[]) ⟨a,ha⟩ (c.free (.inl k2));have:=sub _ _ ha';rw[ha]at this;cases this;exact ha'
         · obtain⟨o,ho,hd⟩:=hcl;exact⟨o,hk _ _ ho,hd⟩
 · obtain⟨v,o,ho,hd⟩:=I.cell y a (sub _ _ e);exact⟨v,o,hk _ _ ho,hd⟩
 · have:=z7a List.length c.frn;simp at this;simp[jw,this]
theorem Inv.track{p:Addr}{ys:List V}{its:List Value}{n:Nat}(I:Inv X pins σ H s)(hn:H p=none)(ho:s.heap.get? p=some { cls:=.type "list",data:=.seq its.toArray n })(r:Vals ys its)(hz:ys.length<=sizeLine)
   (h1:p∈X.ex\/X.s₀.heap.objs.size<=p) (hL:p≠X.env.locals) (h2:∀x c,X.env.cells.lookup x=some c->c≠p) (h3:∀q∈X.pn++pins,q.1≠p):Inv X pins σ (upd H p (.lst ys)) s:=by
 refine I.step (g':=s.gens) (d':=s.drawn) (h':=s.heap) (t':=s.toks) (ch:=[p]) (fun b hb=>?_) (fun b o _ _ _ e _=>e) (fun b o _ _ _ e _=>⟨o.slots,e⟩) (fun b o hc e n=>?_) (fun b o _ e=>⟨o,e⟩) (fun b xs e=>?_) (fun b o u e=>?_) (fun b ps e=>⟨#[],?_⟩) (fun _ hm=>hm) (fun b u e=>?_) I.bare
 · rw[z5g.mp hb];exact⟨h1,hL,h2,h3⟩
 · rw[qd (fun z=>hc (by simp[z]))];exact n
 · rw[qd (qy e hn)];exact e
 · rw[qd (qy e hn)];exact e
 · rw[qd (qy e hn),e];simp
 · by_cases hb:b=p
   · subst hb;rw[qo]at e;cases e;exact⟨hz,its,n,r,ho⟩
   · rw[qd hb]at e;exact(I.hok b u e).stay (fun _ _ _ q=>q) (fun c q=>by rw[qd (qy q hn)];exact q) fun c xs q=>by rw[qd (qy q hn)];exact q
theorem zik{P:Program}{w:World}{H:Hp}{h h':Heap}{c:Addr}(hok:HOk P w H h)(hs:Heap.SameBut c h h')(hn:H c=none):HOk P w H h':=fun b ob e=>by
 refine(hok b ob e).stay (fun d o hd q=>(hs.2 d ?_).trans q) (fun _ q=>q) fun _ _ q=>q;rintro rfl;rcases hd with rfl | hd
 · rw[hn]at e;cases e
 · rw[hn]at hd;cases hd
end
def IB(i:Int):Prop:=i.natAbs<2^4096
instance (i:Int):Decidable (IB i):=inferInstanceAs (Decidable (_<_))
def qu:D->D->Option D
 | .int i,.int j=>some (.int (i+j))
 | .str x,.str y=>if x.length+y.length<=sizeLine then some (.str (x++y))else none
 | .lst a,.lst b=>if a.length+b.length<=sizeLine then some (.lst (a++b))else none
 | .tup a,.tup b=>if a.length+b.length<=sizeLine then some (.tup (a++b))else none
 |_,_=>none
def opI(g:Int->Int->Option Int):D->D->Option D
 | .int i,.int j=>(g i j).map D.int
 |_,_=>none
def zq7(g:Int->Int->Bool):D->D->Option D
 | .int i,.int j=>some (.bl (g i j))
 |_,_=>none
def z0y(i j:Int):Option Int:=if(-(2^64)<i/\i<2^64)\/(-(2^64)<j/\j<2^64)\/(IB i/\IB j)then some (i*j)else none
def z2x(i j:Int):Option Int:=if 0<j/\j<1073741824 then some (i/j)else none
def z2c(i j:Int):Option Int:=if 0<j then some (i%j)else none
def zs5(i j:Int):Option Int:=if 0<=j/\j<=1000000/\i.natAbs<2^64 then some (i^j.toNat)else none
def zah:D->D->Option D:=opI fun i j=>some (i-j)
def zap:D->D->Option D:=opI z0y
def zbp:D->D->Option D:=opI z2x
def jb:D->D->Option D:=opI z2c
def zdq:D->D->Option D:=opI zs5
def zgy:D->D->Option D:=zq7 fun i j=>decide (i<j)
def zex:D->D->Option D:=zq7 fun i j=>decide (i<=j)
def zh7:D->D->Option D:=zq7 fun i j=>decide (j<i)
def ztc:D->D->Option D:=zq7 fun i j=>decide (j<=i)
def zon:D->Bool
 | .non=>true
 |_=>false
def zdr:D->D->Option D
 |d,.non=>some (.bl (zon d))
 | .bl a,.bl b=>some (.bl (a==b))
 |_,_=>none
def kt:D->D->Option D
 |d,.non=>some (.bl (!zon d))
 | .bl a,.bl b=>some (.bl (a != b))
 |_,_=>none
def qf(S:Sto):D->D->Option D
 | .lst ds,.int i=>atI ds i
 | .tup ds,.int i=>atI ds i
 | .str z,.int i=>if z.length<=sizeLine then (atI z.cps.toList i).map fun c=>.str ⟨#[c]⟩else none
 | .obj a,.int i=>(match S[a]? with
   |some (.lst ds)=>atI ds i
   |_=>none)
 |_,_=>none
section
variable {X:Cx}{K:zFr}{mg:zMg}
theorem Rep.refI{ρ H i v}(h:Rep K mg ρ H (.int i) v):v=.int i:=h
theorem Rep.refS{ρ H i v}(h:Rep K mg ρ H (.str i) v):v=.str i:=h
theorem Rep.refT{ρ H ds v}(h:Rep K mg ρ H (.tup ds) v):∃p vs,v=.ref p/\TupAt K ρ H p vs/\RepL K mg ρ H ds vs:=by unfold Rep at h;exact h
theorem Rep.refL{ρ H ds v}(h:Rep K mg ρ H (.lst ds) v):∃p vs,v=.ref p/\LstAt K ρ H p vs/\RepL K mg ρ H ds vs:=by unfold Rep at h;exact h
def zxy(K:zFr):R2:=fun x y H Q=>∃l b xs zs,x=.ref l/\y=.ref b/\SqL K H l xs/\SqL K H b zs/\xs.length+zs.length<=sizeLine/\∀p,H p=none->Q (.ref p) (upd H p (.lst (xs++zs)))
theorem op_catL:OpR X (binaryOp .Add) (zxy X.K):=by
 intro pins s σ H x y v u Q I rx ry h;obtain⟨l,b,xs,zs,rfl,rfl,hH,hB,hz,q⟩:=h;cases rx;cases ry;obtain⟨its,r,pl,_⟩:=I.list hH;obtain⟨its2,r2,pl2,_⟩:=I.list hB;obtain⟨⟨cls,dd,data,sl⟩,ho,hc,n,hd⟩:=pl.isList;obtain⟨⟨cls2,dd2,data2,sl2⟩,ho2,hc2,n2,hd2⟩:=pl2.isList;simp only at hc hd hc2 hd2;subst hc hd hc2 hd2;have e:its.toArray++its2.toArray=(its++its2).toArray:=by simp
 have h1:=r.length;have h2:=r2.length;refine qap ⟨_,ho,rfl⟩ ⟨_,ho2,rfl⟩ noFill_list_add seq_list_add PySem.F.slot_list_add PySem.F.entry_list_add (PySem.F.args_list_add_2 _ _) (list_addW l b its.toArray its2.toArray n n2 dd dd2 sl sl2 (by simp only[z5f];omega)) ⟨ho,ho2,?_⟩;rw[e];exact⟨.ref _,_,I.lnew (t':=s.toks) (r.append r2) (by rw[z42];omega),rfl,q _ I.fresh⟩
def zs0(K:zFr):R2:=fun x y H Q=>∃a b ys,x=.ref a/\y=.ref b/\SqT K H a []/\SqT K H b ys/\Q (.ref b) H
theorem zq6:OpR X (binaryOp .Add) (zs0 X.K):=by
 intro pins s σ H x y v u Q I rx ry h;obtain⟨a,b,ys,rfl,rfl,ha,hb,q⟩:=h;cases rx;cases ry;obtain⟨its,r1,p1,_⟩:=I.tuple ha;obtain⟨its2,r2,p2,_⟩:=I.tuple hb;cases r1;obtain⟨⟨cls,dd,data,sl⟩,ho,hc,n,hd⟩:=id p1;obtain⟨⟨cls2,dd2,data2,sl2⟩,ho2,hc2,n2,hd2⟩:=id p2;simp only at hc hd hc2 hd2;subst hc hd hc2 hd2;exact qap ⟨_,ho,rfl⟩ ⟨_,ho2,rfl⟩ noFill_tuple_add seq_tuple_add z9f z9c (z87 _ _)
   (tuple_addW0 a b _ _ n n2 dd dd2 sl sl2 rfl) ⟨ho,ho2,⟨.ref b,H,I,rfl,q⟩⟩
theorem zus:zia K mg (fun x y H Q=>rI0 (fun i j=>.int (i+j)) x y H Q\/(∃i j,x=.str i/\y=.str j/\i.length+j.length<=sizeLine/\Q (.str (i++j)) H)\/zxy K x y H Q\/zxx K x y H Q\/zs0 K x y H Q) (fun _=>qu):=by
 intro ρ H S x y dx dy d Q hS rx ry e k;replace e:qu dx dy=some d:=e;unfold qu at e;split at e
 · rename_i i j;cases e;rw[rx.refI,ry.refI];exact .inl ⟨i,j,rfl,rfl,k _ H (Ext.refl _ _) hS rfl⟩
 · rename_i i j;split at e
   · rename_i hl;cases e;rw[rx.refS,ry.refS];exact .inr (.inl ⟨i,j,rfl,rfl,hl,k _ H (Ext.refl _ _) hS rfl⟩)
   · cases e
 · rename_i a b;split at e
   · rename_i hl;cases e;obtain⟨p,vs,rfl,t1,r1⟩:=rx.refL;obtain⟨q,us,rfl,t2,r2⟩:=ry.refL;refine .inr (.inr (.inl ⟨p,q,vs,us,rfl,rfl,t1.sq,t2.sq,by rw[<-r1.length,<-r2.length];exact hl,fun z hz=>?_⟩));exact k _ _ (jh hS _ hz) (hS.new _ hz) (Rep.lst (s:=hS) hz (r1.append r2))
   · cases e
 · rename_i a b;split at e
   · rename_i hl;cases e;obtain⟨p,vs,rfl,t1,r1⟩:=rx.refT;obtain⟨q,us,rfl,t2,r2⟩:=ry.refT;cases a with
     | nil=>
       have:=r1.length;cases vs with
       |nil=>exact .inr (.inr (.inr (.inr ⟨p,q,us,rfl,rfl,t1.sq,t2.sq,k _ H (Ext.refl _ _) hS ry⟩)))
       |cons _ _=>simp at this
     | cons a0 a=>
       refine .inr (.inr (.inr (.inl ⟨p,q,vs,us,rfl,rfl,t1.sq,t2.sq,?_,by rw[<-r1.length,<-r2.length];exact hl,fun z=>?_,fun z w hw=>?_⟩)))
       · intro z;have:=r1.length;subst z;simp at this
       · have:=r2.length;subst z;cases b with
         |nil=>rw[z50]at k;exact k _ H (Ext.refl _ _) hS rx
         |cons _ _=>simp at this
       · exact k _ _ (jh hS _ hw) (hS.new _ hw) (Rep.tup (s:=hS) hw (r1.append r2))
   · cases e
 · cases e
theorem q0{a b:Expr}{f g:E}{pos:Pos}(ha:FE X a f)(hb:FE X b g):FE X (.BinOp a .Add b pos) (e2 qu f g) :=
 zfi (op_add.or (op_add_str.or (op_catL.or (op_catT.or zq6)))) zus ha hb
theorem zqh{C:Int->Int->Prop}{gV:Int->Int->Int}{g:Int->Int->Option Int}(h:∀i j z,g i j=some z->C i j/\z=gV i j):zia K mg (rI C fun i j=>.int (gV i j)) (fun _=>opI g):=by
 intro ρ H S x y dx dy d Q hS rx ry e k;replace e:opI g dx dy=some d:=e;unfold opI at e;split at e
 · rename_i i j;obtain⟨z,e1,e⟩:=zaq e;cases e;obtain⟨hc,rfl⟩:=h i j z e1;rw[rx.refI,ry.refI];exact⟨i,j,rfl,rfl,hc,k _ H (Ext.refl _ _) hS rfl⟩
 · cases e
theorem zxf{gV:Int->Int->Int}:zia K mg (rI0 fun i j=>.int (gV i j)) (fun _=>opI fun i j=>some (gV i j)):=by
 intro ρ H S x y dx dy d Q hS rx ry e k;replace e:opI _ dx dy=some d:=e;unfold opI at e;split at e
 · rename_i i j;cases e;rw[rx.refI,ry.refI];exact⟨i,j,rfl,rfl,k _ H (Ext.refl _ _) hS rfl⟩
 · cases e
theorem zau{g:Int->Int->Bool}:zia K mg (rI0 fun i j=>.bl (g i j)) (fun _=>zq7 g):=by
 intro ρ H S x y dx dy d Q hS rx ry e k;replace e:zq7 g dx dy=some d:=e;unfold zq7 at e;split at e
 · rename_i i j;cases e;rw[rx.refI,ry.refI];exact⟨i,j,rfl,rfl,k _ H (Ext.refl _ _) hS rfl⟩
 · cases e
variable {a b:Expr}{f g:E}{pos:Pos}
theorem yk(ha:FE X a f)(hb:FE X b g):FE X (.BinOp a .Sub b pos) (e2 zah f g):=zfi zyo zxf ha hb
theorem zpy{i:Int}(h:IB i):Builtin.Int.intBits i<=2^20:=by
 unfold IB at h;unfold Builtin.Int.intBits;have:i.natAbs.log2<4096:=by
   by_cases h0:i.natAbs=0
   · rw[h0];decide
   · exact(Nat.log2_lt h0).mpr h
 split<;>omega
theorem zvd:OpR X (binaryOp .Mult) (rI (fun i j=>CMul i j\/(IB i/\IB j)) fun i j=>.int (i*j)) :=
 L2.opI fun i j _ _ _ _ _ hc q=>mul_int q (by
   rcases hc with hc | ⟨h1,h2⟩
   · exact hc.ok
   · exact IntMulOk.of_bits (zpy h1) (zpy h2))
theorem zct(ha:FE X a f)(hb:FE X b g):FE X (.BinOp a .Mult b pos) (e2 zap f g):=zfi zvd (zqh fun i j z e=>by
 unfold z0y at e;split at e
 · rename_i h;cases e;refine⟨?_,rfl⟩;rcases h with h | h | h
   · exact .inl (.inl h)
   · exact .inl (.inr h)
   · exact .inr h
 · cases e) ha hb
theorem zee(ha:FE X a f)(hb:FE X b g):FE X (.BinOp a .FloorDiv b pos) (e2 zbp f g):=zfi zve (zqh fun i j z e=>by
 unfold z2x at e;split at e
 · rename_i h;cases e;exact⟨h,rfl⟩
 · cases e) ha hb
theorem j7(ha:FE X a f)(hb:FE X b g):FE X (.BinOp a .Mod b pos) (e2 jb f g):=zfi zyr (zqh fun i j z e=>by
 unfold z2c at e;split at e
 · rename_i h;cases e;exact⟨h,rfl⟩
 · cases e) ha hb
theorem zkv(ha:FE X a f)(hb:FE X b g):FE X (.BinOp a .Pow b pos) (e2 zdq f g):=zfi zyp (zqh fun i j z e=>by
 unfold zs5 at e;split at e
 · rename_i h;cases e;exact⟨h,rfl⟩
 · cases e) ha hb
theorem zz5(ha:FE X a f)(hb:FE X b g)(hm:behindInMarks .Lt b=false:=by exact zam _):FE X (.Compare a [.Lt] [b] pos) (e2 zgy f g):=zky zq5 zau ha hb hm
theorem z2s(ha:FE X a f)(hb:FE X b g)(hm:behindInMarks .LtE b=false:=by exact zam _):FE X (.Compare a [.LtE] [b] pos) (e2 zex f g):=zky zlw zau ha hb hm
theorem zrs(ha:FE X a f)(hb:FE X b g)(hm:behindInMarks .Lt b=false:=by exact zam _):FB X (.Compare a [.Lt] [b] pos) (bE (e2 zgy f g)):=zcw zq5 zau ha hb hm
theorem z0a(ha:FE X a f)(hb:FE X b g)(hm:behindInMarks .LtE b=false:=by exact zam _):FB X (.Compare a [.LtE] [b] pos) (bE (e2 zex f g)):=zcw zlw zau ha hb hm
theorem zi7(ha:FE X a f)(hb:FE X b g)(hm:behindInMarks .Gt b=false:=by exact zam _):FB X (.Compare a [.Gt] [b] pos) (bE (e2 zh7 f g)):=zcw z19 zau ha hb hm
theorem z0b(ha:FE X a f)(hb:FE X b g)(hm:behindInMarks .GtE b=false:=by exact zam _):FB X (.Compare a [.GtE] [b] pos) (bE (e2 ztc f g)):=zcw z2a zau ha hb hm
theorem zkr{ρ H d v}(h:Rep K mg ρ H d v):zon d=decide (v=.non):=by
 cases d with
 |non=>rw[show v=.non from h];rfl
 |bl b=>rw[show v=.bl b from h];rfl
 |int b=>rw[show v=.int b from h];rfl
 |str b=>rw[show v=.str b from h];rfl
 |fn x=>unfold Rep at h;obtain⟨p,rfl,_⟩:=h;rfl
 |ty b=>rw[show v=.ty b from h];rfl
 |tup x=>obtain⟨p,_,rfl,_⟩:=h.refT;rfl
 |lst x=>obtain⟨p,_,rfl,_⟩:=h.refL;rfl
 |obj x=>unfold Rep at h;obtain⟨p,rfl,_⟩:=h;rfl
 |lam x=>unfold Rep at h;obtain⟨p,rfl,_⟩:=h;rfl
 |clo x y=>unfold Rep at h;obtain⟨p,_,rfl,_⟩:=h;rfl
theorem zyt:OpR X (compareOp .Is) (fun x y H Q=>∃i j,x=.bl i/\y=.bl j/\Q (.bl (i==j)) H):=by intro pins s σ H x y v u Q I rx ry h;obtain⟨i,j,rfl,rfl,q⟩:=h;cases rx;cases ry;exact is_bool ⟨.bl _,H,I,rfl,q⟩
theorem zn3:OpR X (compareOp .IsNot) (fun x y H Q=>∃i j,x=.bl i/\y=.bl j/\Q (.bl (i != j)) H):=by intro pins s σ H x y v u Q I rx ry h;obtain⟨i,j,rfl,rfl,q⟩:=h;cases rx;cases ry;exact isnot_bool ⟨.bl _,H,I,rfl,q⟩
theorem zxe:zia K mg (fun x y H Q=>(y=.non/\Q (.bl (decide (x=.non))) H)\/(∃i j,x=.bl i/\y=.bl j/\Q (.bl (i==j)) H)) (fun _=>zdr):=by
 intro ρ H S x y dx dy d Q hS rx ry e k;replace e:zdr dx dy=some d:=e;unfold zdr at e;split at e
 · cases e;rw[zkr rx]at k;exact .inl ⟨ry,k _ H (Ext.refl _ _) hS rfl⟩
 · rename_i i j _;cases e;exact .inr ⟨_,_,rx,ry,k _ H (Ext.refl _ _) hS rfl⟩
 · cases e
theorem znb:zia K mg (fun x y H Q=>(y=.non/\Q (.bl (!decide (x=.non))) H)\/(∃i j,x=.bl i/\y=.bl j/\Q (.bl (i != j)) H)) (fun _=>kt):=by
 intro ρ H S x y dx dy d Q hS rx ry e k;replace e:kt dx dy=some d:=e;unfold kt at e;split at e
 · cases e;rw[zkr rx]at k;exact .inl ⟨ry,k _ H (Ext.refl _ _) hS rfl⟩
 · rename_i i j _;cases e;exact .inr ⟨_,_,rx,ry,k _ H (Ext.refl _ _) hS rfl⟩
 · cases e
theorem zcn(ha:FE X a f)(hb:FE X b g)(hm:behindInMarks .Is b=false:=by exact zam _):FB X (.Compare a [.Is] [b] pos) (bE (e2 zdr f g)):=zcw (op_isN.or zyt) zxe ha hb hm
theorem zde(ha:FE X a f)(hb:FE X b g)(hm:behindInMarks .IsNot b=false:=by exact zam _):FB X (.Compare a [.IsNot] [b] pos) (bE (e2 kt f g)):=zcw (op_notN.or zn3) znb ha hb hm
theorem zjo{ρ H ds vs i d}(r:RepL K mg ρ H ds vs)(h:atI ds i=some d):∃v,atI vs i=some v/\Rep K mg ρ H d v:=by unfold atI at h ⊢;rw[<-r.length];obtain⟨j,h1,h2⟩:=zy h;rw[h1];exact r.get h2
theorem zxd:zia K mg (rIx K) qf:=by
 intro ρ H S x y dx dy d Q hS rx ry e k;unfold qf at e;split at e
 · rename_i ds i;obtain⟨p,vs,rfl,t,r⟩:=rx.refL;obtain⟨v,h1,h2⟩:=zjo r e;exact .inl ⟨p,vs,i,v,rfl,ry.refI,t.sq,h1,k _ H (Ext.refl _ _) hS h2⟩
 · rename_i ds i;obtain⟨p,vs,rfl,t,r⟩:=rx.refT;obtain⟨v,h1,h2⟩:=zjo r e;exact .inr (.inl ⟨p,vs,i,v,rfl,ry.refI,t.sq,h1,k _ H (Ext.refl _ _) hS h2⟩)
 · rename_i z i;split at e
   · rename_i hz;obtain⟨c,h1,e⟩:=zaq e;cases e;exact .inr (.inr ⟨z,i,c,rx.refS,ry.refI,hz,h1,k _ H (Ext.refl _ _) hS rfl⟩)
   · cases e
 · rename_i o i;split at e
   · rename_i ds hd;unfold Rep at rx;obtain⟨p,rfl,hp⟩:=rx;obtain⟨vs,h1,r⟩:=hS.ob o _ p hd hp;obtain⟨v,h3,h2⟩:=zjo r e;exact .inl ⟨p,vs,i,v,rfl,ry.refI,SqL.of h1,h3,k _ H (Ext.refl _ _) hS h2⟩
   · cases e
 · cases e
theorem zu(ha:FE X a f)(hb:FE X b g)(hs:zp6 b:=by exact fun _ _=>rfl):FE X (.Subscript a b pos) (e2s qf f g):=jf (z15 zzo ha hb hs) fun _ _ _ h=>t2 zxd h
end
def eqL(f:D->D->Option Bool):List D->List D->Option Bool
 |x::xs,y::ys=>(f x y).bind fun c=>(eqL f xs ys).map fun r=>c&&r
 | [],[]=>some true
 |_,_=>some false
def zeb:D->Option V
 | .non=>some .non
 | .bl b=>some (.bl b)
 | .int i=>some (.int i)
 | .str x=>some (.str x)
 |_=>none
def eqF(a b:D):Option Bool:=match zeb a,zeb b with
 |some x,some y=>some (eqV x y)
 |_,_=>none
def zhj:D->Bool
 | .tup _=>true
 | .lst _=>true
 |_=>false
def eqN:Nat->D->D->Option Bool
 |0,a,b=>eqF a b
 | n+1,a,b=>match a,b with
   | .tup xs,.tup ys=>eqL (eqN n) xs ys
   | .lst xs,.lst ys=>if xs.length=ys.length then eqL (eqN n) xs ys else some false
   | .tup _,.lst _=>some false
   | .lst _,.tup _=>some false
   | a,b=>if zhj a=true then (if(zeb b).isSome=true then some false else none)
     else if zhj b=true then (if(zeb a).isSome=true then some false else none)
     else eqF a b
theorem zdg{a b:D}{k:Bool}(h:eqF a b=some k):∃x y,zeb a=some x/\zeb b=some y/\k=eqV x y:=by
 unfold eqF at h;split at h
 · rename_i x y e1 e2;exact⟨x,y,e1,e2,(z58 h).symm⟩
 · cases h
section
variable {X:Cx}{pins:zAO}{σ:L2.St}{H:Hp}{s:Shared}{ρ:List Addr}{mg:zMg}
theorem xb{K}{d:D}{x v:V}(e:zeb d=some x)(r:Rep K mg ρ H d v):v=x/\zi5 x=true:=by
 cases d with
 |non=>cases e;exact⟨r,rfl⟩
 |bl b=>cases e;exact⟨r,rfl⟩
 |int i=>cases e;exact⟨r,rfl⟩
 |str i=>cases e;exact⟨r,rfl⟩
 |_=>cases e
theorem zph{f:D->D->Option Bool}:∀{xs ys:List D}{k:Bool},eqL f xs ys=some k->xs.length≠ys.length->k=false
 | [],[],_,_,h=>absurd rfl h
 | [],_::_,_,h,_=>by cases h;rfl
 |_::_,[],_,h,_=>by cases h;rfl
 | x::xs,y::ys,k,h,n=>by obtain⟨c,_,h⟩:=zy h;obtain⟨r,h2,h⟩:=zaq h;have:=zph h2 (fun z=>n (by simp[z]));subst this h;simp
theorem ztq{f:D->D->Option Bool}:∀{xs ys:List D}{k:Bool},eqL f xs ys=some k->∀(j:Nat) (x y:D),xs[j]? = some x->ys[j]? = some y->∃c,f x y=some c
 | x::xs,y::ys,k,h,0,_,_,e1,e2=>by obtain⟨c,h1,h⟩:=zy h;simp at e1 e2;subst e1 e2;exact⟨c,h1⟩
 | x::xs,y::ys,k,h,j+1,_,_,e1,e2=>by obtain⟨c,h1,h⟩:=zy h;obtain⟨r,h2,h⟩:=zaq h;exact ztq h2 j _ _ (by simpa using e1) (by simpa using e2)
 | [],_,_,_,_,_,_,e1,_=>by simp at e1
 |_::_,[],_,_,_,_,_,_,e2=>by simp at e2
def zmt(f:D->D->Option Bool)(xs ys:List D)(j:Nat):Bool:=match xs[j]?,ys[j]? with
 |some x,some y=>(f x y).getD false
 |_,_=>false
theorem zi9{f:D->D->Option Bool}:∀{xs ys:List D}{k:Bool},eqL f xs ys=some k->xs.length=ys.length->k=(List.range xs.length).all (zmt f xs ys)
 | [],[],_,h,_=>by cases h;rfl
 | x::xs,y::ys,k,h,e=>by
   obtain⟨c,h1,h⟩:=zy h;obtain⟨r,h2,h⟩:=zaq h;subst h;have ih:=zi9 h2 (by simpa using e);rw[List.length_cons,List.range_succ_eq_map,List.all_cons,List.all_map];have e0:zmt f (x::xs) (y::ys) 0=c:=by simp[zmt,h1]
   have e1:((zmt f (x::xs) (y::ys))∘Nat.succ)=zmt f xs ys:=by funext j;simp[zmt]
   rw[e0,e1,<-ih]
 | [],_::_,_,_,e=>by simp at e
 |_::_,[],_,_,e=>by simp at e
theorem zrv{f:D->D->Option Bool}{xs ys:List D}{k:Bool}(h:eqL f xs ys=some k):k=((List.range (min xs.length ys.length)).all (zmt f xs ys)&&xs.length==ys.length):=by
 by_cases e:xs.length=ys.length
 · rw[zi9 h e,e];simp
 · rw[zph h e];have:(xs.length==ys.length)=false:=by simpa using e
   rw[this];simp
theorem zwd:∀(n:Nat) {d1 d2:D}{v:V}{k:Bool},Inv X pins σ H s->eqN n d1 d2=some k->Rep X.K mg ρ H d1 v->Rep X.K mg ρ H d2 v->k=true:=by
 intro n
 induction n with
 | zero=>
   intro d1 d2 v k I h r1 r2;obtain⟨x,y,e1,e2,rfl⟩:=zdg h;obtain⟨rfl,f1⟩:=xb e1 r1;obtain⟨rfl,f2⟩:=xb e2 r2;cases v<;>first | (cases f1;done) | (simp[eqV];done)
 | succ n ih=>
   intro d1 d2 v k I h r1 r2;have lst:∀{xs ys:List D}{vs:List V}{k:Bool},eqL (eqN n) xs ys=some k->RepL X.K mg ρ H xs vs->RepL X.K mg ρ H ys vs->k=true:=by
     intro xs
     induction xs with
     | nil=>
       intro ys vs k h q1 q2;have l1:=q1.length;have l2:=q2.length;cases ys with
       |nil=>cases h;rfl
       |cons _ _=>rw[<-l1]at l2;simp at l2
     | cons x xs ihx=>
       intro ys vs k h q1 q2;cases ys with
       | nil=>
         have l1:=q1.length;have l2:=q2.length;rw[<-l2]at l1;simp at l1
       | cons y ys=>
         obtain⟨c,h1,h⟩:=zy h;obtain⟨r,h2,h⟩:=zaq h;unfold RepL at q1 q2;obtain⟨v1,r1,rfl,a1,b1⟩:=q1;obtain⟨v2,r2,e,a2,b2⟩:=q2;cases e;rw[<-h,ih I h1 a1 a2,ihx h2 b1 b2];rfl
   unfold eqN at h;split at h
   · rename_i xs ys;obtain⟨p,vs,rfl,t1,q1⟩:=r1.refT;obtain⟨p',vs',e,t2,q2⟩:=r2.refT;cases e;have:=I.tuple_inj t1.sq t2.sq;subst this;exact lst h q1 q2
   · rename_i xs ys;obtain⟨p,vs,rfl,t1,q1⟩:=r1.refL;obtain⟨p',vs',e,t2,q2⟩:=r2.refL;cases e;have:=I.list_inj t1.sq t2.sq;subst this;rw[z5s (by rw[q1.length,q2.length])]at h;exact lst h q1 q2
   · rename_i xs ys;obtain⟨p,vs,rfl,t1,q1⟩:=r1.refT;obtain⟨p',vs',e,t2,q2⟩:=r2.refL;cases e;obtain⟨_,_,⟨o,e1,c1,_⟩,_⟩:=I.tuple t1.sq;obtain⟨_,_,⟨o',_,e2,c2,_⟩,_⟩:=I.list t2.sq;rw[e1]at e2;cases e2;rw[c1]at c2;exact absurd (Value.type.inj c2) (by decide)
   · rename_i xs ys;obtain⟨p,vs,rfl,t1,q1⟩:=r1.refL;obtain⟨p',vs',e,t2,q2⟩:=r2.refT;cases e;obtain⟨_,_,⟨o,e1,c1,_⟩,_⟩:=I.tuple t2.sq;obtain⟨_,_,⟨o',_,e2,c2,_⟩,_⟩:=I.list t1.sq;rw[e1]at e2;cases e2;rw[c1]at c2;exact absurd (Value.type.inj c2) (by decide)
   · split at h
     · rename_i hs;split at h
       · rename_i hb;obtain⟨y,ey⟩:=z7m.mp hb;obtain⟨rfl,f2⟩:=xb ey r2;cases d1 with
         |tup _=>obtain⟨p,_,rfl,_⟩:=r1.refT;cases f2
         |lst _=>obtain⟨p,_,rfl,_⟩:=r1.refL;cases f2
         |_=>cases hs
       · cases h
     · split at h
       · rename_i hs;split at h
         · rename_i hb;obtain⟨y,ey⟩:=z7m.mp hb;obtain⟨rfl,f2⟩:=xb ey r1;cases d2 with
           |tup _=>obtain⟨p,_,rfl,_⟩:=r2.refT;cases f2
           |lst _=>obtain⟨p,_,rfl,_⟩:=r2.refL;cases f2
           |_=>cases hs
         · cases h
       · obtain⟨x,y,e1,e2,rfl⟩:=zdg h;obtain⟨rfl,f1⟩:=xb e1 r1;obtain⟨rfl,f2⟩:=xb e2 r2;cases v<;>first | (cases f1;done) | (simp[eqV];done)
theorem znn{A:Around}{x y:V}{u w:Value}(ru:RelV x u)(rw':RelV y w)(fx:zi5 x=true)(fy:zi5 y=true):SeqAt.RcAt A s u w (eqV x y):=by
 cases x with
 | non=>
   cases ru;cases y with
   |non=>cases rw';exact SeqAt.RcAt.none_none
   |bl b=>cases rw';exact SeqAt.RcAt.none_bool b
   |int b=>obtain⟨t,rfl⟩:=rw';exact SeqAt.RcAt.none_int b t
   |str b=>obtain⟨t,rfl⟩:=rw';exact SeqAt.RcAt.none_str b t
   |_=>cases fy
 | bl a=>
   cases ru;cases y with
   |non=>cases rw';exact SeqAt.RcAt.bool_none a
   |bl b=>cases rw';exact SeqAt.RcAt.bool_bool a b
   |int b=>obtain⟨t,rfl⟩:=rw';exact SeqAt.RcAt.bool_int a b t
   |str b=>obtain⟨t,rfl⟩:=rw';exact SeqAt.RcAt.bool_str a b t
   |_=>cases fy
 | int a=>
   obtain⟨t',rfl⟩:=ru;cases y with
   |non=>cases rw';exact SeqAt.RcAt.int_none a t'
   |bl b=>cases rw';exact SeqAt.RcAt.int_bool a t' b
   |int b=>obtain⟨t,rfl⟩:=rw';exact SeqAt.RcAt.int_int a t' b t
   |str b=>obtain⟨t,rfl⟩:=rw';exact SeqAt.RcAt.int_str a t' b t
   |_=>cases fy
 | str a=>
   obtain⟨t',rfl⟩:=ru;cases y with
   |non=>cases rw';exact SeqAt.RcAt.str_none a t'
   |bl b=>cases rw';exact SeqAt.RcAt.str_bool a t' b
   |int b=>obtain⟨t,rfl⟩:=rw';exact SeqAt.RcAt.str_int a t' b t
   |str b=>obtain⟨t,rfl⟩:=rw';exact SeqAt.RcAt.str_str a t' b t
   |_=>cases fy
 |_=>cases fx
theorem zg9{A:Around}{x y:V}{u w:Value}(ru:RelV x u)(rw':RelV y w)(fx:zi5 x=true)(fy:zi5 y=true):SeqAt.RcNeAt A s u w (!eqV x y):=by
 cases x with
 | non=>
   cases ru;cases y with
   |non=>cases rw';exact SeqAt.RcNeAt.none_none
   |bl b=>cases rw';exact SeqAt.RcNeAt.none_bool b
   |int b=>obtain⟨t,rfl⟩:=rw';exact SeqAt.RcNeAt.none_int b t
   |str b=>obtain⟨t,rfl⟩:=rw';exact SeqAt.RcNeAt.none_str b t
   |_=>cases fy
 | bl a=>
   cases ru;cases y with
   |non=>cases rw';exact SeqAt.RcNeAt.bool_none a
   |bl b=>cases rw';exact SeqAt.RcNeAt.bool_bool a b
   |int b=>obtain⟨t,rfl⟩:=rw';exact SeqAt.RcNeAt.bool_int a b t
   |str b=>obtain⟨t,rfl⟩:=rw';exact SeqAt.RcNeAt.bool_str a b t
   |_=>cases fy
 | int a=>
   obtain⟨t',rfl⟩:=ru;cases y with
   |non=>cases rw';exact SeqAt.RcNeAt.int_none a t'
   |bl b=>cases rw';exact SeqAt.RcNeAt.int_bool a t' b
   |int b=>obtain⟨t,rfl⟩:=rw';exact SeqAt.RcNeAt.int_int a t' b t
   |str b=>obtain⟨t,rfl⟩:=rw';exact SeqAt.RcNeAt.int_str a t' b t
   |_=>cases fy
 | str a=>
   obtain⟨t',rfl⟩:=ru;cases y with
   |non=>cases rw';exact SeqAt.RcNeAt.str_none a t'
   |bl b=>cases rw';exact SeqAt.RcNeAt.str_bool a t' b
   |int b=>obtain⟨t,rfl⟩:=rw';exact SeqAt.RcNeAt.str_int a t' b t
   |str b=>obtain⟨t,rfl⟩:=rw';exact SeqAt.RcNeAt.str_str a t' b t
   |_=>cases fy
 |_=>cases fx
theorem zkp{A:Around}{n:Nat}{xs ys:List D}{vs us:List V}{its its2:List Value}(hq:∀{d1 d2:D}{v w:V}{a b:Value}{k:Bool},eqN n d1 d2=some k->Rep X.K mg ρ H d1 v->Rep X.K mg ρ H d2 w->RelV v a->RelV w b->SeqAt.EqAt A s a b k){k:Bool}(h:eqL (eqN n) xs ys=some k)
   (r1:RepL X.K mg ρ H xs vs) (r2:RepL X.K mg ρ H ys us) (q1:Vals vs its) (q2:Vals us its2) :
   ∀j (h1:j<its.toArray.size) (h2:j<its2.toArray.size),SeqAt.EqAt A s its.toArray[j] its2.toArray[j] (zmt (eqN n) xs ys j):=by
 intro j h1 h2;have l1:=r1.length;have l2:=r2.length;have l3:=q1.length;have l4:=q2.length;rw[z5f]at h1 h2;have e1:xs[j]? = some xs[j]:=z49 (by omega);have e2:ys[j]? = some ys[j]:=z49 (by omega);obtain⟨v,ev,rv⟩:=r1.get e1;obtain⟨w,ew,rw'⟩:=r2.get e2;obtain⟨a,ea,ra⟩:=q1.get ev;obtain⟨b,eb,rb⟩:=q2.get ew;obtain⟨c,hc⟩:=ztq h j _ _ e1 e2;have z1:its.toArray[j]=a:=by rw[z49 h1]at ea;simpa using ea
 have z2:its2.toArray[j]=b:=by rw[z49 h2]at eb;simpa using eb
 have z3:zmt (eqN n) xs ys j=c:=by simp[zmt,e1,e2,hc]
 rw[z1,z2,z3];exact hq hc rv rw' ra rb
theorem z0d:∀(n:Nat) {A:Around}{d1 d2:D}{v w:V}{a b:Value}{k:Bool},Inv X pins σ H s->A.units+n<cLine->eqN n d1 d2=some k->Rep X.K mg ρ H d1 v->Rep X.K mg ρ H d2 w->RelV v a->RelV w b ->
   SeqAt.RcAt A s a b k/\SeqAt.RcNeAt A s a b (!k)/\SeqAt.EqAt A s a b k:=by
 intro n
 induction n with
 | zero=>
   intro A d1 d2 v w a b k I hu h r1 r2 ra rb;obtain⟨x,y,e1,e2,rfl⟩:=zdg h;obtain⟨rfl,f1⟩:=xb e1 r1;obtain⟨rfl,f2⟩:=xb e2 r2;exact⟨znn ra rb f1 f2,zg9 ra rb f1 f2,ztr ra rb f1 f2⟩
 | succ n ih=>
   intro A d1 d2 v w a b k I hu h r1 r2 ra rb;have hs:∀{u:V},Rep X.K mg ρ H d1 u->Rep X.K mg ρ H d2 u->k=true:=fun a b=>zwd (n+1) I h a b;have hin:A.in1.units+n<cLine:=by show A.units+1+n<cLine;omega
   have hu0:A.units<cLine:=by omega
   have same:∀{p q:Addr},v=.ref p->w=.ref q->SeqAt.RcAt A s (.ref p) (.ref q) k->SeqAt.EqAt A s a b k:=by
     intro p q e1 e2 rc;subst e1 e2;cases ra;cases rb;by_cases hpq:p=q
     · subst hpq;rw[hs r1 r2];exact SeqAt.EqAt.same _
     · exact SeqAt.EqAt.of_refs hpq rc
   unfold eqN at h;split at h
   · rename_i xs ys;obtain⟨p,vs,rfl,t1,q1⟩:=r1.refT;obtain⟨p',us,rfl,t2,q2⟩:=r2.refT;cases ra;cases rb;obtain⟨its,z1,pt1,_⟩:=I.tuple t1.sq;obtain⟨its2,z2,pt2,_⟩:=I.tuple t2.sq;have hit:=zkp (A:=A.in1) (s:=s) (fun e a1 a2 a3 a4=>(ih I hin e a1 a2 a3 a4).2.2) h q1 q2 z1 z2;have l1:=q1.length;have l2:=q2.length;have l3:=z1.length;have l4:=z2.length;have ek:k=((List.range (min its.toArray.size its2.toArray.size)).all (zmt (eqN n) xs ys)&&its.toArray.size==its2.toArray.size):=by rw[z5f,z5f,<-l3,<-l4,<-l1,<-l2];exact zrv h
     have rc:=SeqAt.RcAt.tuples (A:=A) (s:=s) pt1 pt2 hu0 hit;have rn:=SeqAt.RcNeAt.tuples (A:=A) (s:=s) pt1 pt2 hu0 hit;rw[<-ek]at rc;refine⟨rc,?_,same rfl rfl rc⟩;rw[ek];exact rn
   · rename_i xs ys;obtain⟨p,vs,rfl,t1,q1⟩:=r1.refL;obtain⟨p',us,rfl,t2,q2⟩:=r2.refL;cases ra;cases rb;obtain⟨its,z1,pt1,_⟩:=I.list t1.sq;obtain⟨its2,z2,pt2,_⟩:=I.list t2.sq;have l1:=q1.length;have l2:=q2.length;have l3:=z1.length;have l4:=z2.length;split at h
     · rename_i hl;have hit:=zkp (A:=A.in1) (s:=s) (fun e a1 a2 a3 a4=>(ih I hin e a1 a2 a3 a4).2.2) h q1 q2 z1 z2;have hsz:its.toArray.size=its2.toArray.size:=by rw[z5f,z5f];omega
       have ek:k=(List.range its.toArray.size).all (zmt (eqN n) xs ys):=by rw[z5f,<-l3,<-l1];exact zi9 h hl
       have rc:=SeqAt.RcAt.lists (A:=A) (s:=s) pt1.isList pt2.isList hsz hu0 hit;have rn:=SeqAt.RcNeAt.lists (A:=A) (s:=s) pt1.isList pt2.isList hsz hu0 hit;rw[<-ek]at rc;refine⟨rc,?_,same rfl rfl rc⟩;rw[ek];exact rn
     · rename_i hl;cases h;have hsz:(its.toArray.size != its2.toArray.size)=true:=by rw[z5f,z5f];simp;omega
       have rc:=SeqAt.RcAt.lists_lengths (A:=A) (s:=s) pt1.isList pt2.isList hsz hu0;have rn:=SeqAt.RcNeAt.lists_lengths (A:=A) (s:=s) pt1.isList pt2.isList hsz hu0;exact⟨rc,rn,same rfl rfl rc⟩
   · rename_i xs ys;cases h;obtain⟨p,vs,rfl,t1,q1⟩:=r1.refT;obtain⟨p',us,rfl,t2,q2⟩:=r2.refL;cases ra;cases rb;obtain⟨its,z1,pt1,_⟩:=I.tuple t1.sq;obtain⟨its2,z2,pt2,_⟩:=I.list t2.sq;exact⟨SeqAt.RcAt.tuple_list pt1 pt2.isList hu0,SeqAt.RcNeAt.tuple_list pt1 pt2.isList hu0,SeqAt.EqAt.tuple_list pt1 pt2.isList hu0⟩
   · rename_i xs ys;cases h;obtain⟨p,vs,rfl,t1,q1⟩:=r1.refL;obtain⟨p',us,rfl,t2,q2⟩:=r2.refT;cases ra;cases rb;obtain⟨its,z1,pt1,_⟩:=I.list t1.sq;obtain⟨its2,z2,pt2,_⟩:=I.tuple t2.sq;exact⟨SeqAt.RcAt.list_tuple pt1.isList pt2 hu0,SeqAt.RcNeAt.list_tuple pt1.isList pt2 hu0,SeqAt.EqAt.list_tuple pt1.isList pt2 hu0⟩
   · split at h
     · rename_i hsq;split at h
       · rename_i hb;cases h;obtain⟨y,ey⟩:=z7m.mp hb;obtain⟨rfl,f2⟩:=xb ey r2;cases d1 with
         | tup _=>
           obtain⟨p,vs,rfl,t1,q1⟩:=r1.refT;cases ra;obtain⟨its,z1,pt,_⟩:=I.tuple t1.sq;cases w with
           |non=>cases rb;exact⟨SeqAt.RcAt.tuple_none pt hu0,SeqAt.RcNeAt.tuple_none pt hu0,SeqAt.EqAt.tuple_none pt hu0⟩
           |bl c=>cases rb;exact⟨SeqAt.RcAt.tuple_bool c pt hu0,SeqAt.RcNeAt.tuple_bool c pt hu0,SeqAt.EqAt.tuple_bool c pt hu0⟩
           |int c=>obtain⟨t,rfl⟩:=rb;exact⟨SeqAt.RcAt.tuple_int c t pt hu0,SeqAt.RcNeAt.tuple_int c t pt hu0,SeqAt.EqAt.tuple_int c t pt hu0⟩
           |str c=>obtain⟨t,rfl⟩:=rb;exact⟨SeqAt.RcAt.tuple_str c t pt hu0,SeqAt.RcNeAt.tuple_str c t pt hu0,SeqAt.EqAt.tuple_str c t pt hu0⟩
           |_=>cases f2
         | lst _=>
           obtain⟨p,vs,rfl,t1,q1⟩:=r1.refL;cases ra;obtain⟨its,z1,pl,_⟩:=I.list t1.sq;have pt:=pl.isList;cases w with
           |non=>cases rb;exact⟨SeqAt.RcAt.list_none pt hu0,SeqAt.RcNeAt.list_none pt hu0,SeqAt.EqAt.list_none pt hu0⟩
           |bl c=>cases rb;exact⟨SeqAt.RcAt.list_bool c pt hu0,SeqAt.RcNeAt.list_bool c pt hu0,SeqAt.EqAt.list_bool c pt hu0⟩
           |int c=>obtain⟨t,rfl⟩:=rb;exact⟨SeqAt.RcAt.list_int c t pt hu0,SeqAt.RcNeAt.list_int c t pt hu0,SeqAt.EqAt.list_int c t pt hu0⟩
           |str c=>obtain⟨t,rfl⟩:=rb;exact⟨SeqAt.RcAt.list_str c t pt hu0,SeqAt.RcNeAt.list_str c t pt hu0,SeqAt.EqAt.list_str c t pt hu0⟩
           |_=>cases f2
         |_=>cases hsq
       · cases h
     · split at h
       · rename_i hsq;split at h
         · rename_i hb;cases h;obtain⟨y,ey⟩:=z7m.mp hb;obtain⟨rfl,f2⟩:=xb ey r1;cases d2 with
           | tup _=>
             obtain⟨p,vs,rfl,t1,q1⟩:=r2.refT;cases rb;obtain⟨its,z1,pt,_⟩:=I.tuple t1.sq;cases v with
             |non=>cases ra;exact⟨SeqAt.RcAt.none_tuple pt hu0,SeqAt.RcNeAt.none_tuple pt hu0,SeqAt.EqAt.none_tuple pt hu0⟩
             |bl c=>cases ra;exact⟨SeqAt.RcAt.bool_tuple c pt hu0,SeqAt.RcNeAt.bool_tuple c pt hu0,SeqAt.EqAt.bool_tuple c pt hu0⟩
             |int c=>obtain⟨t,rfl⟩:=ra;exact⟨SeqAt.RcAt.int_tuple c t pt hu0,SeqAt.RcNeAt.int_tuple c t pt hu0,SeqAt.EqAt.int_tuple c t pt hu0⟩
             |str c=>obtain⟨t,rfl⟩:=ra;exact⟨SeqAt.RcAt.str_tuple c t pt hu0,SeqAt.RcNeAt.str_tuple c t pt hu0,SeqAt.EqAt.str_tuple c t pt hu0⟩
             |_=>cases f2
           | lst _=>
             obtain⟨p,vs,rfl,t1,q1⟩:=r2.refL;cases rb;obtain⟨its,z1,pl,_⟩:=I.list t1.sq;have pt:=pl.isList;cases v with
             |non=>cases ra;exact⟨SeqAt.RcAt.none_list pt hu0,SeqAt.RcNeAt.none_list pt hu0,SeqAt.EqAt.none_list pt hu0⟩
             |bl c=>cases ra;exact⟨SeqAt.RcAt.bool_list c pt hu0,SeqAt.RcNeAt.bool_list c pt hu0,SeqAt.EqAt.bool_list c pt hu0⟩
             |int c=>obtain⟨t,rfl⟩:=ra;exact⟨SeqAt.RcAt.int_list c t pt hu0,SeqAt.RcNeAt.int_list c t pt hu0,SeqAt.EqAt.int_list c t pt hu0⟩
             |str c=>obtain⟨t,rfl⟩:=ra;exact⟨SeqAt.RcAt.str_list c t pt hu0,SeqAt.RcNeAt.str_list c t pt hu0,SeqAt.EqAt.str_list c t pt hu0⟩
             |_=>cases f2
           |_=>cases hsq
         · cases h
       · obtain⟨x,y,e1,e2,rfl⟩:=zdg h;obtain⟨rfl,f1⟩:=xb e1 r1;obtain⟨rfl,f2⟩:=xb e2 r2;exact⟨znn ra rb f1 f2,zg9 ra rb f1 f2,ztr ra rb f1 f2⟩
end
def kh(a b:D):Option D:=(eqN 150 a b).map D.bl
def zew(a b:D):Option D:=(eqN 150 a b).map fun k=>D.bl !k
section
variable {X:Cx}{a b:Expr}{f g:E}{pos:Pos}
def z0w(K:zFr)(mg:zMg)(neg:Bool):R2:=fun x y H Q=>∃(ρ:List Addr) (d1 d2:D) (k:Bool),Rep K mg ρ H d1 x/\Rep K mg ρ H d2 y/\eqN 150 d1 d2=some k/\Q (.bl (if neg then !k else k)) H
theorem ztb(hu:X.A.units+150<cLine):OpR X (compareOp .Eq) (z0w X.K X.mg false):=by intro pins s σ H x y v u Q I rx ry h;obtain⟨ρ,d1,d2,k,h1,h2,h3,q⟩:=h;exact(z0d 150 I hu h3 h1 h2 rx ry).1 _ _ _ _ ⟨.bl k,H,I,rfl,q⟩
theorem zyq(hu:X.A.units+150<cLine):OpR X (compareOp .NotEq) (z0w X.K X.mg true):=by intro pins s σ H x y v u Q I rx ry h;obtain⟨ρ,d1,d2,k,h1,h2,h3,q⟩:=h;exact(z0d 150 I hu h3 h1 h2 rx ry).2.1 _ _ _ _ ⟨.bl (!k),H,I,rfl,q⟩
theorem znc{K mg}:zia K mg (z0w K mg false) (fun _=>kh):=by intro ρ H S x y dx dy d Q hS rx ry e k;obtain⟨c,e1,e⟩:=zaq e;subst e;exact⟨ρ,dx,dy,c,rx,ry,e1,k _ H (Ext.refl _ _) hS rfl⟩
theorem zum{K mg}:zia K mg (z0w K mg true) (fun _=>zew):=by intro ρ H S x y dx dy d Q hS rx ry e k;obtain⟨c,e1,e⟩:=zaq e;subst e;exact⟨ρ,dx,dy,c,rx,ry,e1,k _ H (Ext.refl _ _) hS rfl⟩
theorem zl8{k:Nat}(hr:Room k X.A)(ha:FE X a f)(hb:FE X b g)(hm:behindInMarks .Eq b=false:=by exact zam _):FE X (.Compare a [.Eq] [b] pos) (e2 kh f g):=zky (ztb (by have:=hr.un;omega)) znc ha hb hm
theorem zab{k:Nat}(hr:Room k X.A)(ha:FE X a f)(hb:FE X b g)(hm:behindInMarks .Eq b=false:=by exact zam _):FB X (.Compare a [.Eq] [b] pos) (bE (e2 kh f g)):=zcw (ztb (by have:=hr.un;omega)) znc ha hb hm
theorem zhp{k:Nat}(hr:Room k X.A)(ha:FE X a f)(hb:FE X b g)(hm:behindInMarks .NotEq b=false:=by exact zam _):FB X (.Compare a [.NotEq] [b] pos) (bE (e2 zew f g)):=zcw (zyq (by have:=hr.un;omega)) zum ha hb hm
end
def zfb(S:Sto):List D->Option D
 | [.lst ds]=>some (.int ds.length)
 | [.tup ds]=>some (.int ds.length)
 | [.str z]=>if z.length<=sizeLine then some (.int z.length)else none
 | [.obj a]=>(match S[a]? with
   |some (.lst ds)=>some (.int ds.length)
   |_=>none)
 |_=>none
def zwy(_:Sto):List D->Option D
 | [.int i]=>some (.int (if i<0 then -i else i))
 |_=>none
def zy3(_:Sto):List D->Option D
 | [.int i,.int j]=>some (.int (if j>i then j else i))
 |_=>none
inductive Ty where
 |non | bl | int | str | tup | lst
 deriving DecidableEq
def Ty.name:Ty->String
 | .non=>"NoneType" | .bl=>"bool" | .int=>"int" | .str=>"str" | .tup=>"tuple" | .lst=>"list"
def tyD(S:Sto):D->Option Ty
 | .non=>some .non
 | .bl _=>some .bl
 | .int _=>some .int
 | .str _=>some .str
 | .tup _=>some .tup
 | .lst _=>some .lst
 | .obj a=>(match S[a]? with
   |some (.lst _)=>some .lst
   |_=>none)
 |_=>none
def isT(t c:Ty):Bool:=decide (t=c)||(decide (t=.bl)&&decide (c=.int))
def tyOf?:String->Option Ty
 | "bool"=>some .bl | "int"=>some .int | "str"=>some .str | "tuple"=>some .tup | "list"=>some .lst | _=>none
def zvt(S:Sto):List D->Option D
 | [d,.ty n]=>(tyOf? n).bind fun c=>(tyD S d).map fun t=>.bl (isT t c)
 |_=>none
section
variable {X:Cx}{K:zFr}{mg:zMg}
theorem one{ρ H d xs}(r:RepL K mg ρ H [d] xs):∃v,xs=[v]/\Rep K mg ρ H d v:=by unfold RepL at r;obtain⟨v,t,rfl,h1,h2⟩:=r;unfold RepL at h2;subst h2;exact⟨v,rfl,h1⟩
theorem two{ρ H d e xs}(r:RepL K mg ρ H [d,e] xs):∃v w,xs=[v,w]/\Rep K mg ρ H d v/\Rep K mg ρ H e w:=by unfold RepL at r;obtain⟨v,t,rfl,h1,h2⟩:=r;obtain⟨w,rfl,h3⟩:=one h2;exact⟨v,w,rfl,h1,h3⟩
theorem zup:zwq K mg (fun xs H Q=>(∃p ys,xs=[.ref p]/\(SqL K H p ys\/SqT K H p ys)/\Q (.int ys.length) H)\/(∃z,xs=[.str z]/\z.length<=sizeLine/\Q (.int z.length) H)) zfb:=by
 intro ρ H S xs ds d Q hS r e k;unfold zfb at e;split at e
 · cases e;replace r:=one r;obtain⟨v,rfl,r⟩:=r;obtain⟨p,vs,rfl,t,r⟩:=r.refL;exact .inl ⟨p,vs,rfl,.inl t.sq,by rw[<-r.length];exact k _ H (Ext.refl _ _) hS rfl⟩
 · cases e;replace r:=one r;obtain⟨v,rfl,r⟩:=r;obtain⟨p,vs,rfl,t,r⟩:=r.refT;exact .inl ⟨p,vs,rfl,.inr t.sq,by rw[<-r.length];exact k _ H (Ext.refl _ _) hS rfl⟩
 · split at e
   · rename_i hz;cases e;replace r:=one r;obtain⟨v,rfl,r⟩:=r;rw[r.refS];exact .inr ⟨_,rfl,hz,k _ H (Ext.refl _ _) hS rfl⟩
   · cases e
 · split at e
   · rename_i ds hd;cases e;replace r:=one r;obtain⟨v,rfl,r⟩:=r;unfold Rep at r;obtain⟨p,rfl,hp⟩:=r;obtain⟨vs,h1,r⟩:=hS.ob _ _ p hd hp;exact .inl ⟨p,vs,rfl,.inl (SqL.of h1),by rw[<-r.length];exact k _ H (Ext.refl _ _) hS rfl⟩
   · cases e
 · cases e
variable {e:Expr}{es:List Expr}{p pos:Pos}{g:As}
theorem za4(hm:X.mg "len"=none)(ha:FA X [e] g)(hg:Gl X "len":=by rfl)(he:starEach [e] X.env=(false,eval e X.env)::starEach [] X.env:=by exact z9 rfl)(hpl:(backTo pos (starEach [] X.env)).any (·.1)=false:=by exact qx rfl):FE X (.Call (.Name "len" p) [e] [] pos) (eA zfb g) :=
 zho (call_len_seq.or zhx) zup hm PySem.boot_len ha hg (by decide) (by decide) he hpl
theorem zut:zwq K mg (fun xs H Q=>∃i,xs=[.int i]/\Q (.int (if i<0 then -i else i)) H) zwy:=by
 intro ρ H S xs ds d Q hS r e k;unfold zwy at e;split at e
 · cases e;replace r:=one r;obtain⟨v,rfl,r⟩:=r;rw[r.refI];exact⟨_,rfl,k _ H (Ext.refl _ _) hS rfl⟩
 · cases e
theorem ztm(hm:X.mg "abs"=none)(ha:FA X [e] g)(hg:Gl X "abs":=by rfl)(he:starEach [e] X.env=(false,eval e X.env)::starEach [] X.env:=by exact z9 rfl)(hpl:(backTo pos (starEach [] X.env)).any (·.1)=false:=by exact qx rfl):FE X (.Call (.Name "abs" p) [e] [] pos) (eA zwy g) :=
 zho zr5 zut hm (by with_unfolding_all rfl) ha hg (by decide) (by decide) he hpl
theorem zun:zwq K mg (fun xs H Q=>∃i j,xs=[.int i,.int j]/\Q (.int (if j>i then j else i)) H) zy3:=by
 intro ρ H S xs ds d Q hS r e k;unfold zy3 at e;split at e
 · cases e;replace r:=two r;obtain⟨v,w,rfl,r1,r2⟩:=r;rw[r1.refI,r2.refI];exact⟨_,_,rfl,k _ H (Ext.refl _ _) hS rfl⟩
 · cases e
theorem zz3(hm:X.mg "max"=none)(ha:FA X (e::es) g)(hc:X.calm=true:=by rfl)(hg:Gl X "max":=by rfl)(he:starEach (e::es) X.env=(false,eval e X.env)::starEach es X.env:=by exact z9 rfl)(hpl:(backTo pos (starEach es X.env)).any (·.1)=false:=by exact qx rfl):FE X (.Call (.Name "max" p) (e::es) [] pos) (eA zy3 g) :=
 zho (zps hc) zun hm (by with_unfolding_all rfl) ha hg (by decide) (by decide) he hpl
theorem zhn{x:Str}(n:String)(hm:X.mg x=none)(hv:bootBuiltins x=some (.type n))(hg:Gl X x:=by rfl)(hn:x≠"__name__":=by decide)(hd:(x==("__debug__":Str))=false:=by decide):FE X (.Name x pos) (eK (.ty n)) :=
 zal (zvc (v:=.ty n) hg hm hv rfl hn hd) fun _ _=>rfl
theorem zoj:∀(t c:Ty),c≠.non->PySem.W.kitOne K (.type t.name) (.type c.name)=some (isT t c):=by intro t c hc;cases t<;>cases c<;>first | exact absurd rfl hc | rfl | (with_unfolding_all rfl)
theorem zm1{n:String}{c:Ty}(h:tyOf? n=some c):n=c.name/\c≠.non:=by unfold tyOf? at h;split at h<;>first | (cases h;exact⟨rfl,by decide⟩) | cases h
def z3i(K:zFr):List V->Hp->VK->Prop:=fun xs H Q=>∃(x:V) (t c:Ty),xs=[x,.ty c.name]/\c≠.non /\
 (TyOf K H x (.type t.name)\/(t=.tup/\∃p ys,x=.ref p/\SqT K H p ys)\/(t=.lst/\∃p ys,x=.ref p/\SqL K H p ys))/\Q (.bl (isT t c)) H
theorem zr3:CallR X (.builtin "isinstance") (z3i X.K):=by
 intro pins s σ H xs us Q I r h;obtain⟨x,t,c,rfl,hc,ht,q⟩:=h;obtain⟨u1,u2,rfl,r1,r2⟩:∃u1 u2,us=[u1,u2]/\RelV x u1/\RelV (.ty c.name) u2:=by
   cases r with
   | cons p q=>
     cases q with
     |cons p' q'=>cases q';exact⟨_,_,rfl,p,p'⟩
 cases r2;rcases ht with ht | ⟨rfl,p,ys,rfl,hp⟩ | ⟨rfl,p,ys,rfl,hp⟩
 · exact zom I r1 ht (zoj t c hc) fun tk=>⟨.bl _,H,I.tok tk,rfl,q⟩
 · cases r1;obtain⟨its,_,⟨o,h1,h2,_⟩,_⟩:=I.tuple hp;exact z6p PySem.W.kitx_tuple I.kIn ⟨o,h1,h2⟩ (zoj .tup c hc) (fun z=>nomatch z) fun tk=>⟨.bl _,H,I.tok tk,rfl,q⟩
 · cases r1;obtain⟨its,_,⟨o,n,h1,h2,_,_⟩,_⟩:=I.list hp;exact z6p qai I.kIn ⟨o,h1,h2⟩ (zoj .lst c hc) (fun z=>nomatch z) fun tk=>⟨.bl _,H,I.tok tk,rfl,q⟩
theorem zuq:zwq K mg (z3i K) zvt:=by
 intro ρ H S xs ds d Q hS r e k;unfold zvt at e;split at e
 · rename_i d' n;obtain⟨c,hc,e⟩:=zy e;obtain⟨t,ht,e⟩:=zaq e;subst e;obtain⟨rfl,hn⟩:=zm1 hc;replace r:=two r;obtain⟨v,w,rfl,r1,r2⟩:=r;have r2:w=.ty _:=r2;subst r2;refine⟨v,t,c,rfl,hn,?_,k _ H (Ext.refl _ _) hS rfl⟩;unfold tyD at ht;split at ht
   · cases ht;rw[show v=.non from r1];exact .inl .non
   · cases ht;rw[show v=.bl _ from r1];exact .inl (.bl _)
   · cases ht;rw[show v=.int _ from r1];exact .inl (.int _)
   · cases ht;rw[show v=.str _ from r1];exact .inl (.str _)
   · cases ht;obtain⟨p,vs,rfl,tt,_⟩:=r1.refT;exact .inr (.inl ⟨rfl,p,vs,rfl,tt.sq⟩)
   · cases ht;obtain⟨p,vs,rfl,tt,_⟩:=r1.refL;exact .inr (.inr ⟨rfl,p,vs,rfl,tt.sq⟩)
   · split at ht
     · rename_i ds hd;cases ht;unfold Rep at r1;obtain⟨p,rfl,hp⟩:=r1;obtain⟨vs,h1,_⟩:=hS.ob _ _ p hd hp;exact .inr (.inr ⟨rfl,p,vs,rfl,SqL.of h1⟩)
     · cases ht
   · cases ht
 · cases e
theorem zkx(hm:X.mg "isinstance"=none)(ha:FA X (e::es) g)(hg:Gl X "isinstance":=by rfl)(he:starEach (e::es) X.env=(false,eval e X.env)::starEach es X.env:=by exact z9 rfl)(hpl:(backTo pos (starEach es X.env)).any (·.1)=false:=by exact qx rfl):FE X (.Call (.Name "isinstance" p) (e::es) [] pos) (eA zvt g) :=
 zho zr3 zuq hm (by with_unfolding_all rfl) ha hg (by decide) (by decide) he hpl
def z0i(xs:List D)(lo hi:Option Int):List D:=(xs.drop (HT.sIx xs.length 0 lo)).take (HT.sIx xs.length xs.length hi-HT.sIx xs.length 0 lo)
def zyv:D->Option Int->Option Int->Option D
 | .lst ds,lo,hi=>some (.lst (z0i ds lo hi))
 | .tup ds,lo,hi=>if HT.sIx ds.length 0 lo=0/\HT.sIx ds.length ds.length hi=ds.length then none else some (.tup (z0i ds lo hi))
 |_,_,_=>none
abbrev Pt:=Ev->Sto->Option (Option Int×Sto)
def pN:Pt:=fun _ S=>some (none,S)
def pE(f:E):Pt:=fun ev S=>(f ev S).bind fun p=>match p.1 with
 | .int i=>some (some i,p.2)
 |_=>none
def eSl(f:E)(a b:Pt):E:=fun ev S=>(f ev S).bind fun p=>(a ev p.2).bind fun q=>(b ev q.2).bind fun r=>(zyv p.1 q.1 r.1).map fun d=>(d,r.2)
def tPt(K:zFr)(mg:zMg)(f:Pt):TO:=fun σ H Q=>∃ρ ev S o S',EnvR K mg ρ H ev σ/\StOk K mg ρ H S/\f ev S=some (o,S')/\∀ρ' H',Ext ρ H ρ' H'->StOk K mg ρ' H' S'->Q o H'
def FPt(X:Cx)(e:Option Expr)(f:Pt):Prop:=PO X e (tPt X.K X.mg f)
theorem znx{e:Option Expr}{t t':TO}(h:PO X e t)(m:∀σ H Q,t' σ H Q->t σ H Q):PO X e t':=fun pins s σ H Q I q=>h pins s σ H Q I (m _ _ _ q)
theorem zgg:FPt X none pN:=znx zu6 fun σ H Q h=>by obtain⟨ρ,ev,S,o,S',hE,hS,hf,k⟩:=h;cases hf;exact k ρ H (Ext.refl _ _) hS
theorem zcm{f:E}(h:FE X e f):FPt X (some e) (pE f):=znx (zu5 h) fun σ H Q h=>by
 obtain⟨ρ,ev,S,o,S',hE,hS,hf,k⟩:=h;obtain⟨⟨x,S1⟩,q1,hf⟩:=zy hf;cases x with
 | int i=>
   cases hf;exact⟨ρ,ev,S,_,_,hE,hS,q1,fun v ρ1 H1 E1 hS1 r1=>⟨i,r1,k ρ1 H1 E1 hS1⟩⟩
 |_=>cases hf
theorem zpn{ρ H ds vs}(r:RepL K mg ρ H ds vs)(lo hi:Option Int):RepL K mg ρ H (z0i ds lo hi) (zty vs lo hi):=by unfold z0i zty;rw[r.length];exact(r.drop _).take _
theorem zdc{a:Expr}{lo hi:Option Expr}{f:E}{u w:Pt}{p2:Pos}(ha:FE X a f)(hl:FPt X lo u)(hh:FPt X hi w):FE X (.Subscript a (.Slice lo hi none p2) pos) (eSl f u w) :=
 jf (zkc (sl_list.or zxg) ha hl hh) fun σ H Q h=>by
   obtain⟨ρ,ev,S,d,S',hE,hS,hf,k⟩:=h;obtain⟨⟨x,S1⟩,q1,hf⟩:=zy hf;obtain⟨⟨lo,S2⟩,q2,hf⟩:=zy hf;obtain⟨⟨hi,S3⟩,q3,hf⟩:=zy hf;obtain⟨z,q4,hf⟩:=zaq hf;cases hf;refine⟨ρ,ev,S,x,S1,hE,hS,q1,fun v ρ1 H1 E1 hS1 r1=>⟨ρ1,ev,S1,lo,S2,hE.mono E1,hS1,q2,fun ρ2 H2 E2 hS2=>⟨ρ2,ev,S2,hi,_,(hE.mono E1).mono E2,hS2,q3,fun ρ3 H3 E3 hS3=>?_⟩⟩⟩;have r3:=(r1.mono E2).mono E3;have E:=(E1.trans E2).trans E3;cases x with
   | lst ds=>
     cases q4;obtain⟨p,vs,rfl,t,r⟩:=r3.refL;exact .inl ⟨p,vs,rfl,t.sq,fun b hb=>k _ _ _ (E.trans (jh hS3 _ hb)) (hS3.new _ hb) (Rep.lst (s:=hS3) hb (zpn r lo hi))⟩
   | tup ds=>
     replace q4:(if HT.sIx ds.length 0 lo=0/\HT.sIx ds.length ds.length hi=ds.length then none else some (D.tup (z0i ds lo hi)))=some d:=q4;split at q4
     · cases q4
     · rename_i hn;cases q4;obtain⟨p,vs,rfl,t,r⟩:=r3.refT;exact .inr ⟨p,vs,rfl,t.sq,by rw[<-r.length];exact hn,fun b hb=>k _ _ _ (E.trans (jh hS3 _ hb)) (hS3.new _ hb) (Rep.tup (s:=hS3) hb (zpn r lo hi))⟩
   |_=>cases q4
theorem zea{o:Expr}{f h:E}{apos spos:Pos}(ho:FE X o f)(hv:FE X e h)
   (hbase:attributeBase o "append" X.env (eval o X.env)=eval o X.env:=by rfl)
   (hfew:((backTo pos (starEach [e] X.env)).all (fun x=>!x.1)&&(backToKw pos (keywordEach [] X.env)).all (fun x=>x.1.isSome)
     && decide ([e].length+([]:List Keyword).length+(if([]:List Keyword).isEmpty then 0 else 1)<30))=true:=by rfl)
   (hline:(apos.endLine==pos.line)=true:=by rfl) (hs:starEach [e] X.env=(false,eval e X.env)::starEach [] X.env:=by exact z9 rfl) (hplain:(backTo pos (starEach [] X.env)).any (·.1)=false:=by exact qx rfl)
   (hsw:swapsWith (.Call (.Attribute o "append" apos) [e] [] pos) none spos.line X.env=pure false:=by rfl) :
   FS X (.Expr (.Call (.Attribute o "append" apos) [e] [] pos) spos) (zav f h) :=
 kr (znv (z16 PySem.F.plainAttrs_list PySem.F.slot_list_append PySem.F.type_list_append zoa ho (zb hv ze hs) hbase hfew hline hs hplain) hsw) fun σ H D h=>by
   obtain⟨ρ,ev,S,o,S',hE,hS,hf,k⟩:=h;obtain⟨⟨x,S1⟩,q1,hf⟩:=zy hf;cases x with
   | obj a=>
     dsimp only at hf;split at hf
     · rename_i ds0 hd0;obtain⟨⟨y,S2⟩,q2,hf⟩:=zy hf;dsimp only at hf;split at hf
       · rename_i ds hd;split at hf
         · rename_i hl;cases hf;refine⟨ρ,ev,S,_,S1,hE,hS,q1,fun v ρ1 H1 E1 hS1 r1=>?_⟩;have r1':=r1;unfold Rep at r1';obtain⟨p,rfl,hp⟩:=r1';obtain⟨us0,hu0,_⟩:=hS1.ob a _ p hd0 hp;refine⟨.inl ⟨rfl,_,SqL.of hu0⟩,ρ1,ev,S1,[y],S2,hE.mono E1,hS1,by simp only[aC,aN,q2,Option.bind_some],fun vs ρ2 H2 E2 hS2 r2=>?_⟩;obtain⟨w,rfl,r3⟩:=one r2;have hp2:=E2.pre _ _ hp;obtain⟨us,h2,h3⟩:=hS2.ob a _ p hd hp2;have e0:=zi8 hS2 (.lst (us++[w])) hp2;refine⟨p,us,w,rfl,rfl,h2,by rw[<-h3.length];exact hl,?_⟩;refine k σ ρ2 _ ((E1.trans E2).trans e0) (hS2.set hp2 ⟨_,qo,?_⟩) (((hE.mono E1).mono E2).mono e0);exact(h3.append (RepL.cons r3 RepL.nil)).mono e0
         · cases hf
       · cases hf
     · cases hf
   |_=>cases hf
theorem zeo:bootBuiltins "list"=some (.type "list"):=by with_unfolding_all rfl
theorem boot_tuple:bootBuiltins "tuple"=some (.type "tuple"):=by with_unfolding_all rfl
theorem boot_int:bootBuiltins "int"=some (.type "int"):=by with_unfolding_all rfl
theorem boot_bool:bootBuiltins "bool"=some (.type "bool"):=by with_unfolding_all rfl
end
theorem zbd(i:Nat){X:Cx}{x:Str}{px:Pos}{es:List Expr}{is:List Nat}{t:TGs}(hN:X.N.Nodup)(h:Names X es is t)(hi:X.N[i]? = some x:=by rfl)(hx:Loc X.env.scope x:=by first | exact Or.inl rfl | exact Or.inr rfl)
   (hf:X.fn x=true\/X.env.scope.names.lookup x=some .local:=by first | exact .inl rfl | exact .inr rfl | assumption)
   (hs:(assignEach (.Name x px::es) X.env).map (·.2)=assign (.Name x px) X.env::(assignEach es X.env).map (·.2):=by rfl):Names X (.Name x px::es) (i::is) (zri (zhm i) t) :=
 .cons hN hi hx hf h (zq2 (zis hN hi hx hf) h.pgs hs)
def z27(K:zFr)(dV:Value):Nat->Prop
 |0=>dV=.none
 |n+1=>∃(T:Addr) (o:Obj) (m:Nat),dV=.ref T/\K.lookup T=some o/\o.data=.seq (Array.replicate (n+1) Value.none) m
structure HasDef (K:zFr) (mg:zMg) (x:Str) (st:Stmt) (nd:Nat):Prop where
 ex:∃(f:Addr) (fd:FuncData) (dV:Value),FunD K x x st f fd dV/\mg x=some (.ref f)/\z27 K dV nd
structure HasMth (K:zFr) (mg:zMg) (c m qual:Str) (st:Stmt):Prop where
 ex:∃(C f:Addr) (fd:FuncData),FunD K m qual st f fd .none/\mg c=some (.ref C)/\Cls K C/\Meth K C m f
structure HasMk (K:zFr) (mg:zMg) (c qual:Str) (st:Stmt) (nd:Nat):Prop where
 ex:∃(C f:Addr) (fd:FuncData) (dV:Value),FunD K "__init__" qual st f fd dV/\mg c=some (.ref C)/\Mk K C f/\z27 K dV nd
def zws(x qual:Str)(st:Stmt)(ps:List Str):Prop:=∀(kV doc pm:Value) (an:Option Addr) (cdv ct:Value) (us:List Value),us.length=ps.length ->
 bindArgs (PySem.W.fnOf x qual (za5 st) (jo st) (zk st) .none kV doc pm an cdv ct) ⟨us,[]⟩=pure (ps.zip us)
def z1h(x qual:Str)(st:Stmt)(ps:List Str)(n:Nat):Prop:=∀(T:Addr) (kV doc pm:Value) (an:Option Addr) (cdv ct:Value) (us:List Value),us.length=n ->
 ∃kk,bindArgs (PySem.W.fnOf x qual (za5 st) (jo st) (zk st) (.ref T) kV doc pm an cdv ct) ⟨us,[]⟩=(seqItems? (.ref T) >>= kk)/\kk (some #[Value.none])=pure (ps.zip (us++List.replicate (ps.length-n) Value.none))
section
variable {P:Program}{w:World}{K:zFr}{mg:zMg}{base:Heap}{x qual c m:Str}{st:Stmt}{N ps:List Str}{k:Nat}{b:C}{dV:Value}{f:Addr}{fd:FuncData}
abbrev z1g(P:Program)(w:World)(K:zFr)(mg:zMg)(base:Heap)(N:List Str)(qual:Str)(st:Stmt)(k:Nat)(b:C):Prop :=
 ∀(f:Addr) (cdv:Value) (A:Around) (outer:List Env) (s:Shared) (H:Hp) (E:XK),Room k (A.deeper (envOfC qual (zk st) s.heap.objs.size f cdv)) ->
     FSs (zcd CX0 P w K mg base N qual (zk st) f cdv A outer s H E).nox (jo st) b
theorem FunD.binds0(F:FunD K x qual st f fd .none)(h:zws x qual st ps):Binds K fd ps []:=by obtain⟨oc,od,kV,doc,pm,an,cdv,ct,osl,rfl,lk,hcd⟩:=F.ex;exact .all (h kV doc pm an cdv ct)
theorem FunD.binds1(F:FunD K x qual st f fd dV)(hd:z27 K dV 1){n:Nat}(h:z1h x qual st ps n)(hn:n<=ps.length):Binds K fd ps (List.replicate (ps.length-n) Value.none):=by obtain⟨oc,od,kV,doc,pm,an,cdv,ct,osl,rfl,lk,hcd⟩:=F.ex;obtain⟨T,o,mm,rfl,hT,ho⟩:=hd;intro s us hK hl;obtain⟨kk,h1,h2⟩:=h T kV doc pm an cdv ct us (by rw[z42,List.length_replicate]at hl;omega);exact BindsTo.of_defaults rfl (hK T o hT) ho h1 h2
theorem zo0:FnOk P w K mg base CX0 k f fd ps (spG K mg fun _ _=>none):=by
 have no:∀vs H Q E,¬ spG K mg (fun _ _=>none) vs H Q E:=fun vs H Q E h=>by obtain⟨_,_,_,_,_,_,_,h,_⟩:=h;cases h
 exact⟨fun vs H Q E h=>absurd h (no vs H Q E),fun A outer s H args us vs Q E _ _ _ _ h=>absurd h (no vs H Q E)⟩
theorem HasDef.cal(h:HasDef K mg x st 0)(S:FnScope N ps (zk st))(hb:zws x x st ps)(hbody:z1g P w K mg base N x st k b):Cal P w K mg base (k+1) x (qa N.length ps.length b):=by obtain⟨f,fd,dV,F,hm,rfl⟩:=h.ex;exact⟨f,fd,ps,[],[],[],_,F.ok S fun cdv A outer s H E hr=>hbody f cdv A outer s H E hr,hm,F.kp,F.binds0 hb,.nil,fun _ _=>RepL.nil,fun args S r e=>by rw[z50];exact e⟩
theorem HasDef.none0(h:HasDef K mg x st 0)(hb:zws x x st ps):Cal P w K mg base k x (fun _ _=>none):=by obtain⟨f,fd,dV,F,hm,rfl⟩:=h.ex;exact⟨f,fd,ps,[],[],[],_,zo0,hm,F.kp,F.binds0 hb,.nil,fun _ _=>RepL.nil,fun args S r e=>by cases e⟩
theorem HasDef.cal1(h:HasDef K mg x st 1)(S:FnScope N ps (zk st))(hb:z1h x x st ps ps.length)(hbody:z1g P w K mg base N x st k b):Cal P w K mg base (k+1) x (qa N.length ps.length b):=by obtain⟨f,fd,dV,F,hm,hd⟩:=h.ex;have B:=F.binds1 hd hb (z44 _);rw[z88]at B;exact⟨f,fd,ps,[],[],[],_,F.ok S fun cdv A outer s H E hr=>hbody f cdv A outer s H E hr,hm,F.kp,B,.nil,fun _ _=>RepL.nil,fun args S r e=>by rw[z50];exact e⟩
theorem HasDef.none1(h:HasDef K mg x st 1)(hb:z1h x x st ps ps.length):Cal P w K mg base k x (fun _ _=>none):=by obtain⟨f,fd,dV,F,hm,hd⟩:=h.ex;have B:=F.binds1 hd hb (z44 _);rw[z88]at B;exact⟨f,fd,ps,[],[],[],_,zo0,hm,F.kp,B,.nil,fun _ _=>RepL.nil,fun args S r e=>by cases e⟩
theorem HasMth.mth(h:HasMth K mg c m qual st)(S:FnScope N ps (zk st))(hb:zws m qual st ps)(hbody:z1g P w K mg base N qual st k b):Mth P w K mg base (k+1) c m (qa N.length ps.length b):=by obtain⟨C,f,fd,F,hm,hc,hme⟩:=h.ex;exact⟨C,f,fd,ps,[],[],[],_,F.ok S fun cdv A outer s H E hr=>hbody f cdv A outer s H E hr,hm,hc,hme,F.binds0 hb,.nil,fun _ _=>RepL.nil,fun args S r e=>by rw[z50];exact e⟩
theorem HasMk.mk1(h:HasMk K mg c qual st 1)(S:FnScope N ps (zk st))(hb:z1h "__init__" qual st ps ps.length)(hbody:z1g P w K mg base N qual st k b):Mak P w K mg base (k+1) c (qa N.length ps.length b):=by obtain⟨C,f,fd,dV,F,hm,hme,hd⟩:=h.ex;have B:=F.binds1 hd hb (z44 _);rw[z88]at B;exact⟨C,f,fd,ps,[],[],[],_,F.ok S fun cdv A outer s H E hr=>hbody f cdv A outer s H E hr,hm,hme,B,.nil,fun _ _=>RepL.nil,fun args S r e=>by rw[z50];exact e⟩
end
section
variable {K:zFr}{h:Heap}{mg:zMg} (X:K.In h) (G:h.Ns mainGlobals mg)
include X G
theorem has_def{x:Str}{st:Stmt}{f:Addr}{oc:Value}{od an:Option Addr}{osl:Array (Option Value)}{kV doc pm cdv ct:Value}(a:PySem.W.nsIn K mainGlobals x=some (some (.ref f)))
   (l:K.lookup f=some ⟨oc,od,.func (PySem.W.fnOf x x (za5 st) (jo st) (zk st) .none kV doc pm an cdv ct),osl⟩) (c:PySem.W.codeIn K cdv x=true) (k:PySem.W.keepIn K (.ref f)=true):HasDef K mg x st 0 :=
 ⟨f,_,.none,⟨⟨oc,od,kV,doc,pm,an,cdv,ct,osl,rfl,l,c⟩,k⟩,z8u X G a,rfl⟩
theorem has_def1{x:Str}{st:Stmt}{f T:Addr}{oc tc:Value}{od an td:Option Addr}{osl tsl:Array (Option Value)}{kV doc pm cdv ct:Value}{m:Nat}(a:PySem.W.nsIn K mainGlobals x=some (some (.ref f)))
   (l:K.lookup f=some ⟨oc,od,.func (PySem.W.fnOf x x (za5 st) (jo st) (zk st) (.ref T) kV doc pm an cdv ct),osl⟩) (c:PySem.W.codeIn K cdv x=true) (k:PySem.W.keepIn K (.ref f)=true)
   (t:K.lookup T=some ⟨tc,td,.seq #[Value.none] m,tsl⟩):HasDef K mg x st 1 :=
 ⟨f,_,.ref T,⟨⟨oc,od,kV,doc,pm,an,cdv,ct,osl,rfl,l,c⟩,k⟩,z8u X G a,T,_,m,rfl,t,rfl⟩
theorem has_mth{cn m qual:Str}{st:Stmt}{C f:Addr}{oc:Value}{od an:Option Addr}{osl:Array (Option Value)}{kV doc pm cdv ct:Value}(aC:PySem.W.nsIn K mainGlobals cn=some (some (.ref C)))(hc:Cls K C)
   (a:PySem.W.findIn K (.ref C) m=some (some (.ref f))) (i:PySem.W.isFn K (.ref f)=true)
   (l:K.lookup f=some ⟨oc,od,.func (PySem.W.fnOf m qual (za5 st) (jo st) (zk st) .none kV doc pm an cdv ct),osl⟩) (c:PySem.W.codeIn K cdv qual=true) (k:PySem.W.keepIn K (.ref f)=true):HasMth K mg cn m qual st :=
 ⟨C,f,_,⟨⟨oc,od,kV,doc,pm,an,cdv,ct,osl,rfl,l,c⟩,k⟩,z8u X G aC,hc,⟨a,i,k⟩⟩
theorem has_mk1{cn qual:Str}{st:Stmt}{C f T:Addr}{oc tc:Value}{od an td:Option Addr}{osl tsl:Array (Option Value)}{kV doc pm cdv ct:Value}{m:Nat}(aC:PySem.W.nsIn K mainGlobals cn=some (some (.ref C)))
   (mk:PySem.W.makesIn K C=true) (kc:PySem.W.keepIn K (.ref C)=true) (a:PySem.W.findIn K (.ref C) "__init__"=some (some (.ref f))) (i:PySem.W.isFn K (.ref f)=true)
   (l:K.lookup f=some ⟨oc,od,.func (PySem.W.fnOf "__init__" qual (za5 st) (jo st) (zk st) (.ref T) kV doc pm an cdv ct),osl⟩) (c:PySem.W.codeIn K cdv qual=true) (k:PySem.W.keepIn K (.ref f)=true)
   (t:K.lookup T=some ⟨tc,td,.seq #[Value.none] m,tsl⟩):HasMk K mg cn qual st 1 :=
 ⟨C,f,_,.ref T,⟨⟨oc,od,kV,doc,pm,an,cdv,ct,osl,rfl,l,c⟩,k⟩,z8u X G aC,⟨mk,a,i,kc⟩,T,_,m,rfl,t,rfl⟩
theorem has_cls{cn:Str}{C:Addr}(aC:PySem.W.nsIn K mainGlobals cn=some (some (.ref C)))(pg:PySem.W.plainGet K C Str.empty=true)(hd:PySem.W.hasDictIn K C=true)(po:PySem.W.plainOver K C=true)(sa:PySem.W.findIn K (.ref C) "__setattr__"=some (some (.builtin "object.__setattr__"))):Cls K C:=⟨pg,hd,po,sa⟩
theorem has_fld{cn n:Str}{C:Addr}(aC:PySem.W.nsIn K mainGlobals cn=some (some (.ref C)))(hc:Cls K C)(a:PySem.W.findIn K (.ref C) n=some none):Fld K mg cn n:=fun C' e=>by rw[z8u X G aC]at e;cases e;exact⟨hc,a⟩
theorem has_int{x:Str}{n:Int}{t:Tok}(a:PySem.W.nsIn K mainGlobals x=some (some (.int n t))):∃t,mg x=some (.int n t):=⟨t,z8u X G a⟩
end
theorem zj5{K mg ρ H}:∀ns:List Int,RepL K mg ρ H (ns.map D.int) (ns.map V.int)
 | []=>RepL.nil
 |_::ns=>RepL.cons rfl (zj5 ns)
def zhr(op op':D->D->Option D)(f g h:E):E:=fun ev S=>(f ev S).bind fun p=>(g ev p.2).bind fun q=>(op p.1 q.1).bind fun z=>match z with
 | .bl true=>(h ev q.2).bind fun r=>(op' q.1 r.1).map fun d=>(d,r.2)
 | .bl false=>some (.bl false,q.2)
 |_=>none
theorem ls1{P:List Value->Prop}(h:∀a0,P [a0])(us:List Value)(hl:us.length=1):P us:=match us,hl with
 | [a0],_=>h a0
theorem ls2{P:List Value->Prop}(h:∀a0 a1,P [a0,a1])(us:List Value)(hl:us.length=2):P us:=match us,hl with
 | [a0,a1],_=>h a0 a1
theorem ls3{P:List Value->Prop}(h:∀a0 a1 a2,P [a0,a1,a2])(us:List Value)(hl:us.length=3):P us:=match us,hl with
 | [a0,a1,a2],_=>h a0 a1 a2
theorem ls4{P:List Value->Prop}(h:∀a0 a1 a2 a3,P [a0,a1,a2,a3])(us:List Value)(hl:us.length=4):P us:=match us,hl with
 | [a0,a1,a2,a3],_=>h a0 a1 a2 a3
theorem ls6{P:List Value->Prop}(h:∀a0 a1 a2 a3 a4 a5,P [a0,a1,a2,a3,a4,a5])(us:List Value)(hl:us.length=6):P us:=match us,hl with
 | [a0,a1,a2,a3,a4,a5],_=>h a0 a1 a2 a3 a4 a5
def zk3(g:As):E:=fun ev S=>(g ev S).bind fun q=>match q.1 with
 | [.tup ds]=>some (.lst ds,q.2)
 | [.lst ds]=>some (.lst ds,q.2)
 |_=>none
def zgj(op op' op2:D->D->Option D)(f g h i:E):E:=fun ev S=>(f ev S).bind fun p=>(g ev p.2).bind fun q=>(op p.1 q.1).bind fun z=>match z with
 | .bl true=>(h ev q.2).bind fun r=>(op' q.1 r.1).bind fun z=>(match z with
   | .bl true=>(i ev r.2).bind fun t=>(op2 r.1 t.1).map fun d=>(d,t.2)
   | .bl false=>some (.bl false,r.2)
   |_=>none)
 | .bl false=>some (.bl false,q.2)
 |_=>none
section
variable {X:Cx}{e:Expr}{es:List Expr}{f:E}{g:As}{p pos:Pos}
theorem zrp(hm:X.mg "list"=none)(ha:FA X (e::es) g)(hg:Gl X "list":=by rfl)(he:starEach (e::es) X.env=(false,eval e X.env)::starEach es X.env:=by exact z9 rfl)(hpl:(backTo pos (starEach es X.env)).any (·.1)=false:=by exact qx rfl):FE X (.Call (.Name "list" p) (e::es) [] pos) (zk3 g) :=
 jf (zha zcy hg hm zeo ha (by decide) (by decide) he hpl) fun σ H Q h=>by
   obtain⟨ρ,ev,S,d,S',hE,hS,hf,k⟩:=h;obtain⟨⟨x,S1⟩,q1,hf⟩:=zy hf;refine⟨ρ,ev,S,x,S1,hE,hS,q1,fun vs ρ1 H1 E1 hS1 r1=>?_⟩;have fin:∀{us:List V}{ds:List D},RepL X.K X.mg ρ1 H1 ds us->(d,S')=(D.lst ds,S1)->∀l,H1 l=none->Q (.ref l) (upd H1 l (.lst us)):=by intro us ds r e l hl;cases e;exact k _ ρ1 _ (E1.trans (jh hS1 _ hl)) (hS1.new _ hl) (Rep.lst (s:=hS1) hl r)
   dsimp only at hf;split at hf
   · obtain⟨v,rfl,r⟩:=one r1;obtain⟨b,us,rfl,t,r⟩:=r.refT;exact⟨b,us,rfl,.inr t.sq,fin r (z58 hf).symm⟩
   · obtain⟨v,rfl,r⟩:=one r1;obtain⟨b,us,rfl,t,r⟩:=r.refL;exact⟨b,us,rfl,.inl t.sq,fin r (z58 hf).symm⟩
   · cases hf
theorem zud{R R':R2}{op op':D->D->Option D}{f g h:E}{σ:L2.St}{H:Hp}{Q:VK}(hs:zia X.K X.mg R fun _=>op)(hs':zia X.K X.mg R' fun _=>op')(h0:tE X.K X.mg (zhr op op' f g h) σ H Q):zsq R R' (tE X.K X.mg f) (tE X.K X.mg g) (tE X.K X.mg h) σ H Q:=by
 obtain⟨ρ,ev,S,d,S',hE,hS,hf,k⟩:=h0;obtain⟨⟨x,S1⟩,q1,hf⟩:=zy hf;obtain⟨⟨y,S2⟩,q2,hf⟩:=zy hf;obtain⟨z,q3,hf⟩:=zy hf;refine⟨ρ,ev,S,x,S1,hE,hS,q1,fun v ρ1 H1 E1 hS1 r1=>⟨ρ1,ev,S1,y,S2,hE.mono E1,hS1,q2,fun u ρ2 H2 E2 hS2 r2=>?_⟩⟩;refine hs ρ2 H2 _ v u x y z _ hS2 (r1.mono E2) r2 q3 fun w H3 E3 hS3 r3=>?_;dsimp only at hf;split at hf
 · obtain⟨⟨t,S4⟩,q4,hf⟩:=zy hf;obtain⟨dd,q5,hf⟩:=zaq hf;cases hf;refine⟨true,r3,ρ2,ev,S2,t,S4,((hE.mono E1).mono E2).mono E3,hS3,q4,fun tv ρ4 H4 E4 hS4 r4=>?_⟩;exact hs' ρ4 H4 _ u tv y t _ _ hS4 ((r2.mono E3).mono E4) r4 q5 fun w' H5 E5 hS5 r5=>k w' ρ4 H5 ((((E1.trans E2).trans E3).trans E4).trans E5) hS5 r5
 · cases hf;exact⟨false,r3,k _ ρ2 H3 ((E1.trans E2).trans E3) hS3 rfl⟩
 · cases hf
theorem zv8{a b c:Expr}{f g h:E}{pos:Pos}(ha:FE X a f)(hb:FE X b g)(hc:FE X c h)(hm:lastMarks [.LtE,.Lt] [b,c]=false:=by with_unfolding_all rfl):FB X (.Compare a [.LtE,.Lt] [b,c] pos) (bE (zhr zex zgy f g h)) :=
 zdp (zqy zlw zq5 ha hb hc hm) fun _ _ _ h=>zua (fun _ h=>zud zau zau h) h
def zuf(r r' r2:R2)(ta tb tc td:TE):TE:=fun σ H Q=>ta σ H fun x H1=>tb σ H1 fun y H2=>r x y H2 fun z H3=>∃k,z=.bl k /\
 (if k=true then tc σ H3 fun w H4=>r' y w H4 fun z' H5=>∃k',z'=.bl k'/\(if k'=true then td σ H5 fun u H6=>r2 w u H6 Q else Q (.bl false) H5)else Q (.bl false) H3)
theorem znu{a b c d:Expr}{ta tb tc td:TE}{op op' op2:CmpOp}{r r' r3:R2}(ho:OpR X (compareOp op) r)(ho':OpR X (compareOp op') r')(ho2:OpR X (compareOp op2) r3)(ha:PE X a ta)(hb:PE X b tb)(hc:PE X c tc)(hd:PE X d td)
   (hm:lastMarks [op,op',op2] [b,c,d]=false:=by with_unfolding_all rfl):PT X (.Compare a [op,op',op2] [b,c,d] pos) (zqc (zuf r r' r3 ta tb tc td)):=by
 intro pins s σ H Q I h;refine isTrue_chain (thn (ha pins s σ H _ I h) fun v s1 ⟨x,H1,I1,r1,q1⟩=>test_link (thn (hb pins s1 σ H1 _ I1 q1) fun u s2 ⟨y,H2,I2,r2,q2⟩=>
   thn (ho pins s2 σ H2 x y v u _ I2 r1 r2 q2) fun d s3 ⟨z,H3,I3,r3,k,e,q3⟩=>?_)) hm
 subst e;cases r3;refine z6r ?_;cases k with
 | false=>
   obtain⟨k',e',q'⟩:=q3;cases e';exact ite_ff ⟨H3,I3,q'⟩
 | true=>
   refine ite_tt (test_link (thn (hc pins s3 σ H3 _ I3 q3) fun w' s4 ⟨z',H4,I4,r4,q4⟩=>thn (ho' pins s4 σ H4 y z' u w' _ I4 r2 r4 q4) fun d' s5 ⟨z2,H5,I5,r5,k2,e2,q5⟩=>?_));subst e2;cases r5;refine z6r ?_;cases k2 with
   | false=>
     obtain⟨k',e',q'⟩:=q5;cases e';exact ite_ff ⟨H5,I5,q'⟩
   | true=>
     refine ite_tt (test_last (thn (hd pins s5 σ H5 _ I5 q5) fun w2 s6 ⟨z6,H6,I6,r6,q6⟩=>thn (ho2 pins s6 σ H6 z' z6 w' w2 _ I6 r4 r6 q6) fun d6 s7 ⟨z7,H7,I7,r7,k7,e7,q7⟩=>?_));subst e7;cases r7;exact z6r ⟨H7,I7,q7⟩
theorem zo9{a b c d:Expr}{f g h i:E}{pos:Pos}(ha:FE X a f)(hb:FE X b g)(hc:FE X c h)(hd:FE X d i)(hm:lastMarks [.LtE,.LtE,.LtE] [b,c,d]=false:=by with_unfolding_all rfl):FB X (.Compare a [.LtE,.LtE,.LtE] [b,c,d] pos) (bE (zgj zex zex zex f g h i)) :=
 zdp (znu zlw zlw zlw ha hb hc hd hm) fun σ H Q h=>zua (fun Q h0=>by
   obtain⟨ρ,ev,S,d,S',hE,hS,hf,k⟩:=h0;obtain⟨⟨x,S1⟩,q1,hf⟩:=zy hf;obtain⟨⟨y,S2⟩,q2,hf⟩:=zy hf;obtain⟨z,q3,hf⟩:=zy hf;refine⟨ρ,ev,S,x,S1,hE,hS,q1,fun v ρ1 H1 E1 hS1 r1=>⟨ρ1,ev,S1,y,S2,hE.mono E1,hS1,q2,fun u ρ2 H2 E2 hS2 r2=>?_⟩⟩;refine zau ρ2 H2 _ v u x y z _ hS2 (r1.mono E2) r2 q3 fun w H3 E3 hS3 r3=>?_;dsimp only at hf;split at hf
   · obtain⟨⟨t,S4⟩,q4,hf⟩:=zy hf;obtain⟨dd,q5,hf⟩:=zy hf;refine⟨true,r3,ρ2,ev,S2,t,S4,((hE.mono E1).mono E2).mono E3,hS3,q4,fun tv ρ4 H4 E4 hS4 r4=>?_⟩;refine zau ρ4 H4 _ u tv y t _ _ hS4 ((r2.mono E3).mono E4) r4 q5 fun w' H5 E5 hS5 r5=>?_;split at hf
     · obtain⟨⟨t6,S6⟩,q6,hf⟩:=zy hf;obtain⟨d7,q7,hf⟩:=zaq hf;cases hf;refine⟨true,r5,ρ4,ev,S4,t6,S6,((((hE.mono E1).mono E2).mono E3).mono E4).mono E5,hS5,q6,fun tv6 ρ6 H6 E6 hS6 r6=>?_⟩;exact zau ρ6 H6 _ tv tv6 t t6 _ _ hS6 ((r4.mono E5).mono E6) r6 q7 fun w7 H7 E7 hS7 r7=>k w7 ρ6 H7 ((((((E1.trans E2).trans E3).trans E4).trans E5).trans E6).trans E7) hS7 r7
     · cases hf;exact⟨false,r5,k _ ρ4 H5 ((((E1.trans E2).trans E3).trans E4).trans E5) hS5 rfl⟩
     · cases hf
   · cases hf;exact⟨false,r3,k _ ρ2 H3 ((E1.trans E2).trans E3) hS3 rfl⟩
   · cases hf) h
end
mutual
def bnd(n:Nat):D->Bool
 | .obj i=>decide (i<n)
 | .tup ds=>bndL n ds
 | .lst ds=>bndL n ds
 | .clo _ ds=>bndL n ds
 |_=>true
def bndL(n:Nat):List D->Bool
 | []=>true
 |d::ds=>bnd n d&&bndL n ds
end
def zsa(n:Nat):MO->Bool
 | .lst ds=>bndL n ds
 | .ins _ fs=>bndL n (fs.map (·.2))
 | .dct kvs=>bndL n (kvs.map (·.2))
 | .exc _=>true
 | .tab _ _=>true
def frz(g:G):G:=fun ds S=>(g ds S).bind fun r=>if(r.2.take S.length).all (zsa S.length)=true then (match r.1 with
 | .obj i=>if i<S.length then some (.obj i,r.2.take S.length)else (match r.2[i]? with
   |some (.lst us)=>if bndL S.length us=true then some (.lst us,r.2.take S.length)else none
   |_=>none)
 |d=>if bnd S.length d=true then some (d,r.2.take S.length)else none)else none
section
variable {K:zFr}{mg:zMg}{ρ ρ':List Addr}{H H':Hp}{S S1:Sto}{n:Nat}
theorem TupAt.cut{p:Addr}{vs:List V}(h:TupAt K ρ H p vs):TupAt K (ρ.take n) H p vs:=h.imp (fun⟨a,b⟩=>⟨fun z=>a (z57 z),b⟩) id
theorem LstAt.cut{p:Addr}{vs:List V}(h:LstAt K ρ H p vs):LstAt K (ρ.take n) H p vs:=h.imp (fun⟨a,b⟩=>⟨fun z=>a (z57 z),b⟩) id
theorem Cells.cut:∀{xs:List Str}{us:List V}{cl:zLA},Cells ρ H xs us cl->Cells (ρ.take n) H xs us cl
 | [],[],[],_=>trivial
 |x::xs,u::us,p::cl,h=>⟨h.1,fun z=>h.2.1 (z57 z),h.2.2.1,Cells.cut h.2.2.2⟩
 | [],[],_::_,h=>h.elim
 | [],_::_,_,h=>h.elim
 |_::_,[],_,h=>h.elim
 |_::_,_::_,[],h=>h.elim
mutual
theorem Rep.cut:∀{d:D}{v:V},bnd n d=true->Rep K mg ρ H d v->Rep K mg (ρ.take n) H d v
 | .non,_,_,h=>h
 | .bl _,_,_,h=>h
 | .int _,_,_,h=>h
 | .str _,_,_,h=>h
 | .fn _,_,_,h=>h
 | .ty _,_,_,h=>h
 | .tup ds,_,hb,h=>by unfold Rep at h ⊢;unfold bnd at hb;obtain⟨p,vs,e1,t,r⟩:=h;exact⟨p,vs,e1,t.cut,RepL.cut hb r⟩
 | .lst ds,_,hb,h=>by unfold Rep at h ⊢;unfold bnd at hb;obtain⟨p,vs,e1,t,r⟩:=h;exact⟨p,vs,e1,t.cut,RepL.cut hb r⟩
 | .obj i,_,hb,h=>by unfold Rep at h ⊢;unfold bnd at hb;obtain⟨a,e1,e2⟩:=h;exact⟨a,e1,by rw[z78 (z7e hb)];exact e2⟩
 | .lam t,_,_,h=>by unfold Rep at h ⊢;obtain⟨a,e1,n1,c,pm,ct,n2,h1,h2⟩:=h;exact⟨a,e1,fun z=>n1 (z57 z),c,pm,ct,fun z=>n2 (z57 z),h1,h2⟩
 | .clo t vs,_,hb,h=>by unfold Rep at h ⊢;unfold bnd at hb;obtain⟨a,us,e1,⟨n1,c,pm,ct,cl,n2,h1,h2,h3,h4⟩,r⟩:=h;exact⟨a,us,e1,⟨fun z=>n1 (z57 z),c,pm,ct,cl,fun z=>n2 (z57 z),h1,h2,h3,h4.cut⟩,RepL.cut hb r⟩
theorem RepL.cut:∀{ds:List D}{vs:List V},bndL n ds=true->RepL K mg ρ H ds vs->RepL K mg (ρ.take n) H ds vs
 | [],_,_,h=>h
 | d::ds,_,hb,h=>by unfold RepL at h ⊢;unfold bndL at hb;obtain⟨v,r,e,h1,h2⟩:=h;obtain⟨b1,b2⟩:=Bool.and_eq_true_iff.mp hb;exact⟨v,r,e,Rep.cut b1 h1,RepL.cut b2 h2⟩
end
theorem MOk.cut{a:Addr}{m:MO}(hb:zsa n m=true)(h:MOk K mg ρ H a m):MOk K mg (ρ.take n) H a m:=by
 cases m with
 |lst ds=>obtain⟨vs,h1,h2⟩:=h;exact⟨vs,h1,h2.cut hb⟩
 |ins c fs=>obtain⟨C,dx,vs,h0,h1,h2,h3⟩:=h;exact⟨C,dx,vs,h0,h1,h2,h3.cut hb⟩
 |dct kvs=>obtain⟨vs,h1,h2,h3⟩:=h;exact⟨vs,h1,h2,h3.cut hb⟩
 |exc c=>exact h
 |tab x q=>obtain⟨h0,ps,h1,h2,h3⟩:=h;exact⟨h0,ps,h1,h2,fun pos cv z=>let⟨c,z1,z2,z3⟩:=h3 pos cv z;⟨c,z1,fun y=>z2 (z57 y),z3⟩⟩
theorem StOk.cut(hS:StOk K mg ρ H S)(hb:(S.take n).all (zsa n)=true):StOk K mg (ρ.take n) H (S.take n):=by
 refine⟨by rw[z5m,z5m,hS.len],hS.nd.sublist (z9j _ _),fun i m a e1 e2=>?_⟩;have hi:i<n:=by have:=(z5b.mp e1).1;rw[z5m]at this;omega
 have hm:m∈S.take n:=z51 e1;rw[z78 hi]at e1 e2;exact(hS.ob i m a e1 e2).cut (z6d.mp hb m hm)
theorem Ext.cut(e:Ext ρ H ρ' H')(hn:ρ.length=n):Ext ρ H (ρ'.take n) H' :=
 ⟨fun i a h=>by rw[z78 (by rw[<-hn];exact(z5b.mp h).1)];exact e.pre i a h,e.keep,fun b hb=>e.new b (z57 hb)⟩
theorem zz0{g:G}(vs:List V)(H:Hp)(Q:VK)(E:XK)(h:spG K mg (frz g) vs H Q E):spG K mg g vs H Q E:=by
 obtain⟨ρ,ds,S,d,S',hr,hS,hf,k⟩:=h;obtain⟨⟨d1,S1⟩,q1,hf⟩:=zy hf;refine⟨ρ,ds,S,d1,S1,hr,hS,q1,fun v ρ' H' E1 hS1 r1=>?_⟩;dsimp only at hf;split at hf
 · rename_i hb;have e0:=E1.cut hS.len;have s0:=hS1.cut hb;split at hf
   · rename_i i;split at hf
     · rename_i hi;cases hf;exact k v _ H' e0 s0 (r1.cut (by unfold bnd;exact z5z hi))
     · rename_i hi;split at hf
       · rename_i us eu;split at hf
         · rename_i hu;cases hf;unfold Rep at r1;obtain⟨a,rfl,ea⟩:=r1;obtain⟨ws,m1,m2⟩:=hS1.ob i _ a eu ea;refine k _ _ H' e0 s0 ?_;unfold Rep;refine⟨a,ws,rfl,.inl ⟨fun z=>?_,.inl m1⟩,m2.cut hu⟩;obtain⟨j,hj,ej⟩:=z5v z;rw[z5m]at hj;rw[z7f]at ej;have hj2:j<ρ'.length:=by omega
           have e3:ρ'[j]? = ρ'[i]?:=by rw[ea,z49 hj2,ej]
           have:=(List.getElem?_inj hj2 hS1.nd).mp e3;omega
         · cases hf
       · cases hf
   · split at hf
     · rename_i hd;cases hf;exact k v _ H' e0 s0 (r1.cut hd)
     · cases hf
 · cases hf
end
theorem Cal.frz{P:Program}{w:World}{K:zFr}{mg:zMg}{base:Heap}{k:Nat}{x:Str}{g:G}(c:Cal P w K mg base k x g):Cal P w K mg base k x (frz g):=by obtain⟨f,fd,ps,ds,dvs,dds,gg,FF,hm,hk,hb,hd,hdd,hg⟩:=c.ex;refine⟨f,fd,ps,ds,dvs,dds,_root_.F.frz gg,FnOk.imp FF zz0,hm,hk,hb,hd,hdd,fun args S r e=>?_⟩;obtain⟨r0,q,e⟩:=zy e;show(gg (args++dds) S).bind _=_;rw[hg args S r0 q];exact e
end F
namespace F
open PySem L2 PySem.Spec PyProof.Rows
def zme(c:B)(g:E)(fr:Ev):List D->Sto->Option (List D×Sto)
 | [],S=>some ([],S)
 |d::ds,S=>(c (some d::fr) S).bind fun p=>if p.1=true then (g (some d::fr) p.2).bind fun q=>(zme c g fr ds q.2).bind fun r=>some (q.1::r.1,r.2)else zme c g fr ds p.2
def z4u:B:=fun _ S=>some (true,S)
inductive FT (X:Cx):List Expr->B->Prop
 |nil:FT X [] z4u
 |one {e:Expr}{u:B}:FB X e u->FT X [e] u
section
variable {X:Cx}{pins:zAO}{σ:L2.St}{H:Hp}{s:Shared}{scope:Scope}{x:Str}{N':List Str}{fr:List Nat}
theorem zzw{ifs:List Expr}{c:B}(h:FT X ifs c){Q:Bool->Hp->Prop}(I:Inv X pins σ H s)(t:tB X.K X.mg c σ H Q) :
   wpAny (model X.prog X.w) X.A (forIn ifs true fun c r=>if r=true then do let ok <-isTrue c X.env (eval c X.env);pure (ForInStep.yield ok)else pure (ForInStep.yield r)) (TP X pins σ Q) X.xe s:=by
 cases h with
 | nil=>
   obtain⟨ρ,ev,S,b,S',hE,hS,hf,k⟩:=t;cases hf;exact wpAny_tests_nil ⟨H,I,k ρ H (Ext.refl _ _) hS⟩
 |one h=>exact wpAny_tests_one (h pins s σ H Q I t)
end
section
variable {K:zFr}{mg:zMg}{ρ:List Addr}{H:Hp}{S:Sto}
variable {X:Cx}{a b e o i:Expr}{f g h:E}{pos:Pos}
theorem RepL.dropLast{ds:List D}{vs:List V}(r:RepL K mg ρ H ds vs):RepL K mg ρ H ds.dropLast vs.dropLast:=by rw[List.dropLast_eq_take,List.dropLast_eq_take,<-r.length];exact r.take _
end
structure Fly (h₀ h:Heap) (H:Hp) (a C:Addr):Prop where
 new:h₀.get? a=none
 un:H a=none
 tr:∃oe vs T oT ts,h.get? a=some oe/\oe.cls=.ref C/\oe.data=.fields vs/\vs[1]? = some (.ref T)/\h₀.get? T=none/\H T=none/\T≠a/\h.get? T=some oT/\oT.data=.fields ts/\ts[3]? = some .none
theorem zbq{h base:Heap}{xs:List Addr}:∀{l:List Env},h.FunFrames base l->(∀b∈frs l,b∈xs)->h.FunFrames (PySem.W.hideAll h xs) l
 | [],_,_=>trivial
 | env::l,⟨hk,⟨L,o,hf,hn,ho,hd⟩,hr⟩,hx=>by
   refine⟨hk,⟨L,o,hf,z76 xs (hx L ?_),ho,hd⟩,zbq hr fun b hb=>hx b ?_⟩
   · unfold frs;rw[List.filterMap_cons,hf];exact z5d ..
   · unfold frs at hb ⊢;rw[List.filterMap_cons,hf];exact z46 _ hb
structure Lft (fs:List Addr) (h₀:Heap) (H:Hp) (a C:Addr) (h h':Heap):Prop where
 keep:∀b o,h.get? b=some o->b∉fs->(∃o',h₀.get? b=some o')\/(∃u,H b=some u)->h'.get? b=some o
 slot:∀b o,h.get? b=some o->b∈fs->∃sl,h'.get? b=some { o with slots:=sl }
section
variable {M:Model}{A:Around}{E:zVP}{s:Shared}
theorem zfc{base h₀:Heap}{H:Hp}{env:Env}{outer:List Env}{L a C:Addr}{Q:Unit->Shared->Prop}(hfr:A.frames=some (env::outer))(hl:s.heap.FunFrames base (env::outer))(hf:env.frame=some L)(fl:Fly h₀ s.heap H a C)
   (hH:∀b u,H b=some u->∃o,s.heap.get? b=some o) (h0:∀b o,h₀.get? b=some o->∃o',s.heap.get? b=some o')
   (h:∀h',Fly h₀ h' H a C->Lft (frs (env::outer)) h₀ H a C s.heap h'->h'.FunFrames base (env::outer)->Q () { s with heap:=h' }):wpAny M A (leaving env (.ref a)) Q E s:=by
 obtain⟨oe,vs,T,oT,ts,he,hc,hd,h1,hT0,hTH,hTa,hT,hdT,h3⟩:=fl.tr;generalize hxs:frs (env::outer)++[a,T]=xs;have hfx:∀b∈frs (env::outer),b∈xs:=fun b hb=>by rw[<-hxs];exact z6k _ hb
 have hax:a∈xs:=by rw[<-hxs];simp
 have hTx:T∈xs:=by rw[<-hxs];simp
 refine wpAny_leaving_next (base:=PySem.W.hideAll s.heap xs) (cls:=.ref C) hfr (zbq hl hfx) hf ⟨oe,vs,T,oT,ts,he,hc,hd,h1,z76 xs hTx,hTa,hT,hdT,h3⟩ (fun b o e=>z97 xs e) (z76 xs hax) fun h' hL=>?_;obtain⟨k1,k2,k3,k4⟩:=hL;obtain⟨oe',vs',T',oT',ts',he',hc',hd',h1',hT',hTa',hT2,hdT',h3'⟩:=k3;have hTf:T'∉frs (env::outer):=fun z=>by obtain⟨_,o,ho,hnf⟩:=k2.mem z;rw[hT2]at ho;cases ho;exact hnf _ hdT'
 have hTn:s.heap.get? T'=none\/T'=T:=by
   cases q:s.heap.get? T' with
   |none=>exact .inl rfl
   | some o=>
     by_cases z:T'∈xs
     · rw[<-hxs]at z;rcases z5x.mp z with z | z
       · exact absurd z hTf
       · simp at z;exact .inr (z.resolve_left hTa')
     · rw[z8d xs q z]at hT';cases hT'
 refine h h' ⟨fl.new,fl.un,oe',vs',T',oT',ts',he',hc',hd',h1',?_,?_,hTa',hT2,hdT',h3'⟩ ⟨fun b o e nb hb=>?_,fun b o e hb=>?_⟩ (hl.of_keeps fun b o e hnf=>?_)
 · rcases hTn with z | rfl
   · cases q:h₀.get? T' with
     |none=>rfl
     |some o=>obtain⟨o',q'⟩:=h0 T' o q;rw[z]at q';cases q'
   · exact hT0
 · rcases hTn with z | rfl
   · cases q:H T' with
     |none=>rfl
     |some o=>obtain⟨o',q'⟩:=hH T' o q;rw[z]at q';cases q'
   · exact hTH
 · refine k1 b o (z8d xs e fun z=>?_);rw[<-hxs]at z;rcases z5x.mp z with z | z
   · exact nb z
   · simp at z;rcases z with rfl | rfl
     · rcases hb with⟨_,hb⟩ | ⟨u,hb⟩
       · rw[fl.new]at hb;cases hb
       · rw[fl.un]at hb;cases hb
     · rcases hb with⟨_,hb⟩ | ⟨u,hb⟩
       · rw[hT0]at hb;cases hb
       · rw[hTH]at hb;cases hb
 · obtain⟨_,o2,ho2,hnf⟩:=hl.mem hb;rw[e]at ho2;cases ho2;exact k4 b o e hnf
 · obtain⟨sl,q⟩:=k4 b o e hnf;exact⟨_,q,rfl⟩
theorem zdx{base h₀:Heap}{H:Hp}{env:Env}{outer:List Env}{L a C:Addr}{oe:Obj}{vs:Array Value}{Q:Unit->Shared->Prop}(hfr:A.frames=some (env::outer))(hl:s.heap.FunFrames base (env::outer))(hf:env.frame=some L)
   (he:s.heap.get? a=some oe) (hc:oe.cls=.ref C) (hd:oe.data=.fields vs) (h1:vs[1]? = some .none) (hn:h₀.get? a=none) (hu:H a=none)
   (hH:∀b u,H b=some u->∃o,s.heap.get? b=some o) (h0:∀b o,h₀.get? b=some o->∃o',s.heap.get? b=some o')
   (h:∀h',Fly h₀ h' H a C->Lft (frs (env::outer)) h₀ H a C s.heap h'->h'.FunFrames base (env::outer)->Q () { s with heap:=h' }):wpAny M A (leaving env (.ref a)) Q E s:=by
 generalize hxs:frs (env::outer)++[a]=xs;have hfx:∀b∈frs (env::outer),b∈xs:=fun b hb=>by rw[<-hxs];exact z6k _ hb
 have hax:a∈xs:=by rw[<-hxs];simp
 refine wpAny_leaving_first (base:=PySem.W.hideAll s.heap xs) hfr (zbq hl hfx) hf he (fun b o e=>z97 xs e) (z76 xs hax) hd h1 fun h' hL=>?_;obtain⟨k1,k2,k3,k4⟩:=hL;obtain⟨oe',vs',T',oT',ts',he',hc',hd',h1',hT',hTa',hT2,hdT',h3'⟩:=k3;have hTf:T'∉frs (env::outer):=fun z=>by obtain⟨_,o,ho,hnf⟩:=k2.mem z;rw[hT2]at ho;cases ho;exact hnf _ hdT'
 have hTn:s.heap.get? T'=none:=by
   cases q:s.heap.get? T' with
   |none=>rfl
   | some o=>
     by_cases z:T'∈xs
     · rw[<-hxs]at z;rcases z5x.mp z with z | z
       · exact absurd z hTf
       · exact absurd (z5g.mp z) hTa'
     · rw[z8d xs q z]at hT';cases hT'
 refine h h' ⟨hn,hu,oe',vs',T',oT',ts',he',hc'.trans hc,hd',h1',?_,?_,hTa',hT2,hdT',h3'⟩ ⟨fun b o e nb hb=>?_,fun b o e hb=>?_⟩ (hl.of_keeps fun b o e hnf=>?_)
 · cases q:h₀.get? T' with
   |none=>rfl
   |some o=>obtain⟨o',q'⟩:=h0 T' o q;rw[hTn]at q';cases q'
 · cases q:H T' with
   |none=>rfl
   |some o=>obtain⟨o',q'⟩:=hH T' o q;rw[hTn]at q';cases q'
 · refine k1 b o (z8d xs e fun z=>?_);rw[<-hxs]at z;rcases z5x.mp z with z | z
   · exact nb z
   · rw[z5g.mp z]at hb;rcases hb with⟨_,hb⟩ | ⟨u,hb⟩
     · rw[hn]at hb;cases hb
     · rw[hu]at hb;cases hb
 · obtain⟨_,o2,ho2,hnf⟩:=hl.mem hb;rw[e]at ho2;cases ho2;exact k4 b o e hnf
 · obtain⟨sl,q⟩:=k4 b o e hnf;exact⟨_,q,rfl⟩
end
def CX1(P:Program)(w:World):CXT:=fun outer H s E e s'=>
 ∃a C H',e=.ref a/\s'.os=s.os/\AllBare s'.gens/\Un (frs outer) [] H H' s.heap s'.heap/\HOk P w H' s'.heap/\Fly s.heap s'.heap H' a C/\E e (some C) H'
section
variable {X:Cx}{pins:zAO}{σ:L2.St}{H:Hp}{s:Shared}
theorem Fly.back{h₀ h₁ h:Heap}{a C:Addr}(f:Fly h₁ h H a C)(k:∀b o,h₀.get? b=some o->∃o',h₁.get? b=some o'):Fly h₀ h H a C:=by
 have n:∀b,h₁.get? b=none->h₀.get? b=none:=fun b e=>by
   cases q:h₀.get? b with
   |none=>rfl
   |some o=>obtain⟨o',q'⟩:=k b o q;rw[e]at q';cases q'
 obtain⟨oe,vs,T,oT,ts,r1,r2,r3,r4,r5,r6⟩:=f.tr;exact⟨n a f.new,f.un,oe,vs,T,oT,ts,r1,r2,r3,r4,n T r5,r6⟩
theorem zm0{fs:List Addr}{H₀:Hp}{L a C:Addr}{h₀ h h':Heap}(u:Un fs [] H₀ H h₀ h)(l:Lft (L::fs) h₀ H a C h h')(hL:h₀.get? L=none):Un fs [] H₀ H h₀ h' where
 keep:=fun b o e n nb hx=>l.keep b o (u.keep b o e n nb hx) (fun z=>(z5p.mp z).elim (fun z=>by rw[z,hL]at e;cases e) nb) (.inl ⟨_,e⟩)
 slot:=fun b o e n nb hx=>by obtain⟨sl,q⟩:=u.slot b o e n nb hx;obtain⟨sl',q'⟩:=l.slot b _ q (z46 _ nb);exact⟨sl',q'⟩
 free:=u.free
 there:=fun b o e hx=>by
   obtain⟨o',q⟩:=u.there b o e hx;by_cases z:b∈L::fs
   · obtain⟨sl,q'⟩:=l.slot b _ q z;exact⟨_,q'⟩
   · exact⟨_,l.keep b _ q z (.inl ⟨_,e⟩)⟩
 tups:=u.tups
 frzs:=u.frzs
 tbls:=u.tbls
theorem zbc{P:Program}{w:World}{h:Heap}{a:Addr}{o:HO}(x:ObjOk P w H h a o):∃q,h.get? a=some q:=by
 cases o with
 |lst xs=>obtain⟨_,_,_,_,e⟩:=x;exact⟨_,e⟩
 |tup xs=>obtain⟨_,_,_,p⟩:=x;obtain⟨o,e,_⟩:=p;exact⟨_,e⟩
 |dK kvs=>obtain⟨_,_,_,_,o,_,_,e,_⟩:=x;exact⟨_,e⟩
 |dT kvs=>obtain⟨_,_,_,_,o,_,_,e,_⟩:=x;exact⟨_,e⟩
 |set S n=>obtain⟨o,_,_,_,e,_⟩:=x;exact⟨_,e⟩
 |ins C dx fs=>obtain⟨_,_,_,e,_⟩:=x;exact⟨_,e⟩
 |own y=>obtain⟨_,e⟩:=x;exact⟨_,e⟩
 |xd fs=>obtain⟨_,⟨_,_,_,e,_⟩,_⟩:=x;exact⟨_,e⟩
 |rng lo hi=>obtain⟨_,_,_,e⟩:=x;exact⟨_,e⟩
 |frz ob u=>obtain⟨e,_⟩:=x;exact⟨_,e⟩
 |tbl ps=>exact⟨_,(show h.get? a=some _ from x)⟩
 |met f y=>exact⟨_,(show h.get? a=some _ from x)⟩
 |ext φ=>obtain⟨_,⟨_,e⟩,_⟩:=x;exact⟨_,e⟩
theorem zb4{P:Program}{w:World}{fs:List Addr}{a C:Addr}{h₀ h h':Heap}(ok:HOk P w H h)(l:Lft fs h₀ H a C h h')(hf:∀b∈fs,H b=none):HOk P w H h':=fun b u e=>
 (ok b u e).stay (fun c v hc r=>by
   have ht:∃z,H c=some z:=by
     rcases hc with rfl | hc
     · exact⟨_,e⟩
     · exact⟨_,hc⟩
   obtain⟨z,hz⟩:=ht;exact l.keep c v r (fun m=>by rw[hf c m]at hz;cases hz) (.inr ⟨z,hz⟩)) (fun c r=>r) fun c xs r=>r
theorem zt9{P:Program}{w:World}{K:zFr}{mg:zMg}{base:Heap}{N:List Str}{qual:Str}{scope:Scope}{f:Addr}{cd:Value}{A:Around}{outer:List Env}{s₀:Shared}{H₀:Hp}{E:XK}{a C:Addr}
   (I:Inv (zcd (CX1 P w) P w K mg base N qual scope f cd A outer s₀ H₀ E) pins σ H s) (fl:Fly s₀.heap s.heap H a C) (hE:E (.ref a) (some C) H):(zcd (CX1 P w) P w K mg base N qual scope f cd A outer s₀ H₀ E).xe (.ref a) s:=by
 have hfs:∀b∈frs (envOfC qual scope s₀.heap.objs.size f cd::outer),H b=none:=I.stkFree;refine zfc (base:=base) (h₀:=s₀.heap) (H:=H) (L:=s₀.heap.objs.size) I.ok.frames I.stack rfl fl (fun b u e=>zbc (I.hok b u e)) (fun b o e=>I.base.there b o e (by show b∉([]:List Addr);simp)) fun h' f1 l1 _=>?_;have l2:Lft (s₀.heap.objs.size::frs outer) s₀.heap H a C s.heap h':=l1;exact⟨a,C,H,rfl,I.os,I.bare,zm0 I.base l2 (z77 (z44 _)),zb4 I.hok l1 hfs,f1,hE⟩
theorem zp8{P:Program}{w:World}{K:zFr}{mg:zMg}{base:Heap}{N:List Str}{qual:Str}{scope:Scope}{f:Addr}{cd:Value}{A:Around}{outer:List Env}{s₀:Shared}{H₀:Hp}{E:XK}{a C:Addr}{h₁:Heap}{args:List Value}
   (I:Inv (zcd (CX1 P w) P w K mg base N qual scope f cd A outer s₀ H₀ E) pins σ H s) (mk:Heap.MadeExcOf s.heap h₁ a (.ref C) args) (hE:E (.ref a) (some C) H):(zcd (CX1 P w) P w K mg base N qual scope f cd A outer s₀ H₀ E).xe (.ref a) { s with heap:=h₁ }:=by
 have I1:Inv (zcd (CX1 P w) P w K mg base N qual scope f cd A outer s₀ H₀ E) pins σ H { s with heap:=h₁ }:=I.kept (t':=s.toks) mk.keeps;obtain⟨t,he,_⟩:=mk.there;have hu:H a=none:=by
   cases q:H a with
   |none=>rfl
   |some u=>obtain⟨o,z⟩:=zbc (I.hok a u q);rw[mk.new]at z;cases z
 have hn:s₀.heap.get? a=none:=by
   cases q:s₀.heap.get? a with
   |none=>rfl
   |some o=>obtain⟨o',z⟩:=I.base.there a o q (by show a∉([]:List Addr);simp);rw[mk.new]at z;cases z
 have hfs:∀b∈frs (envOfC qual scope s₀.heap.objs.size f cd::outer),H b=none:=I1.stkFree;refine zdx (base:=base) (h₀:=s₀.heap) (H:=H) (L:=s₀.heap.objs.size) I1.ok.frames I1.stack rfl he rfl rfl rfl hn hu (fun b u e=>zbc (I1.hok b u e)) (fun b o e=>I1.base.there b o e (by show b∉([]:List Addr);simp)) fun h' f1 l1 _=>?_;have l2:Lft (s₀.heap.objs.size::frs outer) s₀.heap H a C h₁ h':=l1;exact⟨a,C,H,rfl,I1.os,I1.bare,zm0 I1.base l2 (z77 (z44 _)),zb4 I1.hok l1 hfs,f1,hE⟩
theorem z18{P:Program}{w:World}{K:zFr}{mg:zMg}{base:Heap}{N:List Str}{qual:Str}{scope:Scope}{f:Addr}{cd:Value}{A:Around}{outer:List Env}{s₀:Shared}{H₀:Hp}{E:XK} :
   zet (CX1 P w) (zcd (CX1 P w) P w K mg base N qual scope f cd A outer s₀ H₀ E) E:=fun pins σ H s e s' I h=>by
 obtain⟨a,C,H',rfl,os,bare,un,hok,fl,hE⟩:=h;have I1:Inv (zcd (CX1 P w) P w K mg base N qual scope f cd A outer s₀ H₀ E) pins σ H' s':=I.call' os un hok bare fun b hb=>absurd hb (by simp);exact zt9 I1 (fl.back fun b o e=>I.base.there b o e (by show b∉([]:List Addr);simp)) hE
end
abbrev R:=Ev->Sto->Option (Str×Sto)
def zxv(c:C)(r:R):R:=fun ev S=>(c ev S).bind fun p=>match p.1 with
 | .nx e=>r e p.2
 |_=>none
def rIf(u:B)(a b:R):R:=fun ev S=>(u ev S).bind fun p=>if p.1=true then a ev p.2 else b ev p.2
def zxw:R:=fun _ _=>none
section
variable (K:zFr) (mg:zMg)
def tR(r:R)(σ:L2.St)(H:Hp)(E:XK):Prop:=∃ρ ev S c S',EnvR K mg ρ H ev σ/\StOk K mg ρ H S/\r ev S=some (c,S')/\∃C,mg c=some (.ref C)/\∀e ρ' H',Ext ρ H ρ' H'->StOk K mg ρ' H' S'->E e (some C) H'
end
structure XE (X:Cx) (pins:zAO) (σ:L2.St) (E:XK):Prop where
 first:∀{H s a C h₁ args},Inv X pins σ H s->Heap.MadeExcOf s.heap h₁ a (.ref C) args->E (.ref a) (some C) H->X.xe (.ref a) { s with heap:=h₁ }
 pass:∀{H s e s'},Inv X pins σ H s->CX1 X.prog X.w X.stack H s E e s'->X.xe e s'
def RS(X:Cx)(st:Stmt)(r:R):Prop:=∀(pins:zAO) (s:Shared) (σ:L2.St) (H:Hp) (E:XK) (Q:Flow->Shared->Prop),XE X pins σ E->Inv X pins σ H s->tR X.K X.mg r σ H E->wpAny (model X.prog X.w) X.A (exec st X.env) Q X.xe s
def RSs(X:Cx)(sts:List Stmt)(r:R):Prop:=∀(pins:zAO) (s:Shared) (σ:L2.St) (H:Hp) (E:XK) (Q:Flow->Shared->Prop),(∀σ,XE X pins σ E)->Inv X pins σ H s->tR X.K X.mg r σ H E->wpAny (model X.prog X.w) X.A (execs sts X.env) Q X.xe s
def RTs(X:Cx)(sts:List Stmt)(r:R):Prop:=∀(pins:zAO) (s:Shared) (σ:L2.St) (H:Hp) (E:XK) (Q:Flow->Shared->Prop),XE X pins σ E->Inv X pins σ H s->tR X.K X.mg r σ H E->wpAny (model X.prog X.w) X.A (execs sts X.env) Q X.xe s
def RE(X:Cx)(e:Expr)(r:R):Prop:=∀(pins:zAO) (s:Shared) (σ:L2.St) (H:Hp) (E:XK) (Q:zVP),XE X pins σ E->Inv X pins σ H s->tR X.K X.mg r σ H E->wpAny (model X.prog X.w) X.A (eval e X.env) Q X.xe s
section
variable {X:Cx}{st:Stmt}{rest a b:List Stmt}{c:C}{u:B}{r r':R}{e:Expr}{es:List Expr}{pos p:Pos}
theorem zj2(h:RS X st r):RSs X (st::rest) r:=fun pins s σ H E Q hx I t=>z8f (h pins s σ H E _ (hx σ) I t)
theorem zql(h:RS X st r):RTs X (st::rest) r:=fun pins s σ H E Q hx I t=>z8f (h pins s σ H E _ hx I t)
theorem zqn(h1:FS X st c)(h2:RSs X rest r):RSs X (st::rest) (zxv c r):=by
 intro pins s σ H E Q hx I t;obtain⟨ρ,ev,S,nm,S',hE,hS,hf,C,hC,k⟩:=t;obtain⟨⟨o,S1⟩,q1,hf⟩:=zy hf;cases o with
 | nx e1=>
   refine z8f (thn (h1 pins s σ H { nx:=fun σ' H'=>tR X.K X.mg r σ' H' E,rt:=fun _ _=>False,bk:=fun _ _=>False,ct:=fun _ _=>False } I ⟨ρ,ev,S,.nx e1,S1,hE,hS,q1,fun σ' ρ' H' E1 hS1 hE1=>⟨ρ',e1,S1,nm,S',hE1,hS1,hf,C,hC,fun e ρ2 H2 E2 hS2=>k e ρ2 H2 (E1.trans E2) hS2⟩⟩) fun f s1 q=>?_);cases f with
   | next=>
     obtain⟨σ',H',I',q⟩:=q;exact h2 pins s1 σ' H' E Q hx I' q
   |ret v=>obtain⟨_,_,_,_,_,q⟩:=q;exact q.elim
   |brk=>obtain⟨_,_,_,q⟩:=q;exact q.elim
   |cont=>obtain⟨_,_,_,q⟩:=q;exact q.elim
 |_=>cases hf
theorem zxs{cc:Expr}(hc:FB X cc u)(ha:RSs X a r)(hb:RSs X b r'):RSs X (.If cc a b pos::rest) (rIf u r r'):=by
 intro pins s σ H E Q hx I t;obtain⟨ρ,ev,S,nm,S',hE,hS,hf,C,hC,k⟩:=t;obtain⟨⟨d,S1⟩,q1,hf⟩:=zy hf;refine z8f (wpAny_If (thn (hc pins s σ H (fun d' H1=>d'=d/\∃ρ1,Ext ρ H ρ1 H1/\StOk X.K X.mg ρ1 H1 S1) I ⟨ρ,ev,S,d,S1,hE,hS,q1,fun ρ1 H1 E1 hS1=>⟨rfl,ρ1,E1,hS1⟩⟩) fun d' s1 ⟨H1,I1,ed,ρ1,E1,hS1⟩=>?_));subst ed;cases d' with
 |true=>exact ha pins s1 σ H1 E _ hx I1 ⟨ρ1,ev,S1,nm,S',hE.mono E1,hS1,hf,C,hC,fun e ρ2 H2 E2 hS2=>k e ρ2 H2 (E1.trans E2) hS2⟩
 |false=>exact hb pins s1 σ H1 E _ hx I1 ⟨ρ1,ev,S1,nm,S',hE.mono E1,hS1,hf,C,hC,fun e ρ2 H2 E2 hS2=>k e ρ2 H2 (E1.trans E2) hS2⟩
theorem zqm:RSs X rest zxw:=fun pins s σ H E Q hx I t=>by obtain⟨ρ,ev,S,nm,S',hE,hS,hf,_⟩:=t;cases hf
theorem zxt(he:RE X e r):RS X (.Return (some e) pos) r:=fun pins s σ H E Q hx I t=>wpAny_Return_some (he pins s σ H E _ hx I t)
theorem zuv(he:RE X e r)(hs:swapsWith e none pos.line X.env=pure false:=by rfl):RS X (.Expr e pos) r:=fun pins s σ H E Q hx I t=>wpAny_Expr_any (he pins s σ H E _ hx I t) I.quiet hs
end
abbrev GR:=List D->Sto->Option (Str×Sto)
def spR(K:zFr)(mg:zMg)(rr:GR):Sp:=fun vs H _ E=>∃ρ ds S c S',RepL K mg ρ H ds vs/\StOk K mg ρ H S/\rr ds S=some (c,S')/\∃C,mg c=some (.ref C)/\∀e ρ' H',Ext ρ H ρ' H'->StOk K mg ρ' H' S'->E e (some C) H'
structure RCal (P:Program) (w:World) (K:zFr) (mg:zMg) (base:Heap) (k:Nat) (x:Str) (g:GR):Prop where
 ex:∃(f:Addr) (fd:FuncData) (ps:List Str) (ds:List Value) (dvs:List V) (dds:List D) (gg:GR),FnOk P w K mg base (CX1 P w) k f fd ps (spR K mg gg)/\mg x=some (.ref f)/\PySem.W.keepIn K (.ref f)=true /\
   Binds K fd ps ds/\Vals dvs ds/\(∀ρ H,RepL K mg ρ H dds dvs)/\∀args S r,g args S=some r->gg (args++dds) S=some r
def znp(g:GR)(a:As):R:=fun ev S=>(a ev S).bind fun q=>g q.1 q.2
theorem z4g{X:Cx}{CX:CXT}{k:Nat}{f:Addr}{fd:FuncData}{ps:List Str}{sp:Sp}{dvs:List V}{ds:List Value}{E:XK}{pins:zAO}{σ:L2.St}{H:Hp}{s:Shared}{Q:VK}{us:List Value}{vs:List V}
   (F:FnOk X.prog X.w X.K X.mg X.base CX k f fd ps sp) (hr:Room k X.A) (hb:Binds X.K fd ps ds) (hd:Vals dvs ds) (I:Inv X pins σ H s) (hx:∀e s',CX X.stack H s E e s'->X.xe e s') (r:Vals vs us) (h:sp (vs++dvs) H Q E) :
   wpAny (model X.prog X.w) X.A (call (.ref f) us) (EP X pins σ Q) X.xe s:=by
 have r2:=r.append hd;have hl:(us++ds).length=ps.length:=r2.length.symm.trans (F.len _ _ _ _ h);refine z9x (z86 (F.run X.A X.stack s H ⟨us,[]⟩ _ _ Q E hr I.env0 (hb s us I.kIn hl) r2 h) fun r s' hq=>?_)
 match r,hq with
 | .error e,hq=>exact hx e s' hq
 | .ok (.ret u),hq=>exact I.after hq
 | .ok .next,hq=>exact hq.elim
 | .ok .brk,hq=>exact hq.elim
 | .ok .cont,hq=>exact hq.elim
section
variable {X:Cx}{e:Expr}{es:List Expr}{pos p:Pos}{k:Nat}{x:Str}{g:GR}{a:As}
theorem znm(cal:RCal X.prog X.w X.K X.mg X.base k x g)(hr:Room k X.A)(ha:FA X (e::es) a)(hg:Gl X x:=by rfl)(hdb:(x==("__debug__":Str))=false:=by decide)
   (he:starEach (e::es) X.env=(false,eval e X.env)::starEach es X.env:=by exact z9 rfl) (hpl:(backTo pos (starEach es X.env)).any (·.1)=false:=by exact qx rfl) :
   RE X (.Call (.Name x p) (e::es) [] pos) (znp g a):=by
 obtain⟨f,fd,ps,ds,dvs,dds,gg,F,hm,hk,hb,hd,hdd,hgg⟩:=cal.ex;intro pins s σ H E Q hx I t;obtain⟨ρ,ev,S,nm,S',hE,hS,hf,C,hC,kk⟩:=t;obtain⟨⟨ws,S1⟩,q1,hf⟩:=zy hf;have h:=ha pos pins s σ H (fun vs H1=>spR X.K X.mg gg (vs++dvs) H1 (fun _ _=>False) E) I ⟨ρ,ev,S,ws,S1,hE,hS,q1,fun vs ρ1 H1 E1 hS1 r1=>⟨ρ1,ws++dds,S1,nm,S',r1.append (hdd ρ1 H1),hS1,hgg ws S1 _ hf,C,hC,fun e ρ2 H2 E2 hS2=>kk e ρ2 H2 (E1.trans E2) hS2⟩⟩;refine z6w (zax I hg hm ?_ hdb);refine z7l (h₀:=X.base) I.ok.mod.kin hk (thn h fun us s1 ⟨vs,H1,I1,r,q⟩=>⟨I1.kIn,?_⟩) he hpl;refine thn (z4g F hr hb hd I1 (fun e s' hc=>hx.pass I1 hc) r q) fun v s1 q=>?_;obtain⟨_,_,_,_,q⟩:=q;exact q.elim
end
def zh1(N n:Nat)(r:R):GR:=fun ds S=>if ds.length=n then r (ds.map some++List.replicate (N-ds.length) none) S else none
theorem z1i{P:Program}{w:World}{K:zFr}{mg:zMg}{base:Heap}{N:List Str}{qual:Str}{scope:Scope}{f:Addr}{cd:Value}{A:Around}{outer:List Env}{s₀:Shared}{H₀:Hp}{E:XK} :
   ∀pins σ,XE (zcd (CX1 P w) P w K mg base N qual scope f cd A outer s₀ H₀ E) pins σ E:=fun _ _=>⟨fun I mk hE=>zp8 I mk hE,fun I h=>z18 _ _ _ _ _ _ I h⟩
theorem FunD.rok{P:Program}{w:World}{K:zFr}{mg:zMg}{base:Heap}{x qual:Str}{st:Stmt}{f:Addr}{fd:FuncData}{dV:Value}{N ps:List Str}{k:Nat}{r:R}(F:FunD K x qual st f fd dV)(S:FnScope N ps (zk st))
   (hbody:∀(cdv:Value) (A:Around) (outer:List Env) (s:Shared) (H:Hp) (E:XK),Room k (A.deeper (envOfC qual (zk st) s.heap.objs.size f cdv)) ->
     RSs (zcd (CX1 P w) P w K mg base N qual (zk st) f cdv A outer s H E) (jo st) r):FnOk P w K mg base (CX1 P w) (k+1) f fd ps (spR K mg (zh1 N.length ps.length r)):=by
 obtain⟨oc,od,kV,doc,pm,an,cdv,ct,osl,rfl,lk,hcd⟩:=F.ex;refine zrl lk hcd S (fun vs H Q E h=>?_) fun A outer s H vs Q E hr hsp=>?_
 · obtain⟨ρ,ds,S,c,S',r1,hS,hf,k⟩:=h;unfold zh1 at hf;split at hf
   · rename_i hl;rw[<-r1.length];exact hl
   · cases hf
 · refine⟨fun _ σ' H'=>tR K mg r σ' H' E,fun pins s1 σ1 H1 D I t=>hbody cdv A outer s H E hr pins s1 σ1 H1 E _ (z1i pins) I t,?_⟩;obtain⟨ρ,ds,S,c,S',r1,hS,hf,kk⟩:=hsp;unfold zh1 at hf;split at hf
   · rename_i hl;have hs:=EnvR.start (N:=N) r1;exact⟨ρ,_,S,c,S',hs,hS,hf,kk⟩
   · cases hf
def ExcCls(K:zFr)(mg:zMg)(c:Str):Prop :=
 ∃(C N:Addr) (nm q:Str) (bs bm bmB:List Value) (hdct:Bool) (sn:List Str) (sub:List Value) (ab:Bool) (col:Option Bool) (dd:Option Addr) (k0 k1 k2 k3 k5:Option Value) (B newId initId:String) (mN:zMg),
   mg c=some (.ref C)/\ExcBaseFacts B newId initId bmB/\bm.contains (.type "BaseException")=true/\mN "__init__"=none /\
   ∀h:Heap,K.In h->h.get? C=some (excClassObj nm q C N bs bm hdct sn sub ab col dd k0 k1 k2 k3 k5 newId)/\h.Ns N mN/\OwnTail h bmB bm
def zj7(c:Str)(a:As):R:=fun ev S=>(a ev S).bind fun q=>if q.1.length<=sizeLine then some (c,q.2)else none
section
variable {X:Cx}{e:Expr}{es:List Expr}{a:As}{c:Str}{np cpos pos:Pos}
theorem zqo(hc:ExcCls X.K X.mg c)(ha:FA X (e::es) a)(hg:Gl X c:=by rfl)(he:starEach (e::es) X.env=(false,eval e X.env)::starEach es X.env:=by exact z9 rfl)(hcm:X.calm=true:=by rfl)(hdb:(c==("__debug__":Str))=false:=by decide)(hpl:(backTo cpos (starEach (e::es) X.env)).any (·.1)=false:=by exact qx rfl) :
   RS X (.Raise (some (.Call (.Name c np) (e::es) [] cpos)) none pos) (zj7 c a):=by
 obtain⟨C,N,nm,q,bs,bm,bmB,hdct,sn,sub,ab,col,dd,k0,k1,k2,k3,k5,B,newId,initId,mN,hm,F,hb,hi,hk⟩:=hc;intro pins s σ H E Q hx I t;obtain⟨ρ,ev,S,nm',S',hE,hS,hf,CC,hC,kk⟩:=t;obtain⟨⟨ws,S1⟩,q1,hf1⟩:=zy hf;dsimp only at hf1;split at hf1
 · rename_i hl;cases hf1;rw[hm]at hC;cases hC;refine wpAny_Raise_call_subT (nm:=nm) (q:=q) (N:=N) (bs:=bs) (hdct:=hdct) (sn:=sn) (sub:=sub) (ab:=ab) (col:=col) (dd:=dd) (k0:=k0) (k1:=k1) (k2:=k2) (k3:=k3) (k5:=k5) F hb (I.ok.hd hcm) hpl hi (zax I hg hm ⟨rfl,?_⟩ hdb);have hA:=ha cpos pins s σ H (fun vs H1=>vs.length<=sizeLine/\∃ρ1,Ext ρ H ρ1 H1/\StOk X.K X.mg ρ1 H1 S') I ⟨ρ,ev,S,ws,S',hE,hS,q1,fun vs ρ1 H1 E1 hS1 r1=>⟨by rw[<-r1.length];exact hl,ρ1,E1,hS1⟩⟩;rw[he]at hA ⊢;refine Calls.evalArgs_plain (thn hA fun us s2 ⟨vs,H2,I2,r2,lv,ρ1,E1,hS1⟩=>?_);obtain⟨z1,z2,z3⟩:=hk s2.heap I2.kIn;exact⟨rfl,by show us.length<=_;rw[<-r2.length];exact lv,z1,z2,z3,fun h' e mk=>hx.first I2 mk (kk _ ρ1 H2 E1 hS1)⟩
 · cases hf1
end
end F
namespace F
open PySem L2 PySem.Spec PySem.Calls PyProof.Rows PySem.W
section
variable {prog:Program}{w:World}{A:Around}{E:zVP}{s:Shared}{K:zFr}{x D:Addr}
structure ExcIs (K:zFr) (D:Addr):Prop where
 ga:findIn K (.ref D) "__getattribute__"=some (some (.builtin "BaseException.__getattribute__"))
 gn:findIn K (.ref D) "__getattr__"=some none
 ha:findIn K (.ref D) "__class__"=some (some (.builtin "object.__class__"))
 hn:specialIn K (.builtin "object.__class__") "__get__"=some (some (.builtin "getset_descriptor.__get__"))
 htk:takesIn K (.builtin "object.__class__")=some true
 hm:mroIn K D (.type "object")=some true
 hb:mroIn K D (.type "BaseException")=some true
 cl:(clsIn K D).isSome=true
def OfCls(x D:Addr)(h:Heap):Prop:=∃o,h.get? x=some o/\o.cls=.ref D
theorem OfCls.type{M:Model}{h:Heap}(I:OfCls x D h):Looks M h (typeOf (.ref x)) (.ref D):=by obtain⟨o,h1,h2⟩:=I;have L:=(Looks.ld (M:=M) (part:=some headPart) h1).andThen (f:=fun o=>pure o.cls) (b:=o.cls) .now;rw[h2]at L;exact L
theorem zrt{M:Model}{h:Heap}(X:K.In h)(Z:ExcIs K D):Looks M h (Builtin.ObjectAttr.find (.ref x) (.ref D) "__class__") (.bind (.builtin "getset_descriptor.__get__") (.builtin "object.__class__")):=by refine(looks_findIn X Z.ha).andThen ?_;refine(show Looks M h (Builtin.ObjectAttr.getOf (some (.builtin "object.__class__"))) _ from looks_specialIn X Z.hn).andThen ?_;have L3:Looks M h (Builtin.ObjectAttr.dataDescriptor? (some (.builtin "object.__class__")) (some (.builtin "getset_descriptor.__get__"))) (some (.builtin "getset_descriptor.__get__",.builtin "object.__class__")):=(looks_takesIn X Z.htk).andThen .now;exact L3.andThen (Looks.tag .now)
theorem zv9{R:Result->Shared->Prop}{tp:Value}(X:K.In s.heap)(I:OfCls x D s.heap)(Z:ExcIs K D)(h:R (.ok (.ret (.ref D))) s) :
   codeAny (model prog w) A (.call (.builtin "getset_descriptor.__get__") ⟨[.builtin "object.__class__",.ref x,tp],[]⟩) R s:=by
 obtain⟨o,h1,h2⟩:=id I;obtain⟨hh,g,dr,t,os⟩:=s;have L0:=I.type (M:=model prog w);have L1:=looks_mroIn (M:=model prog w) X Z.hm;refine codeAny_call_builtin (KF.slot_gs.plain) (KF.entry_gs) (KF.slot_gs.check _ _ _ _ _ _ _ _ KF.type_class (KF.args_gs _ _ _) ?_);unfold Builtin.«getset_descriptor.__get__» Builtin.Getset_descriptor.descrGet;rw [dga_obj];refine z43 (z5n ?_);unfold Builtin.Getset_descriptor.descrGetter Builtin.Getset_descriptor.descrCheckInstance Builtin.Getset_descriptor.descrNameAndClass isInstance;simp only[KF.owner_class];repeat lk
 refine ⟨Code.quiet_builtin _ (by decide +kernel),codeAny_builtin (KF.entry_class) ?_⟩;unfold Builtin.«object.__class__» shownTypeOf;(repeat lk);exact h
theorem zpb{tk:Tok}{Q:Fin->Shared->Prop}(X:K.In s.heap)(I:OfCls x D s.heap)(Z:ExcIs K D)(h:Q (.done (.ret (.ref D))) s) :
   wpAny (model prog w) A (Builtin.«object.__getattribute__» ⟨[.ref x,.str "__class__" tk],[]⟩) Q E s:=by
 obtain⟨hh,g,d,t,os⟩:=s;have L0:=I.type (M:=model prog w);have L1:=zrt (M:=model prog w) (x:=x) X Z;unfold Builtin.«object.__getattribute__»;refine z43 (z5n (z43 (z5n (z43 (L0.at (z43 (L1.at ?_)))))));show wpAny _ _ (holding [.builtin "object.__class__"] (call (.builtin "getset_descriptor.__get__") [.builtin "object.__class__",.ref x,.ref D]) >>= ret) _ _ _;exact z43 (wpAny_holding (z9x (zv9 X I Z (z5n h))))
theorem zpd{M:Model}{nameV:Value}{Q:Unit->Shared->Prop}(X:K.In s.heap)(I:OfCls x D s.heap)(Z:ExcIs K D)(hq:Q () s) :
   wpAny M A (checkBuiltinCall "BaseException.__getattribute__" ⟨[.ref x,nameV],[]⟩) Q E s:=by
 have hk:(builtinKind "BaseException.__getattribute__")=some .slot:=by decide +kernel
 have hsplit:(splitId "BaseException.__getattribute__")=some ("BaseException", "__getattribute__"):=by decide +kernel
 have ha:=PySem.F.args_bexc_ga (.ref x) nameV;have LI:Looks M s.heap (isInstance (.ref x) (.type "BaseException")) true:=(I.type (M:=M)).andThen (looks_mroIn (M:=M) X Z.hb);simp only[checkBuiltinCall,hk,hsplit];refine z43 (LI.at ?_)
 repeat (any_goals (first | assumption | wp_step))
theorem zpc{Q:Option Value->Shared->Prop}(X:K.In s.heap)(I:OfCls x D s.heap)(Z:ExcIs K D)(h:Q (some (.ref D)) { s with toks:=s.toks+1 }) :
   wpAny (model prog w) A (getAttr? (.ref x) "__class__") Q E s:=by
 obtain⟨hh,g,d,t,os⟩:=s;have L0:=I.type (M:=model prog w);have L1:=looks_findIn (M:=model prog w) X Z.ga;have L2:=looks_findIn (M:=model prog w) X Z.gn;have f3:=z90.ga.bind (.ref x);have hx2:(Value.builtin "BaseException.__getattribute__"==Value.builtin "object.__getattribute__")=false:=(by decide +kernel)
 unfold getAttr? getAttrBy? getAttrBy;refine z43 (wpAny_mkText (z43 (z9v (wpAny_holding (z43 (L0.at (z43 (L1.at (?_)))))))));show wpAny _ _ (if(true&&Value.builtin "BaseException.__getattribute__"==Value.builtin "object.__getattribute__")=true then _ else _) _ _ _;rw[hx2];simp only[Bool.and_false,z5e,z6i];unfold getAttrByItsOwn hookBefore;show wpAny _ _ ((do let before <-typeLookup (.ref D) "__getattr__";_):Sem Value) _ _ _;refine z43 (L2.at ?_);refine z43 (z9v (wpAny_holding ?_));unfold callGetattribute boundAndCalled;simp only[qad,z5e,z6i,f3,pure_bind];refine z9x (codeAny_call_builtin z90.ga.plain PySem.F.entry_bexc_ga (zpd X I Z (zpb X I Z ?_)));exact z5n (z5n h)
theorem zkm(Z:ExcIs K D):KitX K (.ref x) (.ref D) (OfCls x D) where
 ty:=fun _ _ _ I=>I.type
 it:=fun M h X _=>by
   have z:=Z.cl;unfold clsIn at z;split at z
   · rename_i ho;intro A' Q' E' s' k q;exact z43 (qae (k _ _ (X _ _ ho)) (z5n q))
   · cases z
 ne:=fun h tp dd its n sl X htp=>by
   have z:=Z.cl;refine z8v.mpr fun q=>?_;obtain rfl:D=tp:=Value.ref.inj (z71.mp q);unfold clsIn at z;split at z
   · rename_i ho;cases(X _ _ ho).symm.trans htp
   · cases z
 ca:=fun X I k=>zpc X I Z k
end
theorem zfg{α:Type}{q:α->Bool}:∀(l:List α) (i:Nat) (x:α),l[i]? = some x->q x=false->(l.eraseIdx i).find? q=l.find? q
 | [],_,_,h,_=>by simp at h
 | a::l,0,x,h,hq=>by simp at h;subst h;simp[List.find?_cons,hq]
 | a::l,i+1,x,h,hq=>by rw[List.eraseIdx_cons_succ,List.find?_cons,List.find?_cons,zfg l i x (by simpa using h) hq]
theorem zrd{v:Value}{x y:Str}(h:v.isStr x=true)(n:y≠x):v.isStr y=false:=by
 cases v with
 | str z t=>
   have e:z=x:=by simpa [Value.isStr] using h
   subst e;simpa [Value.isStr] using fun e=>n e.symm
 |_=>cases h
section
variable {M:Model}{A:Around}{E:zVP}{s:Shared}
theorem z0h{a:Addr}{m:zMg}{name:Str}{u:Value}{Q:Bool->Shared->Prop}(hn:s.heap.Ns a m)(hu:m name=some u)
   (hQ:∀h' m',h'.Ns a m'->(∀y,y≠name->m' y=m y)->Heap.SameBut a s.heap h'->Q true { s with heap:=h' }):wpAny M A (nsDel a name) Q E s:=by
 obtain⟨o,es,ep,ho,hd,hk,hm⟩:=id hn;obtain⟨cl,d,dt,sl⟩:=o;subst hd;cases hi:es.findIdx? (·.key.isStr name) with
 | none=>
   have z:=hm name;rw[hu]at z;unfold nsFind at z;rw[findBy_of_findIdx?,hi]at z;cases z
 | some i=>
   have hq:es.any (·.key.isStr name)=true:=by obtain⟨hlt,hp,_⟩:=z89.mp hi;exact Array.any_eq_true.mpr ⟨i,hlt,hp⟩
   have hhas:nsHas name ⟨cl,d,.dict es ep,sl⟩=pure true:=by rw[nsHas_eq];unfold nsHasByArray;simp only[hq,z61]
   unfold nsDel;refine z43 (qae ho ?_);rw[hhas];refine z43 (z5n (z43 (wpAny_updatePart ho (z5n ?_))));refine hQ _ (fun y=>nsFind (es.eraseIdxIfInBounds i) y) ⟨_,_,ep+1,z9p _ ho ?_,?_,hk.erase i,fun _=>rfl⟩ (fun y hy=>?_) (Heap.SameBut.update ..)
   · simp only[Obj.dropName_eq,Obj.dropNameByArray,hi];rfl
   · simp only[Obj.dropName_eq,Obj.dropNameByArray,hi]
   · obtain⟨hlt,hp,_⟩:=z89.mp hi;rw[<-hm y];unfold nsFind findBy;refine z7a (Option.map _) ?_;obtain⟨l⟩:=es;have hl:i<l.length:=by simpa using hlt
     rw[Array.eraseIdxIfInBounds,dif_pos (by simpa using hl)];have e:=zfg (q:=fun e:DictEntry=>e.key.isStr y) l i l[i] (z49 hl) (zrd (by simpa using hp) hy);simpa using e
end
section
variable {X:Cx}{pins:zAO}{σ:L2.St}{H:Hp}{s:Shared}
theorem zou{M:Model}{A:Around}{E:zVP}{i:Nat}{x:Str}{pos:Pos}{Q:Unit->Shared->Prop}(I:Inv X pins σ H s)(hN:X.N.Nodup)(hi:X.N[i]? = some x)(hx:X.env.scope.names.lookup x=some .local)
   (h:∀s',Inv X pins (σ.set i none) H s'->Q () s'):wpAny M A (do bindName X.env x .none;unbindBehindTheSuite X.env x pos) Q E s:=by
 refine z43 (wpAny_bindName (zc7 I hN hi (.inl hx) (show RelV .non .none from rfl) (fun s1 I1=>?_) (.inr hx)));have hcls:(X.env.scope.kind==.class||(X.env.scope.kind==.module&&X.env.locals != X.env.globals))=false:=by rw[I.ok.kind];rfl
 have hk:X.env.kindOf x=some .local:=hx;have hiσ:i<σ.length:=by rw[I.len];exact(z5b.mp hi).1
 obtain⟨m,hn,hl⟩:=id I1.loc;obtain⟨u,_,lk⟩:=hl i x .non hi (by rw[z6b hiσ]) (.inl hx);have hu:m x=some u:=by
   rcases lk with⟨_,e⟩ | ⟨k,_⟩
   · exact e
   · rw[hk]at k;rcases k with k | k<;>cases k
 unfold unbindBehindTheSuite;refine wpAny_onRaise ?_;unfold unbindName deleteName;refine z43 (wpAny_point (z43 ?_));simp only[hk,hcls];rw[z5y (by decide)];refine z43 (z0h hn hu fun h2 m2 hn2 hm2 hs=>?_);simp only[z7r,z5e,z6i];refine z5n (wpAny_point (h _ ?_));obtain⟨oL,_,_,hoL,_⟩:=id hn;have ne:∀{b:Addr}{o:Obj},X.s₀.heap.get? b=some o->b≠X.env.locals:=fun e=>z5q (z45 (z5l e) I.ok.above);refine⟨I1.ok,I1.os,I1.bare,⟨fun b o e n hb hx=>(hs.2 b (ne e)).trans (I1.base.keep b o e n hb hx),fun b o e n hb hx=>?_,I1.base.free,fun b o e hx=>?_,I1.base.tups,I1.base.frzs,I1.base.tbls⟩,⟨_,hn2,fun j y v' e1 e2 e3=>?_⟩,fun y c e=>?_,I1.free,I1.freeC,fun p hp=>?_,fun b ob e=>?_,by simpa using I1.len⟩
 · obtain⟨sl,e1⟩:=I1.base.slot b o e n hb hx;exact⟨sl,(hs.2 b (ne e)).trans e1⟩
 · obtain⟨o',e1⟩:=I1.base.there b o e hx;exact⟨o',(hs.2 b (ne e)).trans e1⟩
 · by_cases hj:j=i
   · subst hj;rw[z6b hiσ]at e2;cases e2
   · rw[z6u (z7q hj)]at e2;obtain⟨u',r',q⟩:=hl j y v' e1 (by rw[z6u (z7q hj)];exact e2) e3;refine⟨u',r',?_⟩;rcases q with⟨k,e⟩ | ⟨k,c,e,z⟩
     · exact .inl ⟨k,(hm2 y fun e=>hj (zf1 hN e1 (e▸hi))).trans e⟩
     · exact .inr ⟨k,c,e,z.sameBut hs (I1.cne y c e)⟩
 · obtain⟨w',z⟩:=I1.cell y c e;exact⟨w',z.sameBut hs (I1.cne y c e)⟩
 · obtain⟨e,n,ne,nf,d⟩:=I1.pin p hp;exact⟨(hs.2 p.1 ne).trans e,n,ne,nf,d⟩
 · refine(I1.hok b ob e).stay (fun c w' hc q=>(hs.2 c ?_).trans q) (fun _ q=>q) fun _ _ q=>q;rintro rfl;rcases hc with rfl | hc
   · rw[I1.free]at e;cases e
   · rw[I1.free]at hc;cases hc
end
theorem zie{fs:List Addr}{H₀ H:Hp}{a C:Addr}{h₀ h h':Heap}(u:Un fs [] H₀ H h₀ h)(l:Lft fs h₀ H a C h h'):Un fs [] H₀ H h₀ h' where
 keep:=fun b o e n nb hx=>l.keep b o (u.keep b o e n nb hx) nb (.inl ⟨_,e⟩)
 slot:=fun b o e n nb hx=>by obtain⟨sl,q⟩:=u.slot b o e n nb hx;obtain⟨sl',q'⟩:=l.slot b _ q nb;exact⟨sl',q'⟩
 free:=u.free
 there:=fun b o e hx=>by
   obtain⟨o',q⟩:=u.there b o e hx;by_cases z:b∈fs
   · obtain⟨sl,q'⟩:=l.slot b _ q z;exact⟨_,q'⟩
   · exact⟨_,l.keep b _ q z (.inl ⟨_,e⟩)⟩
 tups:=u.tups
 frzs:=u.frzs
 tbls:=u.tbls
structure Mid (X:Cx) (H H':Hp) (s:Shared) (h:Heap) (a C:Addr):Prop where
 un:Un (frs X.stack) [] H H' s.heap h
 hok:HOk X.prog X.w H' h
 fly:Fly s.heap h H' a C
section
variable {X:Cx}{pins:zAO}{σ:L2.St}{H H':Hp}{s s':Shared}{a C:Addr}{M:Model}{E:zVP}{Q:Unit->Shared->Prop}
theorem Mid.inv{h:Heap}(m:Mid X H H' s h a C)(I:Inv X pins σ H s)(os:s'.os=s.os)(hg:AllBare s'.gens)(hh:s'.heap=h):Inv X pins σ H' s':=by subst hh;exact I.call' os m.un m.hok hg fun b hb=>absurd hb (by simp)
theorem zq8(m:Mid X H H' s s'.heap a C)(I:Inv X pins σ H s)(os:s'.os=s.os)(hg:AllBare s'.gens)(hst:X.stack=X.env::X.outer/\X.env.frame=some X.env.locals)
   (h:∀h',Mid X H H' s h' a C->Q () { s' with heap:=h' }):wpAny M X.A (leaving X.env (.ref a)) Q E s':=by
 have I1:=m.inv I os hg rfl;have hfr:=I1.ok.frames;have hl:=I1.stack;rw[hst.1]at hfr hl;refine zfc (base:=X.base) (h₀:=s.heap) (H:=H') (L:=X.env.locals) hfr hl hst.2 m.fly (fun b u e=>zbc (m.hok b u e)) (fun b o e=>m.un.there b o e (by simp)) fun h' f1 l1 _=>?_;rw[<-hst.1]at l1;exact h h' ⟨zie m.un l1,zb4 m.hok l1 I1.stkFree,f1⟩
theorem zod{h₁:Heap}{args:List Value}(I:Inv X pins σ H s)(mk:Heap.MadeExcOf s.heap h₁ a (.ref C) args)(hst:X.stack=X.env::X.outer/\X.env.frame=some X.env.locals)
   (h:∀h',Mid X H H s h' a C->Q () { s with heap:=h' }):wpAny M X.A (leaving X.env (.ref a)) Q E { s with heap:=h₁ }:=by
 have I1:Inv X pins σ H { s with heap:=h₁ }:=I.kept (t':=s.toks) mk.keeps;obtain⟨t,he,_⟩:=mk.there;have hu:H a=none:=by
   cases q:H a with
   |none=>rfl
   |some u=>obtain⟨o,z⟩:=zbc (I.hok a u q);rw[mk.new]at z;cases z
 have hfr:=I1.ok.frames;have hl:=I1.stack;rw[hst.1]at hfr hl;refine zdx (base:=X.base) (h₀:=s.heap) (H:=H) (L:=X.env.locals) hfr hl hst.2 he rfl rfl rfl mk.new hu (fun b u e=>zbc (I1.hok b u e)) (fun b o e=>⟨o,mk.keeps b o e⟩) fun h' f1 l1 _=>?_;rw[<-hst.1]at l1;exact h h' ⟨zie (Un.kept mk.keeps) l1,zb4 I1.hok l1 I1.stkFree,f1⟩
theorem zvk{A:Around}(m:Mid X H H' s s'.heap a C)(I:Inv X pins σ H s)(os:s'.os=s.os)(hg:AllBare s'.gens)
   (h:∀h',Mid X H H' s h' a C->Q () { s' with heap:=h' }):wpAny M A (setFlight (.ref a) none) Q E s':=by
 have I1:=m.inv I os hg rfl;obtain⟨oe,vs,T,oT,ts,he,hc,hd,h1,hT0,hTH,hTa,hT,hdT,h3⟩:=m.fly.tr;have h3s:3<ts.size:=(Array.getElem?_eq_some_iff.mp h3).1;unfold setFlight;refine z43 (wpAny_field he hd h1 ?_);rw[z5s (show(Value.ref T != Value.none)=true by simp)];refine wpAny_setField hT hdT h3s (h _ ?_);have oth:∀b,b≠T->(s'.heap.update T (Obj.mapFields (·.setIfInBounds 3 ((none:Option Addr).elim Value.none fun f=>rawInt f)))).get? b=s'.heap.get? b:=fun b hb=>z9g _ _ (z7q hb);have l1:Lft (frs X.stack) s.heap H' a C s'.heap (s'.heap.update T (Obj.mapFields (·.setIfInBounds 3 ((none:Option Addr).elim Value.none fun f=>rawInt f)))):=by
   refine⟨fun b o e nb hb=>?_,fun b o e hb=>?_⟩
   · refine(oth b fun z=>?_).trans e;subst z;rcases hb with⟨_,hb⟩ | ⟨_,hb⟩
     · rw[hT0]at hb;cases hb
     · rw[hTH]at hb;cases hb
   · refine⟨o.slots,(oth b fun z=>?_).trans e⟩;subst z;obtain⟨_,o2,ho2,hnf⟩:=I1.stack.mem hb;rw[hT]at ho2;cases ho2;exact hnf _ hdT
 refine⟨zie m.un l1,zb4 m.hok l1 I1.stkFree,m.fly.new,m.fly.un,oe,vs,T,_,_,(oth a (z7q hTa)).trans he,hc,hd,h1,hT0,hTH,hTa,z9p _ hT (Obj.isFreed_of_fields (Obj.data_mapFields hdT _)),Obj.data_mapFields hdT _,by simp[h3s]⟩
theorem Mid.held{h:Heap}(m:Mid X H H' s h a C):Un (frs X.stack) [] H (upd H' a (.ext (OfCls a C))) s.heap h/\HOk X.prog X.w (upd H' a (.ext (OfCls a C))) h:=by
 have ne:∀{b:Addr}{o:HO},H' b=some o->b≠a:=fun e z=>by subst z;rw[m.fly.un]at e;cases e
 refine⟨⟨m.un.keep,m.un.slot,fun b o e n hx=>?_,m.un.there,fun b xs e=>?_,fun b o u e=>?_,fun b ps e=>?_⟩,fun b u e=>?_⟩
 · rw[qd (fun z=>by subst z;rw[m.fly.new]at e;cases e)];exact m.un.free b o e n hx
 · have q:=m.un.tups b xs e;rw[qd (ne q)];exact q
 · have q:=m.un.frzs b o u e;rw[qd (ne q)];exact q
 · obtain⟨more,q⟩:=m.un.tbls b ps e;exact⟨more,by rw[qd (ne q)];exact q⟩
 · by_cases hb:b=a
   · subst hb;rw[qo]at e;cases e;obtain⟨oe,vs,T,oT,ts,he,hc,hd,_⟩:=m.fly.tr;refine⟨⟨oe,he,hc⟩,⟨oe,he⟩,fun h1 h2 ⟨o,q1,q2⟩ k=>⟨o,k o q1,q2⟩⟩
   · rw[qd hb]at e;refine(m.hok b u e).stay (fun c w hc q=>q) (fun c q=>?_) fun c xs q=>?_
     · rw[qd (ne q)];exact q
     · rw[qd (ne q)];exact q
end
def Cat(K:zFr)(mg:zMg)(c T:Str):Prop :=
 ∃C CT,mg c=some (.ref C)/\mg T=some (.ref CT)/\mroIn K C (.ref CT)=some true/\mroIn K CT (.type "BaseException")=some true/\typeIn K (.ref CT)=some (.type "type")/\(clsIn K CT).isSome=true
section
variable {K:zFr}{A:Around}{E:zVP}{s:Shared}{M:Model}{x C CT:Addr}
theorem zpa{Q:Bool->Shared->Prop}(X:K.In s.heap)(I:OfCls x C s.heap)(h1:mroIn K C (.ref CT)=some true)(h2:mroIn K CT (.type "BaseException")=some true)(h3:typeIn K (.ref CT)=some (.type "type"))(h4:(clsIn K CT).isSome=true)(hq:Q true s) :
   wpAny M A (excMatches (.ref x) (.ref CT)) Q E s:=by
 have L0:=I.type (M:=M);have L1:=looks_mroIn (M:=M) X h1;have L2:=looks_mroIn (M:=M) X h2;have L3:=looks_typeIn (M:=M) X h3;have L4:Looks M s.heap (isInstance (.ref CT) (.type "tuple")) false:=L3.andThen (Looks.of_pure tc_notTuple);have L5:Looks M s.heap (isType (.ref CT)) true:=by
   unfold clsIn at h4;split at h4
   · rename_i ho;intro A' Q' E' s' k q;exact z43 (qae (k _ _ (X _ _ ho)) (z5n q))
   · cases h4
 have L6:Looks M s.heap (isExcClass (.ref CT)) true:=by unfold isExcClass;refine L5.andThen ?_;rw[z5s rfl];exact L2
 obtain⟨hh,g,d,t,os⟩:=s;unfold excMatches;refine z43 (L4.at ?_);simp only[z5e,z6i,pure_bind,z8n,List.forIn_nil,bind_assoc];refine z43 (L6.at ?_);simp only[z7r,z5e,z6i,pure_bind];refine z43 (L0.at ?_);refine z43 (L1.at ?_);simp only[z61,pure_bind];exact z5n hq
end
def zxp(c:C)(r:R)(cat:Str->Bool)(i:Nat)(d:C):C:=fun ev S=>match c ev S with
 |some (.nx e,S1)=>some (.nx e,S1)
 |some (.rt x,S1)=>some (.rt x,S1)
 |some _=>none
 | none=>(r ev S).bind fun p=>if cat p.1=true then (d (ev.set i (some (.obj p.2.length))) (p.2++[.exc p.1])).bind fun q=>(match q.1 with
   | .nx e=>some (.nx (e.set i none),q.2)
   | .rt x=>some (.rt x,q.2)
   |_=>none)else none
theorem EnvR.unset{K mg ρ H}{ev:Ev}{σ:L2.St}(h:EnvR K mg ρ H ev σ)(i:Nat):EnvR K mg ρ H (ev.set i none) (σ.set i none):=by
 refine⟨by rw[z8a,z8a];exact h.len,fun j x q=>?_⟩;by_cases hj:j=i
 · subst hj;have hi:j<ev.length:=by
     have:=(z5b.mp q).1
     rwa [z8a]at this
   rw[z6b hi]at q;cases q
 · rw[z6u (z7q hj)]at q ⊢;exact h.at_ j x q
abbrev Cx.inExc(X:Cx)(v:Option Value)(xe:zVP):Cx:={ X with A:=X.A.mark v,calm:=false,xe:=xe }
section
variable {X:Cx}{pins:zAO}{σ:L2.St}{H H':Hp}{s s':Shared}
theorem Inv.toExc(I:Inv X pins σ H s)(v:Option Value)(xe:zVP):Inv (Cx.inExc X v xe) pins σ H s :=
 ⟨⟨I.ok.mod,I.ok.kind,I.ok.glob,I.ok.blt,I.ok.above,I.ok.inj,I.ok.has,I.ok.cab,(fun h=>nomatch h),I.ok.frames,I.ok.stk,I.ok.exf,I.ok.bs,I.ok.bsz,I.ok.noex,I.ok.exfs,I.ok.funs,I.ok.frf⟩,I.os,I.bare,I.base,I.loc,I.cell,I.free,I.freeC,I.pin,I.hok,I.len⟩
theorem Inv.ofExc{v:Option Value}{xe:zVP}(I:Inv (Cx.inExc X v xe) pins σ H s)(ok:X.Ok):Inv X pins σ H s :=
 ⟨ok,I.os,I.bare,I.base,I.loc,I.cell,I.free,I.freeC,I.pin,I.hok,I.len⟩
variable {body suite:List Stmt}{b0:Stmt}{c d:C}{r:R}{T n:Str}{np pos' pos:Pos}{cat:Str->Bool}{Q:Flow->Shared->Prop}
theorem zff{i:Nat}{H0:Hp}{ρ ρ':List Addr}{ev:Ev}{S1 S':Sto}{o:Out}{cls:Str}{a C:Addr}{D:Ends}(hs:∀v xe,FSs (Cx.inExc X v xe) (b0::suite) d)(hN:X.N.Nodup)(hi:X.N[i]? = some n)(hx:X.env.scope.names.lookup n=some .local)
   (hcat:Cat X.K X.mg cls T) (hg:Gl X T) (hdb:(T==("__debug__":Str))=false) (I:Inv X pins σ H s) (m:Mid X H H' s s'.heap a C) (os:s'.os=s.os) (hb:AllBare s'.gens) (hE:EnvR X.K X.mg ρ H0 ev σ)
   (e1:Ext ρ H0 ρ' H') (hS:StOk X.K X.mg ρ' H' S1) (hC:X.mg cls=some (.ref C))
   (hf:((d (ev.set i (some (.obj S1.length))) (S1++[.exc cls])).bind fun q=>(match q.1 with
     | .nx e=>some (Out.nx (e.set i none),q.2)
     | .rt x=>some (.rt x,q.2)
     |_=>none))=some (o,S')) (k:Post X.K X.mg D S' ρ H0 o) :
   wpAny (model X.prog X.w) X.A (handleBy (.ref a) X.env [.ExceptHandler (some (.Name T np)) (some n) (b0::suite) pos']) (SP X pins D) X.xe s':=by
 obtain⟨C',CT,hc1,hc2,h1,h2,h3,h4⟩:=hcat;rw[hC]at hc1;cases hc1;have I1:=m.inv I os hb rfl;have Im:=Inv.toExc I1 (some (.ref a)) (notedBy (model X.prog X.w) (X.A.mark (some (.ref a))) X.env (cameBackBy (model X.prog X.w) X.A X.env X.xe));have oc:OfCls a C s'.heap:=by obtain⟨oe,vs,T,oT,ts,he,hc,_⟩:=m.fly.tr;exact⟨oe,he,hc⟩
 refine wpAny_handleBy_cons (codeAny_handlers_test (zax (X:=Cx.inExc X (some (.ref a)) _) Im hg hc2 (zpa I1.kIn oc h1 h2 h3 h4 ?_) hdb)) (by intro q;cases q);refine codeAny_handlers_suite_as (zvk m I os hb fun h6 m6=>?_);obtain⟨un6,hok6⟩:=m6.held;have I6:Inv X pins σ (upd H' a (.ext (OfCls a C))) { s' with heap:=h6 }:=I.call' os un6 hok6 hb fun b hb=>absurd hb (by simp);have I6m:=Inv.toExc I6 (some (.ref a)) (AsSuiteRaised (model X.prog X.w) (X.A.mark (some (.ref a))) X.env n pos' (notedBy (model X.prog X.w) (X.A.mark (some (.ref a))) X.env (cameBackBy (model X.prog X.w) X.A X.env X.xe)));refine zc7 (X:=Cx.inExc X (some (.ref a)) _) (v:=.ref a) I6m hN hi (.inl hx) rfl (fun s7 I7=>?_) (.inr hx);obtain⟨⟨o2,S2⟩,q2,hf⟩:=zy hf;have e2:Ext ρ' H' (ρ'++[a]) (upd H' a (.ext (OfCls a C))):=zco hS _ m.fly.un;have hS2:StOk X.K X.mg (ρ'++[a]) (upd H' a (.ext (OfCls a C))) (S1++[.exc cls]):=hS.add m.fly.un ⟨C,hC,qo⟩;have hE2:EnvR X.K X.mg (ρ'++[a]) (upd H' a (.ext (OfCls a C))) (ev.set i (some (.obj S1.length))) (σ.set i (some (.ref a))):=by refine EnvR.set (hE.mono (e1.trans e2)) ?_ i;unfold Rep;refine⟨a,rfl,?_⟩;rw[z5t (by rw[hS.len]<;>exact z44 _),hS.len];simp
 have go:=hs (some (.ref a)) _ pins s7 _ _ { nx:=fun σ' H2=>D.nx (σ'.set i none) H2,rt:=D.rt,bk:=fun _ _=>False,ct:=fun _ _=>False } I7 ⟨_,_,_,o2,S2,hE2,hS2,q2,by
   cases o2 with
   |nx e=>cases hf;exact fun σ' ρ2 H2 x1 x2 x3=>k _ ρ2 H2 ((e1.trans e2).trans x1) x2 (x3.unset i)
   |rt x=>cases hf;exact fun v ρ2 H2 x1 x2 x3=>k v ρ2 H2 ((e1.trans e2).trans x1) x2 x3
   |_=>cases hf⟩
 refine thn go fun f s8 q=>?_;cases f with
 | next=>
   obtain⟨σ8,H8,I8,q⟩:=q;exact zou (Inv.ofExc I8 I.ok) hN hi hx fun s9 I9=>⟨_,H8,I9,q⟩
 | ret u=>
   obtain⟨v,σ8,H8,I8,r8,q⟩:=q;exact zou (Inv.ofExc I8 I.ok) hN hi hx fun s9 I9=>⟨v,_,H8,I9,r8,q⟩
 |brk=>obtain⟨_,_,_,q⟩:=q;exact q.elim
 |cont=>obtain⟨_,_,_,q⟩:=q;exact q.elim
end
section
variable {M:Model}{A:Around}{E:zVP}{s:Shared}{env:Env}
theorem zm5{bd els:Sem Flow}{k₀:ExceptHandler}{ks:List ExceptHandler}{Q:Flow->Shared->Prop}
   (h:wpAny M A bd (fun f s₁=>match f with | .next=>wpAny M A els Q E s₁ | f=>Q f s₁) (fun e s₁=>wpAny M A (leaving env e) (fun _ s₂=>wpAny M A (handleBy e env (k₀::ks)) Q E s₂) E s₁) s) :
   wpAny M A (tryStmt false bd (k₀::ks) els [] env) Q E s:=by
 unfold tryStmt;simp only[List.isEmpty_nil,z61,List.isEmpty_cons,z5e,z6i,qad];refine z43 (z9v (z7c h (fun f s₁ h₁=>?_) fun e s₁ h₁=>?_))
 · cases f<;>first | exact h₁ | exact z5n h₁
 · show wpAny M A (noteFrame e env >>= fun _=>setFlight e none >>= fun _=>handleBy e env (k₀::ks)) Q E s₁;rw[<-bind_assoc];exact z43 h₁
end
section
variable {X:Cx}{body suite:List Stmt}{b0:Stmt}{c d:C}{r:R}{T n:Str}{np pos' pos:Pos}{cat:Str->Bool}
theorem zzy(i:Nat)(hb:∀xe,FSs (X.wish xe) body c)(hr:∀xe,RTs (X.wish xe) body r)(hs:∀v xe,FSs (Cx.inExc X v xe) (b0::suite) d)(hN:X.N.Nodup)(hcat:∀c,cat c=true->Cat X.K X.mg c T)
   (hi:X.N[i]? = some n:=by rfl) (hx:X.env.scope.names.lookup n=some .local:=by rfl) (hst:X.stack=X.env::X.outer/\X.env.frame=some X.env.locals:=by exact⟨rfl,rfl⟩) (hg:Gl X T:=by rfl) (hdb:(T==("__debug__":Str))=false:=by decide) :
   FS X (.Try body [.ExceptHandler (some (.Name T np)) (some n) (b0::suite) pos'] [] [] pos) (zxp c r cat i d):=by
 intro pins s σ H D I t;obtain⟨ρ,ev,S,o,S',hE,hS,hf,k⟩:=t;rw[arm_exec_Try];refine z43 (wpAny_standAt (zm5 ?_));generalize hW:(fun e s₁=>wpAny (model X.prog X.w) X.A (leaving X.env e) (fun _ s₂=>wpAny (model X.prog X.w) X.A (handleBy e X.env [.ExceptHandler (some (.Name T np)) (some n) (b0::suite) pos']) (SP X pins D) X.xe s₂) X.xe s₁)=W;unfold zxp at hf;split at hf
 · rename_i e1 S1 q;cases hf;refine thn (hb W pins s σ H { nx:=D.nx,rt:=fun _ _=>False } (I.wish W) ⟨ρ,ev,S,.nx e1,_,hE,hS,q,k⟩) fun f s1 z=>?_;cases f with
   | next=>
     obtain⟨σ1,H1,I1,z⟩:=z;exact z9y ⟨σ1,H1,I1.unwish,z⟩
   |ret u=>obtain⟨_,_,_,_,_,z⟩:=z;exact z.elim
   |brk=>obtain⟨_,_,_,z⟩:=z;exact z.elim
   |cont=>obtain⟨_,_,_,z⟩:=z;exact z.elim
 · rename_i x1 S1 q;cases hf;refine thn (hb W pins s σ H { nx:=fun _ _=>False,rt:=D.rt } (I.wish W) ⟨ρ,ev,S,.rt x1,_,hE,hS,q,k⟩) fun f s1 z=>?_;cases f with
   |next=>obtain⟨_,_,_,z⟩:=z;exact z.elim
   | ret u=>
     obtain⟨v,σ1,H1,I1,r1,z⟩:=z;exact⟨v,σ1,H1,I1.unwish,r1,z⟩
   |brk=>obtain⟨_,_,_,z⟩:=z;exact z.elim
   |cont=>obtain⟨_,_,_,z⟩:=z;exact z.elim
 · cases hf
 · obtain⟨⟨cls,S1⟩,q1,hf⟩:=zy hf;dsimp only at hf;split at hf
   · rename_i hc;have ct:=hcat cls hc;obtain⟨C,CT,hC,_⟩:=id ct;refine hr W pins s σ H (fun e oC H'=>∃ρ',oC=some C/\Ext ρ H ρ' H'/\StOk X.K X.mg ρ' H' S1) _ ?_ (I.wish W) ⟨ρ,ev,S,cls,S1,hE,hS,q1,C,hC,fun e ρ' H' x1 x2=>⟨ρ',rfl,x1,x2⟩⟩;subst hW;refine⟨fun {H1 s1 a C1 h₁ args} I1 mk hE1=>?_,fun {H1 s1 e s2} I1 hx1=>?_⟩
     · obtain⟨ρ',rfl',x1,x2⟩:=hE1;cases rfl';exact zod I1.unwish mk hst fun h' m=>zff hs hN hi hx ct hg hdb I1.unwish m rfl I1.bare hE x1 x2 hC hf k
     · obtain⟨a,C1,H',rfl,os,bare,un,hok,fl,ρ',rfl',x1,x2⟩:=hx1;cases rfl';exact zq8 ⟨un,hok,fl⟩ I1.unwish os bare hst fun h' m=>zff hs hN hi hx ct hg hdb I1.unwish m os bare hE x1 x2 hC hf k
   · cases hf
end
def zsb:List Value:=[.type "ValueError",.type "Exception",.type "BaseException",.type "object"]
theorem zjz{K:zFr}:∀{l:List Value},tailIn K zsb l=true->l.contains (.type "BaseException")=true
 | [],e=>by cases(z71.mp e)
 | v::r,e=>by
   unfold tailIn at e;rcases Bool.or_eq_true_iff.mp e with q | q
   · rw[z71.mp q];decide +kernel
   · split at q
     · split at q
       · simp only[z6l,z71]at q;rw[List.contains_cons,zjz q.2,Bool.or_true]
       · cases q
     · cases q
theorem z0c{K:zFr}{mg:zMg}{c:Str}{C:Addr}(hm:mg c=some (.ref C))(q:excIn K C zsb "ValueError.__new__"=true):ExcCls K mg c:=by
 unfold excIn at q;split at q
 · rename_i dd cd sl ho;split at q
   · rename_i C' bm k0 k1 k2 k3 n k5 hmro hs;simp only[z6l,z71,Bool.not_eq_true']at q;obtain⟨⟨⟨⟨⟨rfl,rfl⟩,hdel⟩,ht⟩,hok⟩,hni⟩:=q;obtain⟨nm,bs,mro,ns,qn,hd,sn,sub,ab,col,del⟩:=cd;dsimp only at hmro hdel hok hni;subst hmro;subst hdel;have hsl:sl=#[k0,k1,k2,k3,some (.builtin "ValueError.__new__"),k5]:=by
       cases sl with
       |mk l=>simp only at hs;subst hs;rfl
     subst hsl;unfold nsOkIn at hok;split at hok
     · rename_i oc od es ep osl hN;have hk:StrKeys es:=fun e he=>by
         have z:=Array.all_eq_true_iff_forall_mem.mp hok e he;cases hkey:e.key with
         |str n t=>exact⟨n,t,rfl⟩
         |_=>rw[hkey]at z;cases z
       have hi:nsFind es "__init__"=none:=by
         unfold nsIn at hni;rw[hN]at hni;dsimp only at hni;split at hni
         · cases hni
         · rename_i he;unfold nsFind findBy;rw[<-Array.find?_toList,he];rfl
       refine⟨_,ns,nm,qn,bs,bm,zsb,hd,sn,sub,ab,col,dd,k0,k1,k2,k3,k5, "ValueError", "ValueError.__new__", "ValueError.__init__",nsFind es,hm,PySem.F.excBase_ValueError,?_,hi,fun h X=>⟨X _ _ ho,⟨_,es,ep,X _ _ hN,rfl,hk,fun _=>rfl⟩,tail_of_in X ht⟩⟩;exact zjz ht
     · cases hok
   · cases q
 · cases q
def ExcI(K:zFr)(mg:zMg)(c:Str):Prop:=∃C,mg c=some (.ref C)/\ExcIs K C/\kitOne K (.ref C) (.type "ValueError")=some true
def IsF(K:zFr)(mg:zMg)(c d:Str)(b:Bool):Prop:=∃C D,mg c=some (.ref C)/\mg d=some (.ref D)/\kitOne K (.ref C) (.ref D)=some b
structure Up where
 raised:List Str
 asked:List Str
def Up.is(u:Up)(c d:Str):Option Bool:=if c∈u.raised/\d∈u.asked then some (decide (d=c\/d="ShelfError"))else none
def zv4:List D->Option (List Str)
 | []=>some []
 | .fn d::r=>(zv4 r).map (d::·)
 |_=>none
def Up.any(u:Up)(c:Str):List Str->Option Bool
 | []=>some false
 |d::r=>(u.is c d).bind fun b=>if b=true then some true else u.any c r
def Up.ask(u:Up)(c:Str):D->Option Bool
 | .fn d=>u.is c d
 | .ty n=>if c∈u.raised/\n="ValueError" then some true else none
 | .tup ds=>if c∈u.raised then (zv4 ds).bind (u.any c)else none
 |_=>none
def zth(u:Up)(S:Sto):List D->Option D
 | [.obj i,d]=>match S[i]? with
   |some (.exc c)=>(u.ask c d).map .bl
   |_=>none
 |_=>none
def Up.cat(u:Up)(c:Str):Bool:=decide (c∈u.raised)
structure UpOk (K:zFr) (mg:zMg) (u:Up):Prop where
 ct:∀c∈u.raised,Cat K mg c "ShelfError"
 ei:∀c∈u.raised,ExcI K mg c
 is_:∀c∈u.raised,∀d∈u.asked,IsF K mg c d (decide (d=c\/d="ShelfError"))
section
variable {X:Cx}{e:Expr}{es:List Expr}{g:As}{p pos:Pos}{u:Up}
def z3j(K:zFr)(mg:zMg):List V->Hp->VK->Prop:=fun xs H Q=>∃a C b y,xs=[.ref a,y]/\H a=some (.ext (OfCls a C))/\ExcIs K C /\
 ((∃w,RelV y w/\(∀w',RelV y w'->w'=w)/\kitOne K (.ref C) w=some b)\/(∃q ys its,y=.ref q/\SqT K H q ys/\Vals ys its/\(∀its',Vals ys its'->its'=its)/\kitAny K (.ref C) its=some b))/\Q (.bl b) H
theorem zr4:CallR X (.builtin "isinstance") (z3j X.K X.mg):=by
 intro pins s σ H xs us Q I r h;obtain⟨a,C,b,y,rfl,ha,hz,hk,q⟩:=h;obtain⟨u1,u2,rfl,r1,r2⟩:∃u1 u2,us=[u1,u2]/\RelV (.ref a) u1/\RelV y u2:=by
   cases r with
   | cons p q=>
     cases q with
     |cons p' q'=>cases q';exact⟨_,_,rfl,p,p'⟩
 cases(show u1=Value.ref a from r1);have oc:OfCls a C s.heap:=(I.hok a _ ha).1;rcases hk with⟨w,rw_,un,hk⟩ | ⟨q',ys,its,rfl,sq,vs,un,hk⟩
 · rw[un _ r2];exact kia_one (zkm hz) I.kIn oc hk (fun z=>nomatch z) fun tk=>⟨.bl _,H,I.tok tk,rfl,q⟩
 · cases(show u2=Value.ref q' from r2);obtain⟨its2,v2,⟨o,h1,h2,h3⟩,_⟩:=I.tuple sq;rw[un _ v2]at h3;obtain⟨oc',od,odt,osl⟩:=o;obtain⟨n,h3⟩:=h3;dsimp only at h2 h3;subst h2;subst h3;exact kia_tup (zkm hz) I.kIn oc h1 hk (fun z=>nomatch z) fun tk=>⟨.bl _,H,I.tok tk,rfl,q⟩
theorem ztj{K:zFr}{mg:zMg}{ρ:List Addr}{H:Hp}:∀{ds:List D}{xs:List Str}{ys:List V},zv4 ds=some xs->RepL K mg ρ H ds ys->∃as:List Addr,ys=as.map V.ref/\xs.map mg=as.map fun a=>some (Value.ref a)
 | [],xs,ys,e,r=>by unfold RepL at r;subst r;cases e;exact⟨[],rfl,rfl⟩
 | d::ds,xs,ys,e,r=>by
   unfold RepL at r;obtain⟨v,r',rfl,h1,h2⟩:=r;cases d with
   | fn d=>
     obtain⟨l,e1,e2⟩:=zaq e;subst e2;unfold Rep at h1;obtain⟨A,rfl,hA⟩:=h1;obtain⟨as,q1,q2⟩:=ztj e1 h2;exact⟨A::as,by rw[q1];rfl,by rw[z5j,z5j,hA,q2]⟩
   |_=>cases e
theorem zbx:∀(as:List Addr),Vals (as.map V.ref) (as.map Value.ref)/\∀its,Vals (as.map V.ref) its->its=as.map Value.ref
 | []=>⟨.nil,fun its h=>by cases h;rfl⟩
 | a::as=>⟨.cons rfl (zbx as).1,fun its h=>by
   cases h with
   |cons p q=>rw[(zbx as).2 _ q,show _=Value.ref a from p];rfl⟩
theorem zt5{K:zFr}{mg:zMg}(h:UpOk K mg u){c:Str}{C:Addr}(hc:c∈u.raised)(hC:mg c=some (.ref C)):∀{xs:List Str}{as:List Addr}{b:Bool},xs.map mg=(as.map fun a=>some (Value.ref a))->u.any c xs=some b ->
   kitAny K (.ref C) (as.map Value.ref)=some b
 | [],as,b,q,e=>by
   cases as with
   |nil=>cases e;rfl
   |cons _ _=>cases q
 | d::xs,as,b,q,e=>by
   cases as with
   |nil=>cases q
   | cons A as=>
     rw[z5j,z5j,z7k]at q;obtain⟨b1,e1,e2⟩:=zy e;unfold Up.is at e1;split at e1
     · rename_i hz;obtain⟨C',D',x1,x2,x3⟩:=h.is_ c hc d hz.2;rw[hC]at x1;cases x1;rw[q.1]at x2;cases x2;rw[z58 e1]at x3;unfold List.map kitAny;rw[x3];cases b1 with
       |true=>rw[z5s rfl]at e2;exact e2
       |false=>rw[z5y (by decide)]at e2;exact zt5 h hc hC q.2 e2
     · cases e1
theorem zur{K:zFr}{mg:zMg}(h:UpOk K mg u):zwq K mg (z3j K mg) (zth u):=by
 intro ρ H S xs ds d Q hS r e k;unfold zth at e;split at e
 · rename_i i d';split at e
   · rename_i c hi;obtain⟨b,e1,e2⟩:=zaq e;subst e2;obtain⟨v,w,rfl,r1,r2⟩:=two r;unfold Rep at r1;obtain⟨a,rfl,ha⟩:=r1;obtain⟨C,hC,hH⟩:=hS.ob i _ a hi ha;unfold Up.ask at e1;split at e1
     · rename_i dn;unfold Rep at r2;obtain⟨A,rfl,hA⟩:=r2;unfold Up.is at e1;split at e1
       · rename_i hz;obtain⟨C',D',x1,x2,x3⟩:=h.is_ c hz.1 dn hz.2;rw[hC]at x1;cases x1;rw[hA]at x2;cases x2;rw[z58 e1]at x3;obtain⟨C',y1,y2,_⟩:=h.ei c hz.1;rw[hC]at y1;cases y1;exact⟨a,C,b,_,rfl,hH,y2,.inl ⟨.ref A,rfl,fun _ z=>z,x3⟩,k _ H (Ext.refl _ _) hS rfl⟩
       · cases e1
     · rename_i n;split at e1
       · rename_i hz;cases e1;obtain⟨C',y1,y2,y3⟩:=h.ei c hz.1;rw[hC]at y1;cases y1;rw[show w=.ty n from r2,hz.2];exact⟨a,C,true,_,rfl,hH,y2,.inl ⟨.type "ValueError",rfl,fun _ z=>z,y3⟩,k _ H (Ext.refl _ _) hS rfl⟩
       · cases e1
     · rename_i ds';split at e1
       · rename_i hz;obtain⟨xs,e1,e2⟩:=zy e1;obtain⟨p,vs,rfl,tt,rl⟩:=r2.refT;obtain⟨as,q1,q2⟩:=ztj e1 rl;obtain⟨C',y1,y2,y3⟩:=h.ei c hz;rw[hC]at y1;cases y1;refine⟨a,C,b,_,rfl,hH,y2,.inr ⟨p,vs,as.map Value.ref,rfl,tt.sq,?_,?_,zt5 h hz hC q2 e2⟩,k _ H (Ext.refl _ _) hS rfl⟩
         · rw[q1];exact(zbx as).1
         · rw[q1];exact(zbx as).2
       · cases e1
     · cases e1
   · cases e
 · cases e
theorem zo8(h:UpOk X.K X.mg u)(hm:X.mg "isinstance"=none)(ha:FA X (e::es) g)(hg:Gl X "isinstance":=by rfl)(he:starEach (e::es) X.env=(false,eval e X.env)::starEach es X.env:=by exact z9 rfl)(hpl:(backTo pos (starEach es X.env)).any (·.1)=false:=by exact qx rfl) :
   FE X (.Call (.Name "isinstance" p) (e::es) [] pos) (eA (zth u) g) :=
 zho zr4 (zur h) hm (by with_unfolding_all rfl) ha hg (by decide) (by decide) he hpl
end
section
variable {K:zFr}{mg:zMg}{h:Heap}
theorem zk6{C:Addr}(h8:hasDictIn K C=true):(clsIn K C).isSome=true:=by obtain⟨cd,hc,_⟩:=any_some h8;rw[hc];rfl
theorem has_exc(KX:K.In h)(G:h.Ns mainGlobals mg){c:Str}{C:Addr}(a:nsIn K mainGlobals c=some (some (.ref C)))(q:excIn K C zsb "ValueError.__new__"=true):ExcCls K mg c:=z0c (mg_of KX G a) q
theorem has_ei(KX:K.In h)(G:h.Ns mainGlobals mg){c:Str}{C:Addr}(a:nsIn K mainGlobals c=some (some (.ref C)))(h1:findIn K (.ref C) "__getattribute__"=some (some (.builtin "BaseException.__getattribute__")))(h2:findIn K (.ref C) "__getattr__"=some none)
   (h3:findIn K (.ref C) "__class__"=some (some (.builtin "object.__class__"))) (h4:specialIn K (.builtin "object.__class__") "__get__"=some (some (.builtin "getset_descriptor.__get__"))) (h5:takesIn K (.builtin "object.__class__")=some true) (h6:mroIn K C (.type "object")=some true)
   (h7:mroIn K C (.type "BaseException")=some true) (h8:hasDictIn K C=true) (h9:kitOne K (.ref C) (.type "ValueError")=some true):ExcI K mg c:=⟨C,mg_of KX G a,⟨h1,h2,h3,h4,h5,h6,h7,zk6 h8⟩,h9⟩
theorem has_is(KX:K.In h)(G:h.Ns mainGlobals mg){c d:Str}{C D:Addr}{b:Bool}(a:nsIn K mainGlobals c=some (some (.ref C)))(a':nsIn K mainGlobals d=some (some (.ref D)))(q:kitOne K (.ref C) (.ref D)=some b):IsF K mg c d b:=⟨C,D,mg_of KX G a,mg_of KX G a',q⟩
theorem has_cat(KX:K.In h)(G:h.Ns mainGlobals mg){c d:Str}{C D:Addr}(a:nsIn K mainGlobals c=some (some (.ref C)))(a':nsIn K mainGlobals d=some (some (.ref D)))(h1:mroIn K C (.ref D)=some true)(h2:mroIn K D (.type "BaseException")=some true)
   (h3:typeIn K (.ref D)=some (.type "type")) (h4:hasDictIn K D=true):Cat K mg c d:=⟨C,D,mg_of KX G a,mg_of KX G a',h1,h2,h3,zk6 h4⟩
theorem has_val(KX:K.In h)(G:h.Ns mainGlobals mg){c:Str}{C:Addr}(a:nsIn K mainGlobals c=some (some (.ref C))):∃f,mg c=some (.ref f):=⟨C,mg_of KX G a⟩
theorem is_of{c d:Str}{b:Bool}(h:IsF K mg c d b)(e:b=decide (d=c\/d="ShelfError"):=by decide +kernel):IsF K mg c d (decide (d=c\/d="ShelfError")):=e▸h
theorem all_nil{P:Str->Prop}:∀x∈([]:List Str),P x:=fun _ h=>nomatch h
theorem all_cons{P:Str->Prop}{a:Str}{l:List Str}(h:P a)(t:∀x∈l,P x):∀x∈a::l,P x:=fun x hx=>by
 rcases z5p.mp hx with rfl | hx
 · exact h
 · exact t x hx
theorem UpOk.cat{u:Up}(h:UpOk K mg u):∀c,u.cat c=true->Cat K mg c "ShelfError":=fun c e=>h.ct c (z7e e)
theorem boot_ValueError:bootBuiltins "ValueError"=some (.type "ValueError"):=by with_unfolding_all rfl
end
section
variable {P:Program}{w:World}{K:zFr}{mg:zMg}{base:Heap}{x c m qual:Str}{st:Stmt}{N ps:List Str}{k:Nat}{r:R}
def z28(P:Program)(w:World)(K:zFr)(mg:zMg)(base:Heap)(N:List Str)(qual:Str)(st:Stmt)(k:Nat)(r:R):Prop :=
 ∀(f:Addr) (cdv:Value) (A:Around) (outer:List Env) (s:Shared) (H:Hp) (E:XK),Room k (A.deeper (envOfC qual (zk st) s.heap.objs.size f cdv))->RSs (zcd (CX1 P w) P w K mg base N qual (zk st) f cdv A outer s H E) (jo st) r
theorem HasDef.rcal(h:HasDef K mg x st 0)(S:FnScope N ps (zk st))(hb:zws x x st ps)(hbody:z28 P w K mg base N x st k r):RCal P w K mg base (k+1) x (zh1 N.length ps.length r):=by obtain⟨f,fd,dV,F,hm,rfl⟩:=h.ex;exact⟨f,fd,ps,[],[],[],_,F.rok S fun cdv A outer s H E hr=>hbody f cdv A outer s H E hr,hm,F.kp,F.binds0 hb,.nil,fun _ _=>RepL.nil,fun args S r e=>by rw[z50];exact e⟩
end
def zcg(x:Str)(lo hi:Option Int):Str:=if((Builtin.Str.strSliceIndices lo hi 1 x.length).length==x.length)=true then x else ⟨((Builtin.Str.strSliceIndices lo hi 1 x.length).filterMap (x.cps[·]?)).toArray⟩
def zyu:D->Option Int->Option Int->Option D
 | .str x,lo,hi=>if(zcg x lo hi).length<=sizeLine then some (.str (zcg x lo hi))else none
 |_,_,_=>none
def z1c(f:E)(a b:Pt):E:=fun ev S=>(f ev S).bind fun p=>(a ev p.2).bind fun q=>(b ev q.2).bind fun r=>(zyu p.1 q.1 r.1).map fun d=>(d,r.2)
section
variable {X:Cx}{K:zFr}{mg:zMg}{e a b:Expr}{es:List Expr}{f g:E}{ga:As}{p pos:Pos}
def z4i:V->Option Int->Option Int->Hp->VK->Prop:=fun x lo hi H Q=>∃z,x=.str z/\(zcg z lo hi).length<=sizeLine/\Q (.str (zcg z lo hi)) H
theorem zxh:SlR X z4i:=by
 intro pins s σ H x v vl vu lo hi sl Q I rx hs pl pu h;obtain⟨z,rfl,hz,q⟩:=h;obtain⟨t,rfl⟩:=rx;have hp:∀{v:Value}{o:Option Int},IsPart v o->∃l:Option (Int×Tok),v=partValue l/\l.map (·.1)=o:=fun h=>by
   cases h with
   |none=>exact⟨none,rfl,rfl⟩
   |int i t=>exact⟨some (i,t),rfl,rfl⟩
 obtain⟨l,rfl,rfl⟩:=hp pl;obtain⟨u,rfl,rfl⟩:=hp pu;refine⟨"str",_,PySem.F.slot_str_getitem.lookup,typeIs_str s z t,?_⟩;refine wpAny_getItem_str_slice (l:=l) (u:=u) (st:=none) hs rfl ?_;unfold sliceMade;by_cases c:((slicePicked z l u none).length==z.length)=true
 · rw[z5s (by rw[c];rfl)];have e:zcg z (l.map (·.1)) (u.map (·.1))=z:=z5s c;rw[e]at q;exact⟨.str z,H,I,⟨t,rfl⟩,q⟩
 · rw[z5y (fun w=>c (by simpa using w))];have e:zcg z (l.map (·.1)) (u.map (·.1))=⟨((slicePicked z l u none).filterMap (z.cps[·]?)).toArray⟩:=z5y c;rw[e]at q hz;exact⟨hz,.str _,H,I.tok _,⟨_,rfl⟩,q⟩
theorem zo5{lo hi:Option Expr}{u w:Pt}{p2:Pos}(ha:FE X a f)(hl:FPt X lo u)(hh:FPt X hi w):FE X (.Subscript a (.Slice lo hi none p2) pos) (z1c f u w) :=
 jf (zkc zxh ha hl hh) fun σ H Q h=>by
   obtain⟨ρ,ev,S,d,S',hE,hS,hf,k⟩:=h;obtain⟨⟨x,S1⟩,q1,hf⟩:=zy hf;obtain⟨⟨lo,S2⟩,q2,hf⟩:=zy hf;obtain⟨⟨hi,S3⟩,q3,hf⟩:=zy hf;obtain⟨z,q4,hf⟩:=zaq hf;cases hf;refine⟨ρ,ev,S,x,S1,hE,hS,q1,fun v ρ1 H1 E1 hS1 r1=>⟨ρ1,ev,S1,lo,S2,hE.mono E1,hS1,q2,fun ρ2 H2 E2 hS2=>⟨ρ2,ev,S2,hi,_,(hE.mono E1).mono E2,hS2,q3,fun ρ3 H3 E3 hS3=>?_⟩⟩⟩;have r3:=(r1.mono E2).mono E3;have E:=(E1.trans E2).trans E3;cases x with
   | str y=>
     replace q4:(if(zcg y lo hi).length<=sizeLine then some (D.str (zcg y lo hi))else none)=some d:=q4;split at q4
     · rename_i hn;cases q4;exact⟨y,r3.refS,hn,k _ _ _ E hS3 rfl⟩
     · cases q4
   |_=>cases q4
end
theorem zr0{c:Addr}{q:Str}(h1 h2:Heap)(p:yw c q h1)(k:∀o,h1.get? c=some o->h2.get? c=some o):yw c q h2:=by obtain⟨c',o,vs,t,e,h,r⟩:=p;cases e;exact⟨_,o,vs,t,rfl,k _ h,r⟩
theorem zr1{c:Addr}{q:Str}{h:Heap}(p:yw c q h):∃o,h.get? c=some o:=by obtain⟨c',o,vs,t,e,h,r⟩:=p;cases e;exact⟨_,h⟩
theorem zmp{p:Pos}{a b:Int}{cv x:Value}(l:List Value)(h:TriplesOk l):codeAmong p (l++[rawInt a,rawInt b,cv])=some x->codeAmong p l=some x\/x=cv:=by
 fun_induction TriplesOk l with
 | case1=>
   intro e;simp only[List.nil_append,rawInt,codeAmong]at e;split at e
   · exact .inr (z58 e).symm
   · cases e
 | case2 i t j u c rest ih=>
   intro e;simp only[List.cons_append,codeAmong]at e ⊢;split at e
   · rename_i z;rw[z5s z];exact .inl e
   · rename_i z;rw[z5y z];exact ih h e
 |case3=>exact h.elim
section
variable {X:Cx}{pins:zAO}{σ:L2.St}{H:Hp}{s:Shared}
theorem zoo{P c:Addr}{ps more:Array Value}{q:Str}{h':Heap}{tk:Nat}(I:Inv X pins σ H s)(hP:H P=some (.tbl ps))(hx:Heap.ExtBut P s.heap h')(ht:h'.get? P=some (tabObj (ps++more)))(hge:s.heap.objs.size<=c)(hc:yw c q h') :
   Inv X pins σ (upd (upd H P (.tbl (ps++more))) c (.ext (yw c q))) { s with heap:=h',toks:=tk }:=by
 have hn:H c=none:=I.hok.fresh hge;have hPc:P≠c:=z5q (z45 (I.hok.lt hP) hge);have neP:∀b,H b=none->b≠P:=fun b n z=>by rw[z,hP]at n;cases n
 have nec:∀b u,H b=some u->b≠c:=fun b u e z=>by rw[z,hn]at e;cases e
 have kp:∀b o,s.heap.get? b=some o->b≠P->h'.get? b=some o:=fun b o e n=>hx b o n e;have keepH:∀b u,H b=some u->(∀ps,u≠.tbl ps)->upd (upd H P (.tbl (ps++more))) c (.ext (yw c q)) b=some u:=fun b u e n=>by rw[qd (nec b u e),qd (fun z=>by rw[z,hP]at e;cases e;exact n ps rfl)];exact e
 refine I.un ⟨fun b o e n _ _=>kp b o e (neP b n),fun b o e n _ _=>⟨o.slots,kp b o e (neP b n)⟩,fun b o e n _=>?_,fun b o e _=>?_,fun b xs e=>keepH b _ e (fun _ z=>by cases z),fun b o u e=>keepH b _ e (fun _ z=>by cases z),fun b qs e=>?_⟩ fun b u e=>?_
 · have hb:b<s.heap.objs.size:=z5l e;rw[qd (z5q (z45 hb hge)),qd (neP b n)];exact n
 · by_cases z:b=P
   · exact⟨_,z▸ht⟩
   · exact⟨o,kp b o e z⟩
 · by_cases z:b=P
   · subst z;rw[hP]at e;cases e;exact⟨more,by rw[qd hPc,qo]⟩
   · exact⟨#[],by rw[qd (nec b _ e),qd z,e];simp⟩
 · by_cases zc:b=c
   · subst zc;rw[qo]at e;cases e;exact⟨hc,zr1 hc,fun h1 h2 p k=>zr0 h1 h2 p k⟩
   · rw[qd zc]at e;by_cases z:b=P
     · subst z;rw[qo]at e;cases e;exact ht
     · rw[qd z]at e;refine(I.hok b u e).stay (fun d o hd w=>?_) (fun d w=>keepH d _ w fun _ y=>by cases y) fun d xs w=>keepH d _ w fun _ y=>by cases y
       refine kp d o w fun y=>?_;rcases hd with rfl | hd
       · exact z y
       · rw[y,hP]at hd;cases hd
theorem zop{t:LT}{c:Addr}{pm ct:Value}{h':Heap}{tk:Nat}(I:Inv X pins σ H s)(hk:∀b o,s.heap.get? b=some o->h'.get? b=some o)(hsz:s.heap.objs.size<=h'.objs.size) :
   Inv X pins σ (upd H h'.objs.size (.ext (zte t h'.objs.size c pm ct))) { s with heap:=h'.push (kla_obj "<lambda>" t.qual t.params t.body t.scope t.cl pm c ct),toks:=tk }:=by
 refine I.laid (t':=tk) (fun b o e=>z48 _ (hk b o e)) hsz ?_;refine⟨z53 _ rfl,⟨_,z53 _ rfl⟩,fun h1 h2 p k=>k _ p⟩
end
def ztt(j:Nat)(x:Str)(t:LT):E:=fun _ S=>match S[j]? with
 |some (.tab x' q)=>if x'=x/\q=t.qual then some (.lam t,S)else none
 |_=>none
def zcc(K:Frag)(mg:zMg)(x:Str)(cdv:Value):Prop:=∃(f:Addr) (o:Obj) (fd:FuncData),mg x=some (.ref f)/\K.lookup f=some o/\o.data=.func fd/\fd.code=cdv
def zms(base:Heap)(mg:zMg):Prop:=∃(bm:Addr) (o:Obj),mg "__builtins__"=some (.ref bm)/\bm≠builtinsNs/\bm≠mainGlobals/\base.get? bm=some o/\o.cls=.type "module"/\o.dict=some builtinsNs/\o.data=.plain
section
variable {X:Cx}{x:Str}{params:Arguments}{body:Expr}{scope:Scope}{pos:Pos}
theorem zj0{K mg ρ H}{S:Sto}(hS:StOk K mg ρ H S){j:Nat}{P c:Addr}{x q:Str}{ps:Array Value}{a b:Int}(hj:S[j]? = some (.tab x q))(hP:ρ[j]? = some P)(hps:H P=some (.tbl ps))(hn:H c=none) :
   Ext ρ H ρ (upd (upd H P (.tbl (ps++#[rawInt a,rawInt b,.ref c]))) c (.ext (yw c q)))/\StOk K mg ρ (upd (upd H P (.tbl (ps++#[rawInt a,rawInt b,.ref c]))) c (.ext (yw c q))) S:=by
 have cf:c∉ρ:=hS.fresh hn;have hPc:P≠c:=fun z=>cf (z▸z51 hP);have e0:Ext ρ H ρ (upd (upd H P (.tbl (ps++#[rawInt a,rawInt b,.ref c]))) c (.ext (yw c q))) :=
   ⟨fun _ _ e=>e,fun d u e n=>by
     rw[qd (a:=c) (fun(z:d=c)=>by rw[z,hn]at e;cases e),qd (a:=P) (fun(z:d=P)=>n (by rw[z];exact z51 hP))];exact e,fun _ z n=>absurd z n⟩
 refine⟨e0,hS.len,hS.nd,fun i m d e1 e2=>?_⟩;by_cases hi:i=j
 · subst hi;rw[hj]at e1;cases e1;rw[hP]at e2;cases e2;obtain⟨T,ps',h1,h2,h3⟩:=hS.ob i _ P hj hP;rw[hps]at h1;cases h1;refine⟨T,_,by rw[qd hPc,qo],by rw[z59];exact TriplesOk_snoc a b _ _ h2,fun pos cv z=>?_⟩;rw[z59]at z;rcases zmp _ h2 z with y | y
   · obtain⟨c',z1,z2,z3⟩:=h3 pos cv y;exact⟨c',z1,z2,e0.keep _ _ z3 z2⟩
   · exact⟨c,y,cf,qo⟩
 · have q:=hS.ob i m d e1 e2;obtain⟨u,z⟩:=q.some;exact q.mono e0 (by rw[qd (a:=c) (fun(y:d=c)=>by rw[y,hn]at z;cases z),qd (a:=P) (fun(y:d=P)=>hi (zke hS.nd (by rw[e2,y]) hP))])
theorem zo7(j:Nat){caps:List Str}{cl:zLA}(hcd:zcc X.K X.mg x X.env.code)(hb:zms X.base X.mg)(hcl:closureFor scope X.env=pure cl)(hdef:defaultsOf params X.env=([],[]):=by rfl) :
   FE X (.Lambda params body scope pos) (ztt j x ⟨params,body,scope,X.env.qual++"<lambda>",caps,cl⟩):=by
 intro pins s σ H Q I h;obtain⟨ρ,ev,S,d,S',hE,hS,hf,k⟩:=h;unfold ztt at hf;split at hf
 · rename_i x' q hj;split at hf
   · rename_i hxq;obtain⟨rfl,rfl⟩:=hxq;cases hf;obtain⟨P,hP,T,ps,hps,htr,hcs⟩:=hS.adr hj;obtain⟨f1,o1,fd1,c1,e1,e2,e3,e4,e5⟩:=T;obtain⟨f2,o2,fd2,g1,g2,g3,g4⟩:=hcd;rw[e1]at g1;cases g1;rw[e2]at g2;cases g2;rw[e3]at g3;cases g3;have hcode:X.env.code=.ref c1:=g4.symm.trans e4;have C:CodeHd s.heap c1 P:=codeHd_of_K I.kIn e5;have hPt:s.heap.get? P=some (tabObj ps):=I.hok P _ hps;have bs:=I.bs;have nP:∀b o,X.base.get? b=some o->b≠P:=fun b o e z=>by have:=(bs b o e).2;rw[z,hps]at this;cases this
     have hg:s.heap.Ns mainGlobals X.mg:=by obtain⟨o,es,ep,ho,r⟩:=I.mod.glob;exact⟨o,es,ep,I.bk _ _ ho,r⟩
     have hgP:mainGlobals≠P:=by obtain⟨o,es,ep,ho,r⟩:=I.mod.glob;exact nP _ _ ho
     obtain⟨bm,ob,b1,b2,b3,b4,b5,b6,b7⟩:=hb;have hBA:s.heap.BuiltinsAt X.mg P:=⟨bm,ob,b1,b2,b3,nP _ _ b4,I.bk _ _ b4,b5,b6,b7⟩
     refine kla_eval hdef ?_;cases hca:codeAmong pos ps.toList with
     | none=>
       refine kla_makeFunction hcl I.ok.glob hg hcode C hPt htr hca hgP hBA fun c' ctv h' tk hx hge hlt hrec htb=>?_;have hn:H c'=none:=I.hok.fresh hge;have I1:=zoo (q:=X.env.qual++"<lambda>") (tk:=tk) I hps hx htb hge hrec;have I2:=zop (t:=⟨params,body,scope,X.env.qual++"<lambda>",caps,cl⟩) (c:=c') (pm:=(X.mg "__name__").getD .none) (ct:=ctv) (h':=h') (tk:=tk) I1 (fun _ _ e=>e) (z44 _);obtain⟨E1,S1⟩:=zj0 (a:=pos.line) (b:=pos.col) hS hj hP hps hn;have hf:=I1.hok.fresh (a:=h'.objs.size) (z44 _);have E2:=jh S1 (.ext (zte ⟨params,body,scope,X.env.qual++"<lambda>",caps,cl⟩ h'.objs.size c' ((X.mg "__name__").getD .none) ctv)) hf;refine⟨.ref h'.objs.size,_,I2,rfl,k _ ρ _ (E1.trans E2) (S1.new _ hf) ?_⟩;unfold Rep;exact⟨_,rfl,S1.fresh hf,c',_,_,hS.fresh hn,qo,by rw[qd (z5q hlt),qo]⟩
     | some cv=>
       obtain⟨c',rfl,nc,hc'⟩:=hcs pos cv hca;refine kla_makeFunctionHit hcl I.ok.glob hg hcode C hPt htr hca hBA fun ctv h' tk hk hsz=>?_;have hf:H h'.objs.size=none:=I.hok.fresh hsz;have I2:=zop (t:=⟨params,body,scope,X.env.qual++"<lambda>",caps,cl⟩) (c:=c') (pm:=(X.mg "__name__").getD .none) (ct:=ctv) (h':=h') (tk:=tk) I hk hsz;have E2:=jh hS (.ext (zte ⟨params,body,scope,X.env.qual++"<lambda>",caps,cl⟩ h'.objs.size c' ((X.mg "__name__").getD .none) ctv)) hf;refine⟨.ref h'.objs.size,_,I2,rfl,k _ ρ _ E2 (hS.new _ hf) ?_⟩;unfold Rep;exact⟨_,rfl,hS.fresh hf,c',_,_,nc,qo,E2.keep _ _ hc' nc⟩
   · cases hf
 · cases hf
theorem zz6(j:Nat)(hcd:zcc X.K X.mg x X.env.code)(hb:zms X.base X.mg)(hdef:defaultsOf params X.env=([],[]):=by rfl)(hcl:closureFor scope X.env=pure []:=by rfl) :
   FE X (.Lambda params body scope pos) (ztt j x ⟨params,body,scope,X.env.qual++"<lambda>",[],[]⟩):=zo7 j hcd hb hcl hdef
end
def zcp(N n:Nat)(f:E):G:=fun ds S=>if ds.length=n then f (ds.map some++List.replicate (N-ds.length) none) S else none
def z1f(t:LT)(a c:Addr)(pm ct:Value)(H:Hp):Prop:=H a=some (.ext (zte t a c pm ct))/\H c=some (.ext (yw c t.qual))
section
variable {P:Program}{w:World}{K:Frag}{mg:zMg}{base:Heap}{k:Nat}{t:LT}{N ps:List Str}{f:E}
theorem zpw{N n:Nat}{ds:List D}{S:Sto}{r:D×Sto}(h:zcp N n f ds S=some r):ds.length=n:=by
 unfold zcp at h;split at h
 · rename_i e;exact e
 · cases h
theorem zy9(S:FnScope N ps t.scope)(h0:t.cl=[])(a c:Addr)(pm ct:Value)
   (hbody:∀(A:Around) (outer:List Env) (s:Shared) (H:Hp) (E:XK),Room k (A.deeper (envOfC t.qual t.scope s.heap.objs.size a (.ref c)))->FE (zcd CX0 P w K mg base N t.qual t.scope a (.ref c) A outer s H E).nox t.body f) :
   FnOk P w K mg base CX0 (k+1) a (kla_fn "<lambda>" t.qual t.params t.body t.scope [] pm (.ref c) ct) ps (fun vs H Q E=>z1f t a c pm ct H/\spG K mg (zcp N.length ps.length f) vs H Q E):=by
 have len:∀vs H Q E,(z1f t a c pm ct H/\spG K mg (zcp N.length ps.length f) vs H Q E)->vs.length=ps.length:=fun vs H Q E h=>by obtain⟨_,ρ,ds,S,d,S',r,hS,hf,_⟩:=h;rw[<-r.length];exact zpw hf
 refine⟨len,fun A outer s H args us vs Q E hr e0 hb r hsp=>?_⟩;have hl:=len _ _ _ _ hsp;obtain⟨⟨hA,hC⟩,ρ,ds,S0,d,S',rr,hS,hf,kk⟩:=hsp;have lim:s.heap.NoLimit:=e0.mod.nolimit.keeps fun b o e=>(e0.bs b o e).1;have ho:s.heap.get? a=some (kla_obj "<lambda>" t.qual t.params t.body t.scope [] pm c ct):=by have:=(e0.hok a _ hA).1;unfold zte at this;rw[h0]at this;exact this
 have hcd:s.heap.CodeRec (.ref c) t.qual:=(e0.hok c _ hC).1;have hkind:∀y∈ps.zip us,t.scope.names.lookup y.1=some .local\/(t.scope.names.lookup y.1=some .cell/\((cellsFrom (s.heap.objs.size+1) t.scope.names []).lookup y.1).isSome=true):=fun⟨n,v⟩ hy=>by
   rcases S.par n (z7w hy).1 with q | q
   · exact .inl q
   · exact .inr ⟨q,cellsFrom_some _ _ _ (.inl q)⟩
 refine kla_callFunE hr.depth ho rfl S.co S.gen rfl hcd (hb _ _ _ _ ?_);refine wpAny_newFunctionEnv_cells S.kind hkind fun env he s1 x=>?_;subst he;refine⟨lim.keeps x.toInCall.keep,kla_codeExpr ?_⟩;have I:Inv (zcd CX0 P w K mg base N t.qual t.scope a (.ref c) A outer s H E) [] (start N vs) H s1:=zhk S hr.hd e0 hl r x;unfold zcp at hf;split at hf
 · have hpe:=(hbody A outer s H E (hr.deeper _)).nox;refine z7c (hpe [] s1 (start N vs) H Q I ⟨ρ,_,S0,d,S',EnvR.start rr,hS,hf,kk⟩) (fun v s' hs=>?_) fun e s' hs=>hs;obtain⟨v',H',J,rv,q⟩:=hs;exact⟨v',H',J.os,J.bare,J.base,J.hok,rv,q⟩
 · cases hf
structure LCal (P:Program) (w:World) (K:Frag) (mg:zMg) (base:Heap) (k:Nat) (t:LT) (g:G):Prop where
 ex:∃ps:List Str,(∀(a c:Addr) (pm ct:Value),FnOk P w K mg base CX0 k a (kla_fn "<lambda>" t.qual t.params t.body t.scope [] pm (.ref c) ct) ps (fun vs H Q E=>z1f t a c pm ct H/\spG K mg g vs H Q E)) /\
   ∀(c:Addr) (pm ct:Value),Binds K (kla_fn "<lambda>" t.qual t.params t.body t.scope [] pm (.ref c) ct) ps []
theorem LCal.mono{j:Nat}{g:G}(c:LCal P w K mg base j t g)(h:j<=k):LCal P w K mg base k t g :=
 let⟨ps,F,b⟩:=c.ex;⟨ps,fun a c pm ct=>(F a c pm ct).mono h,b⟩
theorem LCal.of(S:FnScope N ps t.scope)(hb:∀(c:Addr) (pm ct:Value) (us:List Value),us.length=ps.length->bindArgs (kla_fn "<lambda>" t.qual t.params t.body t.scope [] pm (.ref c) ct) ⟨us,[]⟩=pure (ps.zip us))
   (hbody:∀(a c:Addr) (A:Around) (outer:List Env) (s:Shared) (H:Hp) (E:XK),Room k (A.deeper (envOfC t.qual t.scope s.heap.objs.size a (.ref c)))->FE (zcd CX0 P w K mg base N t.qual t.scope a (.ref c) A outer s H E).nox t.body f)
   (h0:t.cl=[]:=by rfl):LCal P w K mg base (k+1) t (zcp N.length ps.length f) :=
 ⟨ps,fun a c pm ct=>zy9 S h0 a c pm ct (hbody a c),fun c pm ct=>.all (hb c pm ct)⟩
end
def zac(ft:Str->Option G)(lt:LT->Option G)(f:E)(a:As):E:=fun ev S=>(f ev S).bind fun p=>match p.1 with
 | .fn x=>(ft x).bind fun g=>(a ev p.2).bind fun q=>g q.1 q.2
 | .lam t=>(lt t).bind fun g=>(a ev p.2).bind fun q=>g q.1 q.2
 |_=>none
section
variable {X:Cx}{k:Nat}{f:E}{a:As}{e:Expr}{es:List Expr}{pos:Pos}
theorem zbi{fe:Expr}{ft:Str->Option G}{lt:LT->Option G}(hT:∀x g,ft x=some g->Cal X.prog X.w X.K X.mg X.base k x g)(hL:∀t g,lt t=some g->LCal X.prog X.w X.K X.mg X.base k t g)(hr:Room k X.A)(hf:FE X fe f)(ha:FA X (e::es) a)
   (ht:eval (.Call fe (e::es) [] pos) X.env=(eval fe X.env >>= fun v=>callWith pos v [] (backTo pos (starEach (e::es) X.env)) (backToKw pos (keywordEach [] X.env))):=by rfl)
   (he:starEach (e::es) X.env=(false,eval e X.env)::starEach es X.env:=by exact z9 rfl) (hpl:(backTo pos (starEach es X.env)).any (·.1)=false:=by exact qx rfl) :
   FE X (.Call fe (e::es) [] pos) (zac ft lt f a):=by
 intro pins s σ H Q I h;obtain⟨ρ,ev,S,d,S',hE,hS,hf',kk⟩:=h;obtain⟨⟨y,S1⟩,q1,hf'⟩:=zy hf';cases y with
 | fn x=>
   refine zrq (ft:=ft) hT hr hf ha ht he hpl pins s σ H Q I ⟨ρ,ev,S,d,S',hE,hS,?_,kk⟩;unfold ztv;rw[q1];exact hf'
 | lam t=>
   rw[ht];dsimp only at hf';obtain⟨g,hx,hf'⟩:=zy hf';obtain⟨⟨ds,S2⟩,q2,hf'⟩:=zy hf';obtain⟨ps,F,hb⟩:=(hL t g hx).ex;refine z43 (thn (hf pins s σ H (fun v H1=>∃ρ1 a0,v=.ref a0/\Ext ρ H ρ1 H1/\StOk X.K X.mg ρ1 H1 S1/\LamAt ρ1 H1 t a0) I ⟨ρ,ev,S,_,S1,hE,hS,q1,fun v ρ1 H1 E1 hS1 r1=>?_⟩) fun u s1 ⟨v,H1,I1,rv,ρ1,a0,ev1,E1,hS1,L1⟩=>?_)
   · unfold Rep at r1;obtain⟨b,rfl,L⟩:=r1;exact⟨ρ1,b,rfl,E1,hS1,L⟩
   · subst ev1;obtain rfl:u=Value.ref a0:=rv;obtain⟨n0,c,pm,ct,nc,hA,hC⟩:=L1;have at_:∀{H':Hp}{s':Shared},Inv X pins σ H' s'->H' a0=some (.ext (zte t a0 c pm ct))->FnAt a0 s'.heap:=fun J e=>⟨_,_,_,_,(J.hok a0 _ e).1⟩
     refine callWith_F (at_ I1 hA) (thn (ha pos pins s1 σ H1 (fun vs H2=>(H2 a0=some (.ext (zte t a0 c pm ct)))/\(z1f t a0 c pm ct H2/\spG X.K X.mg g vs H2 Q E0)) I1 ⟨ρ1,ev,S1,ds,S2,hE.mono E1,hS1,q2,fun vs ρ2 H2 E2 hS2 r2=>?_⟩) fun us s2 ⟨vs,H2,I2,r,hA2,q2⟩=>⟨at_ I2 hA2,?_⟩) he hpl
     · have h1:=E2.keep _ _ hA n0;have h2:=E2.keep _ _ hC nc;exact⟨h1,⟨h1,h2⟩,ρ2,ds,S2,d,S',r2,hS2,hf',fun v ρ' H' E' hS' r'=>kk v ρ' H' ((E1.trans E2).trans E') hS' r'⟩
     · exact zg8 (ds:=[]) (dvs:=[]) (F a0 c pm ct) hr (hb c pm ct) .nil zlv I2 r (by rw[z50];exact q2)
 |_=>cases hf'
end
end F
namespace F
open PySem L2 PySem.Spec PyProof.Rows PySem.W
def zt7(tabs:List (Str×Str))(g:G):Prop:=∀ns:List Int,ns.length<=63->∃S,g [.lst (ns.map D.int)] (tabs.map fun p=>MO.tab p.1 p.2)=some (.bl true,S)
def H0(ts:List Addr)(so:Option (Addr×HO)):Hp:=fun b=>if b∈ts then some (.tbl #[])else match so with
 |some (a,o)=>if b=a then some o else none
 |none=>none
theorem zhc{as:List Addr}:∀{K:Frag}{P:Addr},as=K.map (·.1)->P∉as->K.lookup P=none
 | [],_,_,_=>rfl
 | (b,o)::K,P,e,h=>by
   subst e;rw[z5j,z5p,not_or]at h;have hb:(P==b)=false:=by simpa using h.1
   simp only[List.lookup,hb];exact zhc rfl h.2
section
variable {P:Program}{w:World}{K:Frag}{mg mb:zMg}{k:Nat}{fa a:Addr}{fd:FuncData}{x:Str}{sp:Sp}{s₁:Shared}{vs:List Value}{ns:List Int}{ts:List Addr}
theorem zoh(KX:K.In s₁.heap)(hns:s₁.heap.Ns mainGlobals mg)(hb:s₁.heap.Ns builtinsNs mb)(hbb:∀x:Str,x≠"__name__"->mb x=bootBuiltins x)(hlim:s₁.heap.NoLimit)(hg:s₁.gens=#[])
   (ha:s₁.heap.get? a=some { cls:=.type "list",data:=.seq vs.toArray }) (hi:IntsAre vs ns) (hl:ns.length<=sizeLine) (hr:Room k callerA)
   (hts:∀Q∈ts,s₁.heap.get? Q=some (tabObj #[])/\K.lookup Q=none/\isCodeTable s₁.heap Q)
   (hbm:zms s₁.heap mg) (F:∀base:Heap,K.In base->base.Ns mainGlobals mg->zms base mg->FnOk P w K mg base CX0 k fa fd [x] sp) (hbind:∀(s:Shared) (u:Value),BindsTo s fd ⟨[u],[]⟩ [(x,u)])
   (hsp:∀so:Option (Addr×HO),a∉ts->SqL K (H0 ts so) a (ns.map V.int)->sp [.ref a] (H0 ts so) (fun v _=>v=.bl true) fun _ _ _=>False) :
   codeAny (model P w) callerA (.call (.ref fa) ⟨[.ref a],[]⟩) (fun r s'=>r=.ok (.ret (.bool true))/\OldK s₁.heap s'.heap/\s'.os=s₁.os/\AllBare s'.gens) s₁:=by
 have rv:=zg2 hi;have lenV:=hi.length;have nat:a∉ts:=fun z=>by have e:=(hts a z).1;rw[ha]at e;cases e
 have core:∀so:Option (Addr×HO),(∀b o,so=some (b,o)->b=a/\K.lookup a=none/\o=.frz { cls:=.type "list",data:=.seq vs.toArray } (.lst (ns.map V.int)))->SqL K (H0 ts so) a (ns.map V.int) ->
     codeAny (model P w) callerA (.call (.ref fa) ⟨[.ref a],[]⟩) (fun r s'=>r=.ok (.ret (.bool true))/\OldK s₁.heap s'.heap/\s'.os=s₁.os/\AllBare s'.gens) s₁:=by
   intro so hso hS;have cases3:∀b,H0 ts so b=none\/(b∈ts/\H0 ts so b=some (.tbl #[]))\/(b=a/\K.lookup a=none/\H0 ts so b=some (.frz { cls:=.type "list",data:=.seq vs.toArray } (.lst (ns.map V.int)))):=fun b=>by
     by_cases z:b∈ts
     · exact .inr (.inl ⟨z,z5s z⟩)
     · cases so with
       |none=>exact .inl (z5y z)
       | some p=>
         obtain⟨c,o⟩:=p;obtain⟨h1,h2,h3⟩:=hso c o rfl;by_cases y:b=c
         · refine .inr (.inr ⟨y.trans h1,h2,?_⟩);unfold H0;rw[z5y z];show(if b=c then some o else none)=_;rw[z5s y,h3]
         · refine .inl ?_;unfold H0;rw[z5y z];exact z5y y
   have hok:HOk P w (H0 ts so) s₁.heap:=fun b u e=>by
     rcases cases3 b with q | ⟨q1,q2⟩ | ⟨rfl,_,q2⟩
     · rw[q]at e;cases e
     · rw[q2]at e;cases e;exact(hts b q1).1
     · rw[q2]at e;cases e;exact⟨ha,by rw[z7j];exact hl,vs,_,rv,ha⟩
   have free:∀{b:Addr}{o:Obj}{es:Array DictEntry}{ep:Nat},s₁.heap.get? b=some o->o.data=.dict es ep->H0 ts so b=none:=fun {b o es ep} e d=>by
     rcases cases3 b with q | ⟨q1,_⟩ | ⟨rfl,_,_⟩
     · exact q
     · rw[(hts b q1).1]at e;cases e;cases d
     · rw[ha]at e;cases e;cases d
   have nsK:∀{b:Addr}{m:zMg},s₁.heap.Ns b m->(zrf s₁.heap (H0 ts so)).Ns b m:=fun⟨o,es,ep,e,d,r⟩=>⟨o,es,ep,zgd e (free e d),d,r⟩
   have hKb:K.In (zrf s₁.heap (H0 ts so)):=fun b o e=>zgd (KX b o e) (by
     rcases cases3 b with q | ⟨q1,_⟩ | ⟨rfl,q1,_⟩
     · exact q
     · rw[(hts b q1).2.1]at e;cases e
     · rw[q1]at e;cases e)
   have hM:Mod K mg (zrf s₁.heap (H0 ts so)):=⟨hKb,nsK hns,⟨mb,nsK hb,hbb⟩,let⟨mc,h1,h2⟩:=hlim;⟨mc,nsK h1,h2⟩⟩
   have e0:Env0 P w K mg (zrf s₁.heap (H0 ts so)) callerA [] s₁ (H0 ts so):=⟨rfl,hM,fun b o e=>zvf e,Nat.le_of_eq (zos _ _),trivial,fun b hb=>absurd (show b∈([]:List Addr)from hb) (by simp),hok,.of_eq hg⟩
   have hB:zms (zrf s₁.heap (H0 ts so)) mg:=by
     obtain⟨bm,ob,b1,b2,b3,b4,b5,b6,b7⟩:=hbm;refine⟨bm,ob,b1,b2,b3,zgd b4 ?_,b5,b6,b7⟩;rcases cases3 bm with q | ⟨q1,_⟩ | ⟨rfl,_,_⟩
     · exact q
     · rw[(hts bm q1).1]at b4;cases b4;cases b7
     · rw[ha]at b4;cases b4;cases b7
   refine z86 ((F _ hKb (nsK hns) hB).run callerA [] s₁ (H0 ts so) ⟨[.ref a],[]⟩ [.ref a] [.ref a] _ _ hr e0 (hbind s₁ (.ref a)) (.cons rfl .nil) (hsp so nat hS)) fun r s' h=>?_;cases r with
   |error e=>exact False.elim h
   | ok fl=>
     cases fl with
     |next=>exact False.elim h
     |brk=>exact False.elim h
     |cont=>exact False.elim h
     | ret u=>
       obtain⟨v,H',os,bare,un,hok',r',q⟩:=h;obtain rfl:v=.bl true:=q;obtain rfl:u=Value.bool true:=r';refine⟨rfl,⟨fun b o e=>?_,fun b o e=>un.there b o e (by simp)⟩,os,bare⟩;rcases cases3 b with q | ⟨q1,q2⟩ | ⟨_,_,q2⟩
       · exact .inl (un.keep b o e q (fun z=>absurd (show b∈([]:List Addr)from z) (by simp)) (by simp))
       · obtain⟨more,z⟩:=un.tbls b _ q2;have e1:=(hts b q1).1;rw[e]at e1;cases e1;exact .inr (.inl ⟨(hts b q1).2.2,rfl,#[],more,rfl,hok' b _ z⟩)
       · have z:=un.frzs b _ _ q2;obtain⟨e1,_⟩:=hok b _ q2;obtain⟨e2,_⟩:=hok' b _ z;rw[e]at e1;cases e1;exact .inl e2
 cases hk:K.lookup a with
 | some o=>
   have e:=KX a o hk;rw[ha]at e;cases e;exact core none (fun b o z=>by cases z) (.inr ⟨_,vs.toArray,_,hk,rfl,rfl,rfl,by rw[z5f,lenV];exact hl,by simpa using rv⟩)
 | none=>
   refine core (some (a,.frz { cls:=.type "list",data:=.seq vs.toArray } (.lst (ns.map V.int)))) (fun b o z=>by cases z;exact⟨rfl,hk,rfl⟩) (.inl (.inr ⟨{ cls:=.type "list",data:=.seq vs.toArray },?_⟩));unfold H0;rw[z5y nat];exact z5s rfl
end
theorem zmf{K:Frag}{h:Heap}{c Q:Addr}(X:K.In h)(e:codeHdIn K c Q=true):isCodeTable h Q:=by obtain⟨o,vs,_,_,_,_,_,_,_,h1,h2,h3,h4,_⟩:=codeHd_of_K X e;exact⟨c,o,vs,h1,h2,h3,h4⟩
theorem law_walkT{l:OpenLaw}{q:Program}{loose:List Str}{XP:(zMg)->Heap->Prop}{d:DefRec}{K:Params->Frag}{as:List Addr}{e:∀P,as=(K P).map (·.1)}{ts:List Addr}{k:Nat}{g:G}{x:Str}(tabs:List (Str×Str))
   (hn:l.most=some 63) (hdf:d.params.defaults=[]) (hr:Room k callerA) (hts:ts.Nodup) (has:∀Q∈ts,Q∉as) (hlen:ts.length=tabs.length) (hg:zt7 tabs g)
   (F:∀(w:World) (mg:zMg) (fa:Addr) (h:Heap),(K w.params).In h->h.Ns mainGlobals mg->mg d.name=some (.ref fa) ->
     (∀(i:Nat) (p:Str×Str) (Q:Addr),tabs[i]? = some p->ts[i]? = some Q->zwp (K w.params) mg p.1 Q) /\
     ∃fd:FuncData,(∀(s:Shared) (u:Value),BindsTo s fd ⟨[u],[]⟩ [(x,u)])/\∀base:Heap,(K w.params).In base->base.Ns mainGlobals mg->zms base mg->FnOk l.prog w (K w.params) mg base CX0 k fa fd [x] (spG (K w.params) mg g)) :
   WalkO q loose XP (kmHook K as e ts).says l.row.toRowW d [] (fun f vs=>PySem.call f vs):=by
 refine Att.attach_call hn hdf fun w s₀ s₁ mg mb fa o pm cd doc a vs ns G Y ho hd hcd hmg hobj hints hlen' hg'=>?_;have KX:=km_in_of Y;have TX:=km_tabs_of Y;obtain⟨T,fd,hb,hF⟩:=F w mg fa _ KX G.T.g hmg;have hbm:zms s₁.heap mg:=by obtain⟨bm,ob,b1,b2,b3,b4,b5,b6⟩:=G.T.bmain;refine⟨bm,ob,b1,b2,fun q=>?_,b3,b4,b5,b6⟩;obtain⟨o,es,ep,e,hd,_⟩:=G.T.g;rw[q,e]at b3;cases b3;rw[hd]at b6;cases b6
 refine zoh (k:=k) (fd:=fd) (x:=x) (ts:=ts) (sp:=spG (K w.params) mg g) KX G.T.g G.T.b G.T.builtins G.T.nolimit hg' hobj hints (z5u hlen' (by decide)) hr (fun Q hQ=>⟨TX Q hQ,zhc (e w.params) (has Q hQ),?_⟩) hbm hF hb fun so nat hS=>?_
 · obtain⟨i,hi,ei⟩:=z5v hQ;obtain⟨f,o,fd,c,_,_,_,_,z⟩:=T i (tabs[i]'(by omega)) Q (z49 (by omega)) (by rw[z49 hi,ei]);exact zmf KX z
 · obtain⟨S,hS'⟩:=hg ns hlen';have tb:∀Q∈ts,H0 ts so Q=some (.tbl #[]):=fun Q hQ=>z5s hQ;refine⟨ts,[.lst (ns.map D.int)],tabs.map fun p=>MO.tab p.1 p.2,.bl true,S,?_,⟨by rw[z7j];exact hlen,hts,fun i m b e1 e2=>?_⟩,hS',fun v ρ' H' _ _ r=>by rw[show v=.bl true from r]⟩
   · refine RepL.cons ?_ RepL.nil;unfold Rep;refine⟨a,ns.map V.int,rfl,?_,zj5 ns⟩;rcases hS with hS | hS
     · exact .inl ⟨nat,hS⟩
     · exact .inr hS
   · rw[z6s]at e1;cases hp:tabs[i]? with
     |none=>rw[hp]at e1;cases e1
     | some p=>
       rw[hp]at e1;cases e1;exact⟨T i p b hp e2,#[],tb b (z51 e2),trivial,fun pos cv z=>by cases z⟩
section
variable {P:Program}{w:World}{K:Frag}{mg:zMg}{base:Heap}{x qual:Str}{st:Stmt}{N ps:List Str}{k:Nat}{b:C}{dV:Value}{f:Addr}{fd:FuncData}
theorem FunD.code(F:FunD K x qual st f fd dV){y:Str}(hm:mg y=some (.ref f)):zcc K mg y fd.code:=by obtain⟨oc,od,kV,doc,pm,an,cdv,ct,osl,rfl,lk,hcd⟩:=F.ex;exact⟨f,_,_,hm,lk,rfl,rfl⟩
theorem FunD.okL(F:FunD K x qual st f fd dV){y:Str}(hm:mg y=some (.ref f))(S:FnScope N ps (zk st))
   (hbody:∀(cdv:Value),zcc K mg y cdv->∀(A:Around) (outer:List Env) (s:Shared) (H:Hp) (E:XK),Room k (A.deeper (envOfC qual (zk st) s.heap.objs.size f cdv)) ->
     FSs (zcd CX0 P w K mg base N qual (zk st) f cdv A outer s H E).nox (jo st) b):FnOk P w K mg base CX0 (k+1) f fd ps (spG K mg (qa N.length ps.length b)):=by
 have co:=F.code hm;obtain⟨oc,od,kV,doc,pm,an,cdv,ct,osl,rfl,lk,hcd⟩:=F.ex;refine zrl lk hcd S (fun vs H Q E h=>?_) fun A outer s H vs Q E hr hsp=>?_
 · obtain⟨ρ,ds,S,d,S',r,hS,hf,k⟩:=h;rw[<-r.length];exact zep hf
 · exact⟨_,(hbody cdv co A outer s H E hr).nox,zjl hsp⟩
abbrev z29(P:Program)(w:World)(K:Frag)(mg:zMg)(base:Heap)(N:List Str)(x qual:Str)(st:Stmt)(k:Nat)(b:C):Prop :=
 ∀(f:Addr) (cdv:Value),zcc K mg x cdv->∀(A:Around) (outer:List Env) (s:Shared) (H:Hp) (E:XK),Room k (A.deeper (envOfC qual (zk st) s.heap.objs.size f cdv)) ->
     FSs (zcd CX0 P w K mg base N qual (zk st) f cdv A outer s H E).nox (jo st) b
theorem HasDef.calL(h:HasDef K mg x st 0)(S:FnScope N ps (zk st))(hb:zws x x st ps)(hbody:z29 P w K mg base N x x st k b):Cal P w K mg base (k+1) x (qa N.length ps.length b):=by obtain⟨f,fd,dV,F,hm,rfl⟩:=h.ex;exact⟨f,fd,ps,[],[],[],_,F.okL hm S fun cdv co A outer s H E hr=>hbody f cdv co A outer s H E hr,hm,F.kp,F.binds0 hb,.nil,fun _ _=>RepL.nil,fun args S r e=>by rw[z50];exact e⟩
end
section
variable {K:Frag}{h:Heap}{mg:zMg} (X:K.In h) (G:h.Ns mainGlobals mg)
include X G
theorem has_tab{x:Str}{st:Stmt}{f c Q:Addr}{oc:Value}{od an:Option Addr}{osl:Array (Option Value)}{dV kV doc pm ct:Value}(a:nsIn K mainGlobals x=some (some (.ref f)))
   (l:K.lookup f=some ⟨oc,od,.func (fnOf x x (za5 st) (jo st) (zk st) dV kV doc pm an (.ref c) ct),osl⟩) (z:codeHdIn K c Q=true):zwp K mg x Q :=
 ⟨f,_,_,c,mg_of X G a,l,rfl,rfl,z⟩
end
end F
namespace F
open PySem L2 PySem.Spec PySem.Calls PyProof.Rows PySem.W
def cxC(P:Program)(w:World)(K:Frag)(mg:zMg)(base:Heap)(N:List Str)(qual:Str)(scope:Scope)(f:Addr)(cd:Value)(cl:zLA)(A:Around)(outer:List Env)(s:Shared)(H H1:Hp)(E:XK):Cx where
 prog:=P
 w:=w
 K:=K
 mg:=mg
 base:=base
 A:=A.deeper (envX qual scope s.heap.objs.size f cd cl)
 N:=N
 s₀:=s
 H₀:=H1
 env:=envX qual scope s.heap.objs.size f cd cl
 outer:=outer
 stack:=envX qual scope s.heap.objs.size f cd cl::outer
 ex:=[]
 calm:=true
 fn:=fun _=>false
 pn:=[]
 xe:=fun e s'=>wpAny (model P w) (A.deeper (envX qual scope s.heap.objs.size f cd cl)) (leaving (envX qual scope s.heap.objs.size f cd cl) e) (fun _ s''=>CX0 outer H s E e s'') (fun e' s''=>CX0 outer H s E e' s'') s'
def zbv(H:Hp)(cl:zLA):Hp:=fun b=>if b∈cl.map (·.2)then none else H b
theorem zci{H:Hp}{cl:zLA}{b:Addr}(h:b∈cl.map (·.2)):zbv H cl b=none:=z5s h
theorem jv{H:Hp}{cl:zLA}{b:Addr}(h:b∉cl.map (·.2)):zbv H cl b=H b:=z5y h
theorem Cells.at{ρ:List Addr}{H:Hp}:∀{xs:List Str}{us:List V}{cl:zLA},Cells ρ H xs us cl->∀b∈cl.map (·.2),∃o w,H b=some (.frz o (.own 0))/\o.data=.cell (some w)
 | [],[],[],_,b,hb=>by cases hb
 | x::xs,u::us,p::cl,h,b,hb=>by
   rw[z5j]at hb;rcases z5p.mp hb with rfl | hb
   · obtain⟨_,_,⟨o,w,h3,h4,_⟩,_⟩:=h;exact⟨o,w,h3,h4⟩
   · exact Cells.at h.2.2.2 b hb
 | [],[],_::_,h,_,_=>h.elim
 | [],_::_,_,h,_,_=>h.elim
 |_::_,[],_,h,_,_=>h.elim
 |_::_,_::_,[],h,_,_=>h.elim
theorem zi2{P:Program}{w:World}{H:Hp}{h:Heap}{cl:zLA}(x:HOk P w H h)(hc:∀b∈cl.map (·.2),∃o,H b=some (.frz o (.own 0))):HOk P w (zbv H cl) h:=fun b u e=>by
 by_cases z:b∈cl.map (·.2)
 · rw[zci z]at e;cases e
 · rw[jv z]at e;refine(x b u e).stay (fun _ _ _ q=>q) (fun d q=>?_) fun d xs q=>?_
   · rw[jv (fun y=>by obtain⟨o,y'⟩:=hc d y;rw[q]at y';cases y')];exact q
   · rw[jv (fun y=>by obtain⟨o,y'⟩:=hc d y;rw[q]at y';cases y')];exact q
theorem ku{H:Hp}{cl:zLA}{b:Addr}(h:H b=none):zbv H cl b=none:=by
 unfold zbv;split
 · rfl
 · exact h
theorem Cells.names{ρ:List Addr}{H:Hp}:∀{xs:List Str}{us:List V}{cl:zLA},Cells ρ H xs us cl->cl.map (·.1)=xs/\us.length=xs.length
 | [],[],[],_=>⟨rfl,rfl⟩
 | x::xs,u::us,p::cl,h=>by obtain⟨h1,h2⟩:=Cells.names h.2.2.2;exact⟨by rw[z5j,h1,h.1],by rw[List.length_cons,List.length_cons,h2]⟩
 | [],[],_::_,h=>h.elim
 | [],_::_,_,h=>h.elim
 |_::_,[],_,h=>h.elim
 |_::_,_::_,[],h=>h.elim
theorem Cells.get{ρ:List Addr}{H:Hp}:∀{xs:List Str}{us:List V}{cl:zLA},Cells ρ H xs us cl->xs.Nodup->∀(i:Nat) (x:Str) (u:V),xs[i]? = some x->us[i]? = some u->∃b o w,cl.lookup x=some b/\H b=some (.frz o (.own 0))/\o.data=.cell (some w)/\RelV u w
 | x::xs,u::us,p::cl,h,nd,0,y,v,e1,e2=>by cases e1;cases e2;obtain⟨h1,_,⟨o,w,h3,h4,h5⟩,_⟩:=h;exact⟨p.2,o,w,by obtain⟨a,b⟩:=p;subst h1;simp[List.lookup],h3,h4,h5⟩
 | x::xs,u::us,p::cl,h,nd,i+1,y,v,e1,e2=>by
   obtain⟨b,o,w,z1,z2⟩:=Cells.get h.2.2.2 (z7v.mp nd).2 i y v e1 e2;have ne:(y==p.1)=false:=by rw[h.1];refine beq_false_of_ne fun z=>(z7v.mp nd).1 ?_;rw[<-z];exact z51 e1
   refine⟨b,o,w,?_,z2⟩;obtain⟨a,c⟩:=p;simp only[List.lookup,ne];exact z1
 | [],[],[],_,_,_,_,_,e1,_=>by cases e1
 | [],[],_::_,h,_,_,_,_,_,_=>h.elim
 | [],_::_,_,h,_,_,_,_,_,_=>h.elim
 |_::_,[],_,h,_,_,_,_,_,_=>h.elim
 |_::_,_::_,[],h,_,_,_,_,_,_=>h.elim
structure CloScope (ps caps:List Str) (sc:Scope):Prop where
 kind:sc.kind=.function
 co:sc.isCoroutine=false
 gen:sc.isGenerator=false
 nd:(ps++caps).Nodup
 par:∀x∈ps,sc.names.lookup x=some .local
 cap:∀x∈caps,sc.names.lookup x=some .free
 nocell:∀y∈sc.names,y.2≠.cell
 fre:∀y∈sc.names,y.2=.free->y.1∈caps
theorem ze8:∀{ps:List Str}{us:List Value}{i:Nat}{x:Str}{u:Value},ps.Nodup->ps[i]? = some x->us[i]? = some u->(ps.zip us).reverse.lookup x=some u
 | [],_,_,_,_,_,e,_=>by cases e
 |p::ps,[],i,x,u,_,_,e=>by cases e
 | p::ps,w::us,i,x,u,nd,e1,e2=>by
   rw[List.zip_cons_cons,z8t,List.lookup_append];cases i with
   | zero=>
     cases e1;cases e2;have:(ps.zip us).reverse.lookup p=none:=by rw[List.lookup_eq_none_iff];intro q hq;have:=(z7w (a:=q.1) (b:=q.2) (z7n.mp hq)).1;simpa using fun(z:p=q.1)=>(z7v.mp nd).1 (z▸this)
     rw[this];simp[List.lookup]
   | succ i=>
     rw[ze8 (z7v.mp nd).2 e1 e2];rfl
theorem zl5{P:Program}{w:World}{K:Frag}{mg:zMg}{base:Heap}{ps caps:List Str}{qual:Str}{scope:Scope}{f:Addr}{cd:Value}{cl:zLA}{A:Around}{outer:List Env}{s:Shared}{H:Hp}{E:XK}{us:List Value}{vs cs:List V}{ρ:List Addr}{h':Heap}{tk:Nat}
   (S:CloScope ps caps scope) (hd:A.handled=none) (e0:Env0 P w K mg base A outer s H) (hl:vs.length=ps.length) (r:Vals vs us) (hc:Cells ρ H caps cs cl) (hcn:(cl.map (·.2)).Nodup)
   (hns:h'.Ns s.heap.objs.size (fun x=>(ps.zip us).reverse.lookup x)) (hk:∀b o,s.heap.get? b=some o->h'.get? b=some o) :
   Inv (cxC P w K mg base (ps++caps) qual scope f cd cl A outer s H (zbv H cl) E) [] ((vs++cs).map some) (zbv H cl) { s with heap:=h',toks:=tk }:=by
 have noA:∀b:Addr,b∉(cxC P w K mg base (ps++caps) qual scope f cd cl A outer s H (zbv H cl) E).ex:=fun b z=>absurd (show b∈([]:List Addr)from z) (by simp);have hnm:=hc.names;have mem:∀{x:Str}{c:Addr},cl.lookup x=some c->(x,c)∈cl:=fun h=>mem_of_lookup_some h;have hcf:∀b∈cl.map (·.2),∃o,H b=some (.frz o (.own 0)):=fun b hb=>let⟨o,_,h1,_⟩:=hc.at b hb;⟨o,h1⟩;refine⟨⟨e0.mod,S.kind,rfl,rfl,z44 _,fun y z c h1 h2=>?_,fun y hy=>?_,fun y c h _=>(by cases h),fun _=>hd,Around.frames_deeper e0.frames,.inr ⟨rfl,rfl⟩,fun b z=>absurd z (noA b),fun b o e=>⟨(e0.bs b o e).1,ku (e0.bs b o e).2⟩,e0.bsz,fun b _ _=>noA b,fun b z=>absurd z (noA b),e0.funs,fun b hb=>ku (e0.frf b hb)⟩,
   rfl,e0.bare,Un.kept hk,⟨_,hns,fun i y v h1 h2 h3=>?_⟩,fun y c h=>?_,ku (e0.hok.fresh (z44 _)),fun y c h=>zci (z6h (mem h)),fun p hp=>absurd (show p∈([]:zAO)from hp) (by simp),(zi2 e0.hok hcf).kept hk,?_⟩
 · have m1:=mem h1;have m2:=mem h2;obtain⟨i,hi,ei⟩:=z5v m1;obtain⟨j,hj,ej⟩:=z5v m2;have:i=j:=(qan (i:=i) (j:=j) (h₀:=by simpa using hi) (h₁:=by simpa using hj) hcn).mp (by simp[ei,ej]);subst this;rw[ei]at ej;exact z7a Prod.fst ej
 · have hy:scope.names.lookup y=some .cell\/scope.names.lookup y=some .free:=hy;rcases hy with hy | hy
   · exact absurd rfl (S.nocell _ (z7d hy))
   · have hm:y∈caps:=S.fre _ (z7d hy) rfl;obtain⟨i,hi,ei⟩:=z5v hm;obtain⟨b,o,w,z,_⟩:=hc.get ((z9k.mp S.nd).2.1) i y (cs[i]'(by omega)) (by rw[z49 hi,ei]) (z49 _);exact⟨b,z⟩
 · rw[z6s]at h2;have h1:(ps++caps)[i]? = some y:=h1;by_cases hi:i<ps.length
   · rw[z55 hi]at h1;rw[z55 (by omega)]at h2;cases hv:vs[i]? with
     |none=>rw[hv]at h2;cases h2
     | some a=>
       rw[hv]at h2;cases h2;obtain⟨u,hu,ru⟩:=r.get hv;exact⟨u,ru,.inl ⟨S.par y (z51 h1),ze8 (z9k.mp S.nd).1 h1 hu⟩⟩
   · rw[z5t (by omega)]at h1;rw[z5t (by omega),hl]at h2;cases hv:cs[i-ps.length]? with
     |none=>rw[hv]at h2;cases h2
     | some a=>
       rw[hv]at h2;cases h2;obtain⟨b,o,w,z1,z2,z3,z4⟩:=hc.get (z9k.mp S.nd).2.1 _ y _ h1 hv;exact⟨w,z4,.inr ⟨.inr (S.cap y (z51 h1)),b,z1,o,hk _ _ (e0.hok b _ z2).1,z3⟩⟩
 · obtain⟨o,w,z2,z3⟩:=hc.at c (z6h (mem h));exact⟨some w,o,hk _ _ (e0.hok c _ z2).1,z3⟩
 · show((vs++cs).map some).length=(ps++caps).length;rw[z7j,z42,z42,hl,hnm.2]
def onC(H H0:Hp)(cl:zLA):Hp:=fun b=>if b∈cl.map (·.2)then H0 b else H b
theorem zbk{H H0:Hp}{cl:zLA}{b:Addr}(h:b∈cl.map (·.2)):onC H H0 cl b=H0 b:=z5s h
theorem qz{H H0:Hp}{cl:zLA}{b:Addr}(h:b∉cl.map (·.2)):onC H H0 cl b=H b:=z5y h
theorem z1k{fs:List Addr}{H H':Hp}{h h':Heap}{cl:zLA}(u:Un fs [] (zbv H cl) H' h h')(hc:∀b∈cl.map (·.2),∃o,H b=some (.frz o (.own 0))):Un fs [] H (onC H' H cl) h h':=by
 have out:∀b,H b=none->b∉cl.map (·.2):=fun b n z=>by obtain⟨o,y⟩:=hc b z;rw[n]at y;cases y
 refine⟨fun b o e n hb hx=>u.keep b o e (ku n) hb hx,fun b o e n hb hx=>u.slot b o e (ku n) hb hx,fun b o e n hx=>?_,u.there,fun b xs e=>?_,fun b o v e=>?_,fun b ps e=>?_⟩
 · rw[qz (out b n)];exact u.free b o e (ku n) hx
 · have z:b∉cl.map (·.2):=fun z=>by obtain⟨o,y⟩:=hc b z;rw[e]at y;cases y
   rw[qz z];exact u.tups b xs (by rw[jv z];exact e)
 · by_cases z:b∈cl.map (·.2)
   · rw[zbk z];exact e
   · rw[qz z];exact u.frzs b o v (by rw[jv z];exact e)
 · have z:b∉cl.map (·.2):=fun z=>by obtain⟨o,y⟩:=hc b z;rw[e]at y;cases y
   obtain⟨more,q⟩:=u.tbls b ps (by rw[jv z];exact e);exact⟨more,by rw[qz z];exact q⟩
theorem zzt{P:Program}{w:World}{fs:List Addr}{H H':Hp}{h h':Heap}{cl:zLA}(u:Un fs [] (zbv H cl) H' h h')(x0:HOk P w H h)(x:HOk P w H' h')(hc:∀b∈cl.map (·.2),(∃o,H b=some (.frz o (.own 0)))/\b∉fs):HOk P w (onC H' H cl) h':=fun b v e=>by
 have nn:∀d∈cl.map (·.2),H' d=none:=fun d hd=>by obtain⟨⟨o,z⟩,_⟩:=hc d hd;exact u.free d o (x0 d _ z).1 (zci hd) (by simp)
 by_cases z:b∈cl.map (·.2)
 · rw[zbk z]at e;obtain⟨⟨o,y⟩,nf⟩:=hc b z;rw[y]at e;cases e;have:=u.keep b o (x0 b _ y).1 (zci z) nf (by simp);exact⟨this,⟨o,this⟩⟩
 · rw[qz z]at e;refine(x b v e).stay (fun _ _ _ q=>q) (fun d q=>?_) fun d xs q=>?_
   · rw[qz (fun y=>by rw[nn d y]at q;cases q)];exact q
   · rw[qz (fun y=>by rw[nn d y]at q;cases q)];exact q
mutual
def noC:D->Bool
 | .tup ds=>noCL ds
 | .lst ds=>noCL ds
 | .clo _ _=>false
 |_=>true
def noCL:List D->Bool
 | []=>true
 |d::ds=>noC d&&noCL ds
end
def zn8:MO->Bool
 | .lst ds=>noCL ds
 | .ins _ fs=>noCL (fs.map (·.2))
 | .dct kvs=>noCL (kvs.map (·.2))
 | .exc _=>true
 | .tab _ _=>true
def noCS(S:Sto):Bool:=S.all zn8
section
variable {K:zFr}{mg:zMg}{ρ ρ':List Addr}{H H':Hp}{S S1:Sto}{cl:zLA}
def CellsIn(H:Hp)(cl:zLA):Prop:=∀b∈cl.map (·.2),∃o,H b=some (.frz o (.own 0))
theorem CellsIn.out(hc:CellsIn H cl){b:Addr}{u:HO}(h:H b=some u)(n:∀o,u≠.frz o (.own 0)):zbv H cl b=some u:=by rw[jv (fun z=>by obtain⟨o,y⟩:=hc b z;rw[h]at y;exact n o (z58 y))];exact h
theorem TupAt.off{p:Addr}{vs:List V}(hc:CellsIn H cl)(h:TupAt K ρ H p vs):TupAt K ρ (zbv H cl) p vs:=by
 rcases h with⟨n,h | ⟨o,h⟩⟩ | h
 · exact .inl ⟨n,.inl (hc.out h fun _ z=>by cases z)⟩
 · exact .inl ⟨n,.inr ⟨o,hc.out h fun _ z=>by cases z⟩⟩
 · exact .inr h
theorem LstAt.off{p:Addr}{vs:List V}(hc:CellsIn H cl)(h:LstAt K ρ H p vs):LstAt K ρ (zbv H cl) p vs:=by
 rcases h with⟨n,h | ⟨o,h⟩⟩ | h
 · exact .inl ⟨n,.inl (hc.out h fun _ z=>by cases z)⟩
 · exact .inl ⟨n,.inr ⟨o,hc.out h fun _ z=>by cases z⟩⟩
 · exact .inr h
mutual
theorem Rep.off(hc:CellsIn H cl):∀{d:D}{v:V},noC d=true->Rep K mg ρ H d v->Rep K mg ρ (zbv H cl) d v
 | .non,_,_,h=>h
 | .bl _,_,_,h=>h
 | .int _,_,_,h=>h
 | .str _,_,_,h=>h
 | .fn _,_,_,h=>h
 | .ty _,_,_,h=>h
 | .tup ds,_,hb,h=>by unfold Rep at h ⊢;unfold noC at hb;obtain⟨p,vs,e1,t,r⟩:=h;exact⟨p,vs,e1,t.off hc,RepL.off hc hb r⟩
 | .lst ds,_,hb,h=>by unfold Rep at h ⊢;unfold noC at hb;obtain⟨p,vs,e1,t,r⟩:=h;exact⟨p,vs,e1,t.off hc,RepL.off hc hb r⟩
 | .obj i,_,hb,h=>by unfold Rep at h ⊢;exact h
 | .lam t,_,_,h=>by unfold Rep at h ⊢;obtain⟨a,e1,n1,c,pm,ct,n2,h1,h2⟩:=h;exact⟨a,e1,n1,c,pm,ct,n2,hc.out h1 (fun _ z=>by cases z),hc.out h2 (fun _ z=>by cases z)⟩
 | .clo t vs,_,hb,h=>by unfold noC at hb;cases hb
theorem RepL.off(hc:CellsIn H cl):∀{ds:List D}{vs:List V},noCL ds=true->RepL K mg ρ H ds vs->RepL K mg ρ (zbv H cl) ds vs
 | [],_,_,h=>h
 | d::ds,_,hb,h=>by unfold RepL at h ⊢;unfold noCL at hb;obtain⟨v,r,e,h1,h2⟩:=h;obtain⟨b1,b2⟩:=Bool.and_eq_true_iff.mp hb;exact⟨v,r,e,Rep.off hc b1 h1,RepL.off hc b2 h2⟩
end
theorem MOk.off{a:Addr}{m:MO}(hc:CellsIn H cl)(hb:zn8 m=true)(h:MOk K mg ρ H a m):MOk K mg ρ (zbv H cl) a m:=by
 cases m with
 |lst ds=>obtain⟨vs,h1,h2⟩:=h;exact⟨vs,hc.out h1 (fun _ z=>by cases z),h2.off hc hb⟩
 |ins c fs=>obtain⟨C,dx,vs,h0,h1,h2,h3⟩:=h;exact⟨C,dx,vs,h0,hc.out h1 (fun _ z=>by cases z),h2,h3.off hc hb⟩
 |dct kvs=>obtain⟨vs,h1,h2,h3⟩:=h;exact⟨vs,hc.out h1 (fun _ z=>by cases z),h2,h3.off hc hb⟩
 |exc c=>obtain⟨C,h1,h2⟩:=h;exact⟨C,h1,hc.out h2 (fun _ z=>by cases z)⟩
 |tab x q=>obtain⟨h0,ps,h1,h2,h3⟩:=h;exact⟨h0,ps,hc.out h1 (fun _ z=>by cases z),h2,fun pos cv z=>let⟨c,z1,z2,z3⟩:=h3 pos cv z;⟨c,z1,z2,hc.out z3 (fun _ z=>by cases z)⟩⟩
theorem StOk.off(hS:StOk K mg ρ H S)(hc:CellsIn H cl)(hb:noCS S=true):StOk K mg ρ (zbv H cl) S :=
 ⟨hS.len,hS.nd,fun i m a e1 e2=>(hS.ob i m a e1 e2).off hc (z6d.mp hb m (z51 e1))⟩
theorem Ext.on(e:Ext ρ (zbv H cl) ρ' H')(hS:StOk K mg ρ' H' S1)(nn:∀b∈cl.map (·.2),H' b=none)(no:∀b∈cl.map (·.2),b∉ρ):Ext ρ H ρ' (onC H' H cl):=by
 refine⟨e.pre,fun b o h n=>?_,fun b h n=>?_⟩
 · by_cases z:b∈cl.map (·.2)
   · rw[zbk z];exact h
   · rw[qz z];exact e.keep b o (by rw[jv z];exact h) n
 · by_cases z:b∈cl.map (·.2)
   · obtain⟨o,y⟩:=hS.mem h;rw[nn b z]at y;cases y
   · rw[<-jv (H:=H) z];exact e.new b h n
theorem ztn(nn:∀b∈cl.map (·.2),H' b=none):Ext ρ' H' ρ' (onC H' H cl) :=
 ⟨fun _ _ e=>e,fun b o h n=>by
   rw[qz (fun z=>by rw[nn b z]at h;cases h)];exact h,fun _ z n=>absurd z n⟩
theorem StOk.on(hS:StOk K mg ρ' H' S1)(nn:∀b∈cl.map (·.2),H' b=none):StOk K mg ρ' (onC H' H cl) S1 :=
 ⟨hS.len,hS.nd,fun i m a e1 e2=>by
   have q:=hS.ob i m a e1 e2;obtain⟨u,z⟩:=q.some;exact q.mono (ztn nn) (qz (fun y=>by rw[nn a y]at z;cases z))⟩
theorem Cells.out:∀{xs:List Str}{us:List V}{cl:zLA},Cells ρ H xs us cl->∀b∈cl.map (·.2),b∉ρ
 | [],[],[],_,b,hb=>by cases hb
 | x::xs,u::us,p::cl,h,b,hb=>by
   rw[z5j]at hb;rcases z5p.mp hb with rfl | hb
   · exact h.2.1
   · exact Cells.out h.2.2.2 b hb
 | [],[],_::_,h,_,_=>h.elim
 | [],_::_,_,h,_,_=>h.elim
 |_::_,[],_,h,_,_=>h.elim
 |_::_,_::_,[],h,_,_=>h.elim
theorem Cells.cin{xs:List Str}{us:List V}(h:Cells ρ H xs us cl):CellsIn H cl:=fun b hb=>let⟨o,_,h1,_⟩:=h.at b hb;⟨o,h1⟩
end
def zm9(K:zFr)(mg:zMg)(t:LT)(a c:Addr)(pm ct:Value)(cl:zLA)(g:G):Sp:=fun vs H Q _=>∃ρ ds S d S' us kv,RepL K mg ρ H ds vs/\StOk K mg ρ H S/\H a=some (.ext (zje t cl a c pm ct))/\H c=some (.ext (yw c t.qual))/\(cl.map (·.2)).Nodup/\Cells ρ H t.caps us cl/\RepL K mg ρ H kv us /\
 (noCL ds&&noCL kv&&noCS S)=true/\g (ds++kv) S=some (d,S')/\ds.length=t.params.args.length/\∀v ρ' H',Ext ρ H ρ' H'->StOk K mg ρ' H' S'->Rep K mg ρ' H' d v->Q v H'
section
variable {P:Program}{w:World}{K:Frag}{mg:zMg}{base:Heap}{k:Nat}{t:LT}{ps:List Str}{f:E}
theorem z0k(S:CloScope ps t.caps t.scope)(hpl:ps.length=t.params.args.length)(a c:Addr)(pm ct:Value)(cl:zLA)
   (hbody:∀(A:Around) (outer:List Env) (s:Shared) (H H1:Hp) (E:XK),Room k (A.deeper (envX t.qual t.scope s.heap.objs.size a (.ref c) cl))->FE (cxC P w K mg base (ps++t.caps) t.qual t.scope a (.ref c) cl A outer s H H1 E).nox t.body f) :
   FnOk P w K mg base CX0 (k+1) a (kla_fn "<lambda>" t.qual t.params t.body t.scope cl pm (.ref c) ct) ps (zm9 K mg t a c pm ct cl (zcp (ps++t.caps).length (ps++t.caps).length f)):=by
 have len:∀vs H Q E,zm9 K mg t a c pm ct cl (zcp (ps++t.caps).length (ps++t.caps).length f) vs H Q E->vs.length=ps.length:=fun vs H Q E h=>by obtain⟨ρ,ds,S,d,S',us,kv,r,_,_,_,_,_,_,_,_,hl,_⟩:=h;rw[<-r.length,hl,hpl]
 refine⟨len,fun A outer s H args us vs Q E hr e0 hb r hsp=>?_⟩;have hl:=len _ _ _ _ hsp;obtain⟨ρ,ds,S0,d,S',cs,kv,rr,hS,hA,hC,hnd,hcs,rk,hno,hf,hdl,kk⟩:=hsp;have lim:s.heap.NoLimit:=e0.mod.nolimit.keeps fun b o e=>(e0.bs b o e).1;have ho:s.heap.get? a=some (kla_obj "<lambda>" t.qual t.params t.body t.scope cl pm c ct):=(e0.hok a _ hA).1;have hcd:s.heap.CodeRec (.ref c) t.qual:=(e0.hok c _ hC).1;have hloc:∀y∈ps.zip us,t.scope.names.lookup y.1=some .local:=fun⟨n,v⟩ hy=>S.par n (z7w hy).1;refine kla_callFunE hr.depth ho rfl S.co S.gen rfl hcd (hb _ _ _ _ ?_);refine wpAny_newFunctionEnv S.nocell hloc (fun h₁ hns hsb=>⟨lim.fresh _ hsb,?_⟩) S.kind;show codeAny _ _ (.expr t.body (envX t.qual t.scope s.heap.objs.size a (.ref c) cl)) _ _;have hk₁:∀b o,s.heap.get? b=some o->h₁.get? b=some o:=fun b o e=>hsb.extBut b o (z5q (z5l e)) (z48 _ e);refine kla_codeExpr ?_;have I:=zl5 (qual:=t.qual) (f:=a) (cd:=.ref c) (E:=E) (tk:=s.toks+(ps.zip us).length) S hr.hd e0 hl r hcs hnd hns hk₁;have cin:=hcs.cin;rw[z6l,z6l]at hno;obtain⟨⟨n1,n2⟩,n3⟩:=hno;unfold zcp at hf;split at hf
 · rename_i hlen;have hpe:=(hbody A outer s H (zbv H cl) E (hr.deeper _)).nox;have rs:RepL K mg ρ (zbv H cl) (ds++kv) (vs++cs):=(rr.off cin n1).append (rk.off cin n2);have ev:EnvR K mg ρ (zbv H cl) ((ds++kv).map some) ((vs++cs).map some):=by
     refine⟨by rw[z7j,z7j,rs.length],fun i x q=>?_⟩;rw[z6s]at q ⊢;cases hx:(ds++kv)[i]? with
     |none=>rw[hx]at q;cases q
     | some y=>
       rw[hx]at q;cases q;obtain⟨v,e1,r1⟩:=rs.get hx;exact⟨v,by rw[e1];rfl,r1⟩
   rw[hlen,z88,List.replicate_zero,z50]at hf;have hb2:∀b∈cl.map (·.2),(∃o,H b=some (.frz o (.own 0)))/\b∉frs outer:=fun b hb=>⟨cin b hb,fun z=>by
     obtain⟨o,y⟩:=cin b hb;rw[e0.frf b z]at y;cases y⟩
   refine z7c (hpe [] _ ((vs++cs).map some) (zbv H cl) (fun v H'=>(∀b∈cl.map (·.2),H' b=none)->Q v (onC H' H cl)) I ⟨ρ,_,S0,d,S',ev,hS.off cin n3,hf,fun v ρ' H' E' hS' r' nn=>?_⟩) (fun v s' hs=>?_) fun e s' hs=>hs
   · exact kk v ρ' _ (E'.on hS' nn hcs.out) (hS'.on nn) (r'.mono (ztn nn))
   · obtain⟨v',H',J,rv,q⟩:=hs;have un:Un (frs outer) [] (zbv H cl) H' s.heap s'.heap:=J.base;have nn:∀b∈cl.map (·.2),H' b=none:=fun b hb=>by obtain⟨⟨o,z⟩,_⟩:=hb2 b hb;exact un.free b o (e0.hok b _ z).1 (zci hb) (by simp)
     exact⟨v',onC H' H cl,J.os,J.bare,z1k un cin,zzt un e0.hok J.hok hb2,rv,q nn⟩
 · cases hf
structure CCal (P:Program) (w:World) (K:Frag) (mg:zMg) (base:Heap) (k:Nat) (t:LT) (g:G):Prop where
 ex:∃ps:List Str,(∀(a c:Addr) (pm ct:Value) (cl:zLA),FnOk P w K mg base CX0 k a (kla_fn "<lambda>" t.qual t.params t.body t.scope cl pm (.ref c) ct) ps (zm9 K mg t a c pm ct cl g)) /\
   ∀(c:Addr) (pm ct:Value) (cl:zLA),Binds K (kla_fn "<lambda>" t.qual t.params t.body t.scope cl pm (.ref c) ct) ps []
theorem CCal.mono{j:Nat}{g:G}(c:CCal P w K mg base j t g)(h:j<=k):CCal P w K mg base k t g :=
 let⟨ps,F,b⟩:=c.ex;⟨ps,fun a c pm ct cl=>(F a c pm ct cl).mono h,b⟩
theorem CCal.of(S:CloScope ps t.caps t.scope)(hpl:ps.length=t.params.args.length)(hb:∀(c:Addr) (pm ct:Value) (cl:zLA) (us:List Value),us.length=ps.length->bindArgs (kla_fn "<lambda>" t.qual t.params t.body t.scope cl pm (.ref c) ct) ⟨us,[]⟩=pure (ps.zip us))
   (hbody:∀(a c:Addr) (cl:zLA) (A:Around) (outer:List Env) (s:Shared) (H H1:Hp) (E:XK),Room k (A.deeper (envX t.qual t.scope s.heap.objs.size a (.ref c) cl))->FE (cxC P w K mg base (ps++t.caps) t.qual t.scope a (.ref c) cl A outer s H H1 E).nox t.body f) :
   CCal P w K mg base (k+1) t (zcp (ps++t.caps).length (ps++t.caps).length f) :=
 ⟨ps,fun a c pm ct cl=>z0k S hpl a c pm ct cl (hbody a c cl),fun c pm ct cl=>.all (hb c pm ct cl)⟩
end
def zfl(ft:Str->Option G)(lt ct:LT->Option G)(f:E)(a:As):E:=fun ev S=>(f ev S).bind fun p=>match p.1 with
 | .fn x=>(ft x).bind fun g=>(a ev p.2).bind fun q=>g q.1 q.2
 | .lam t=>(lt t).bind fun g=>(a ev p.2).bind fun q=>g q.1 q.2
 | .clo t vs=>(ct t).bind fun g=>(a ev p.2).bind fun q=>if(noCL q.1&&noCL vs&&noCS q.2)=true/\q.1.length=t.params.args.length then g (q.1++vs) q.2 else none
 |_=>none
section
variable {X:Cx}{k:Nat}{f:E}{a:As}{e:Expr}{es:List Expr}{pos:Pos}
theorem zkz{fe:Expr}{ft:Str->Option G}{lt ct:LT->Option G}(hT:∀x g,ft x=some g->Cal X.prog X.w X.K X.mg X.base k x g)(hL:∀t g,lt t=some g->LCal X.prog X.w X.K X.mg X.base k t g)(hC:∀t g,ct t=some g->CCal X.prog X.w X.K X.mg X.base k t g)(hr:Room k X.A)(hf:FE X fe f)(ha:FA X (e::es) a)
   (ht:eval (.Call fe (e::es) [] pos) X.env=(eval fe X.env >>= fun v=>callWith pos v [] (backTo pos (starEach (e::es) X.env)) (backToKw pos (keywordEach [] X.env))):=by rfl)
   (he:starEach (e::es) X.env=(false,eval e X.env)::starEach es X.env:=by exact z9 rfl) (hpl:(backTo pos (starEach es X.env)).any (·.1)=false:=by exact qx rfl) :
   FE X (.Call fe (e::es) [] pos) (zfl ft lt ct f a):=by
 intro pins s σ H Q I h;obtain⟨ρ,ev,S,d,S',hE,hS,hf',kk⟩:=h;obtain⟨⟨y,S1⟩,q1,hf'⟩:=zy hf';cases y with
 | fn x=>
   refine zbi (ft:=ft) (lt:=lt) hT hL hr hf ha ht he hpl pins s σ H Q I ⟨ρ,ev,S,d,S',hE,hS,?_,kk⟩;unfold zac;rw[q1];exact hf'
 | lam t=>
   refine zbi (ft:=ft) (lt:=lt) hT hL hr hf ha ht he hpl pins s σ H Q I ⟨ρ,ev,S,d,S',hE,hS,?_,kk⟩;unfold zac;rw[q1];exact hf'
 | clo t kv=>
   rw[ht];dsimp only at hf';obtain⟨g,hx,hf'⟩:=zy hf';obtain⟨⟨ds,S2⟩,q2,hf'⟩:=zy hf';dsimp only at hf';split at hf'
   · rename_i hno;obtain⟨hno,hlen⟩:=hno;obtain⟨ps,F,hb⟩:=(hC t g hx).ex;refine z43 (thn (hf pins s σ H (fun v H1=>∃ρ1 a0 us,v=.ref a0/\Ext ρ H ρ1 H1/\StOk X.K X.mg ρ1 H1 S1/\CloAt ρ1 H1 t us a0/\RepL X.K X.mg ρ1 H1 kv us) I ⟨ρ,ev,S,_,S1,hE,hS,q1,fun v ρ1 H1 E1 hS1 r1=>?_⟩) fun u s1 ⟨v,H1,I1,rv,ρ1,a0,us,ev1,E1,hS1,L1,rk⟩=>?_)
     · unfold Rep at r1;obtain⟨b,us,rfl,L,rk⟩:=r1;exact⟨ρ1,b,us,rfl,E1,hS1,L,rk⟩
     · subst ev1;obtain rfl:u=Value.ref a0:=rv;obtain⟨n0,c,pm,ctv,cl,nc,hA,hC,hnd,hcs⟩:=L1;have at_:∀{H':Hp}{s':Shared},Inv X pins σ H' s'->H' a0=some (.ext (zje t cl a0 c pm ctv))->FnAt a0 s'.heap:=fun J e=>⟨_,_,_,_,(J.hok a0 _ e).1⟩
       refine callWith_F (at_ I1 hA) (thn (ha pos pins s1 σ H1 (fun vs H2=>(H2 a0=some (.ext (zje t cl a0 c pm ctv)))/\zm9 X.K X.mg t a0 c pm ctv cl g vs H2 Q E0) I1 ⟨ρ1,ev,S1,ds,S2,hE.mono E1,hS1,q2,fun vs ρ2 H2 E2 hS2 r2=>?_⟩) fun us s2 ⟨vs,H2,I2,r,hA2,q2⟩=>⟨at_ I2 hA2,?_⟩) he hpl
       · have h1:=E2.keep _ _ hA n0;have h2:=E2.keep _ _ hC nc;exact⟨h1,ρ2,ds,S2,d,S',us,kv,r2,hS2,h1,h2,hnd,hcs.mono E2,rk.mono E2,hno,hf',hlen,fun v ρ' H' E' hS' r'=>kk v ρ' H' ((E1.trans E2).trans E') hS' r'⟩
       · exact zg8 (ds:=[]) (dvs:=[]) (F a0 c pm ctv cl) hr (hb c pm ctv cl) .nil zlv I2 r (by rw[z50];exact q2)
   · cases hf'
 |_=>cases hf'
end
end F
namespace F
open PySem L2 PySem.Spec PySem.Calls PyProof.Rows PySem.W
def za6(ev:Ev):List Nat->Option (List D)
 | []=>some []
 | i::is=>match ev[i]? with
   |some (some d)=>(za6 ev is).map (d::·)
   |_=>none
structure CapsOk (X:Cx) (t:LT) (cl:zLA) (is:List Nat):Prop where
 clo:closureFor t.scope X.env=pure cl
 names:cl.map (·.1)=t.caps
 look:∀p∈cl,X.env.cells.lookup p.1=some p.2
 nd:t.caps.Nodup
 at_:is.map (fun i=>X.N[i]?)=t.caps.map some
 kind:∀x∈t.caps,X.env.scope.names.lookup x=some .cell
 fn:∀x∈t.caps,X.fn x=true
def trk(H:Hp)(h:Heap)(cl:zLA):Hp:=onC H (fun b=>(h.get? b).map fun o=>.frz o (.own 0)) cl
section
variable {X:Cx}{pins:zAO}{σ:L2.St}{H H':Hp}{s:Shared}{t:LT}{cl:zLA}{is:List Nat}{ρ:List Addr}{ev:Ev}{S:Sto}
theorem CapsOk.hn(C:CapsOk X t cl is)(I:Inv X pins σ H s):∀b∈cl.map (·.2),H b=none:=fun b hb=>by obtain⟨p,hp,rfl⟩:=z72.mp hb;exact I.freeC _ _ (C.look p hp)
theorem CapsOk.isc(C:CapsOk X t cl is)(I:Inv X pins σ H s):∀b∈cl.map (·.2),∃o v,s.heap.get? b=some o/\o.data=.cell v:=fun b hb=>by obtain⟨p,hp,rfl⟩:=z72.mp hb;obtain⟨v,o,h1,h2⟩:=I.cell _ _ (C.look p hp);exact⟨o,v,h1,h2⟩
theorem CapsOk.cin(C:CapsOk X t cl is)(I:Inv X pins σ H s):CellsIn (trk H s.heap cl) cl:=fun b hb=>by obtain⟨o,v,h1,_⟩:=C.isc I b hb;exact⟨o,by unfold trk;rw[zbk hb,h1];rfl⟩
theorem CapsOk.nodup(C:CapsOk X t cl is)(I:Inv X pins σ H s):(cl.map (·.2)).Nodup:=by have nd:(cl.map (·.1)).Nodup:=C.names▸C.nd;unfold List.Nodup at nd ⊢;rw[z9l]at nd ⊢;refine nd.imp_of_mem fun {p q} hp hq ne e=>ne ?_;exact I.ok.inj _ _ p.2 (C.look p hp) (by rw[C.look q hq,e])
theorem CapsOk.ext(C:CapsOk X t cl is)(I:Inv X pins σ H s):Ext ρ H ρ (trk H s.heap cl) :=
 ⟨fun _ _ e=>e,fun b o h n=>by
   unfold trk;rw[qz (fun z=>by rw[C.hn I b z]at h;cases h)];exact h,fun _ z n=>absurd z n⟩
theorem CapsOk.st(C:CapsOk X t cl is)(I:Inv X pins σ H s)(hS:StOk X.K X.mg ρ H S):StOk X.K X.mg ρ (trk H s.heap cl) S :=
 hS.on (C.hn I)
theorem CapsOk.hok(C:CapsOk X t cl is)(I:Inv X pins σ H s):HOk X.prog X.w (trk H s.heap cl) s.heap:=fun b u e=>by
 unfold trk at e;by_cases z:b∈cl.map (·.2)
 · obtain⟨o,v,h1,_⟩:=C.isc I b z;rw[zbk z,h1]at e;cases e;exact⟨h1,⟨o,h1⟩⟩
 · rw[qz z]at e;refine(I.hok b u e).stay (fun _ _ _ q=>q) (fun d q=>?_) fun d xs q=>?_
   · unfold trk;rw[qz (fun y=>by rw[C.hn I d y]at q;cases q)];exact q
   · unfold trk;rw[qz (fun y=>by rw[C.hn I d y]at q;cases q)];exact q
theorem CapsOk.env0(C:CapsOk X t cl is)(I:Inv X pins σ H s):Env0 X.prog X.w X.K X.mg X.base X.A X.stack s (trk H s.heap cl):=by
 have e:=I.env0;refine⟨e.frames,e.mod,fun b o h=>⟨(e.bs b o h).1,?_⟩,e.bsz,e.funs,fun b hb=>?_,C.hok I,e.bare⟩
 · unfold trk;rw[qz];exact(e.bs b o h).2;intro z;obtain⟨p,hp,rfl⟩:=z72.mp z;have:=I.ok.cab p.1 p.2 (C.fn _ (C.names▸z6h hp)) (C.look p hp);rw[z77 (z5u I.ok.bsz this)]at h;cases h
 · unfold trk;rw[qz];exact e.frf b hb;intro z;obtain⟨p,hp,rfl⟩:=z72.mp z;rcases z5p.mp (I.stkSub _ hb)with y | y
   · exact I.cne _ _ (C.look p hp) y
   · obtain⟨_,o',h3,_⟩:=I.ok.funs.mem y;have:=I.ok.cab p.1 p.2 (C.fn _ (C.names▸z6h hp)) (C.look p hp);exact absurd (z5l h3) (z8i.mpr this)
theorem zek(C:CapsOk X t cl is)(I:Inv X pins σ H s)(hE:EnvR X.K X.mg ρ H ev σ)(hS:StOk X.K X.mg ρ H S) :
   ∀(cl':zLA) (js:List Nat) (vs:List D),(∀p∈cl',p∈cl)->js.map (fun i=>X.N[i]?)=cl'.map (fun p=>some p.1)->za6 ev js=some vs->∃us,Cells ρ (trk H s.heap cl) (cl'.map (·.1)) us cl'/\RepL X.K X.mg ρ H vs us
 | [],[],vs,_,_,h=>by cases h;exact⟨[],trivial,RepL.nil⟩
 | [],_::_,_,_,e,_=>by cases e
 |_::_,[],_,_,e,_=>by cases e
 | p::cl',i::js,vs,hm,e,h=>by
   rw[z5j,z5j]at e;obtain⟨e1,e2⟩:=qam e;unfold za6 at h;split at h
   · rename_i d hd;obtain⟨vs',hv,h⟩:=zaq h;subst h;obtain⟨us,c1,r1⟩:=zek C I hE hS cl' js vs' (fun q hq=>hm q (z46 _ hq)) e2 hv;obtain⟨v,hσ,rd⟩:=hE.at_ i d hd;obtain⟨m,hns,hl⟩:=I.loc;have hp:=hm p z5d;have hpm:p.1∈t.caps:=C.names▸z6h hp;have kd:=C.kind _ hpm;obtain⟨u,ru,lk⟩:=hl i p.1 v e1 hσ (.inr (.inl kd));have hb:p.2∈cl.map (·.2):=z6h hp;refine⟨v::us,⟨rfl,hS.fresh (C.hn I _ hb),?_,c1⟩,RepL.cons rd r1⟩;rcases lk with⟨k1,_⟩ | ⟨_,c,z1,o,z2,z3⟩
     · have:X.env.scope.names.lookup p.1=some .local:=k1;rw[kd]at this;cases this
     · rw[C.look p hp]at z1;cases z1;exact⟨o,u,by unfold trk;rw[zbk hb,z2];rfl,z3,ru⟩
   · cases h
theorem zsl{fs:List Addr}{h h':Heap}(hn:∀b∈cl.map (·.2),H b=none)(u:Un fs [] (trk H h cl) H' h h')(x:∀b∈cl.map (·.2),∃o,h.get? b=some o)(y:∀b o w,H' b=some (.frz o w)->h'.get? b=some o):Un fs [] H (zbv H' cl) h h':=by
 have out:∀b,b∉cl.map (·.2)->trk H h cl b=H b:=fun b z=>qz z;have kp:∀b∈cl.map (·.2),∀o,h.get? b=some o->h'.get? b=some o:=fun b hb o e=>y b o (.own 0) (u.frzs b o _ (by unfold trk;rw[zbk hb,e];rfl));have ne:∀b v,H b=some v->b∉cl.map (·.2):=fun b v e z=>by rw[hn b z]at e;cases e
 refine⟨fun b o e n hb hx=>?_,fun b o e n hb hx=>?_,fun b o e n hx=>?_,u.there,fun b xs e=>?_,fun b o v e=>?_,fun b ps e=>?_⟩
 · by_cases z:b∈cl.map (·.2)
   · exact kp b z o e
   · exact u.keep b o e (by rw[out b z];exact n) hb hx
 · by_cases z:b∈cl.map (·.2)
   · exact⟨o.slots,kp b z o e⟩
   · exact u.slot b o e (by rw[out b z];exact n) hb hx
 · by_cases z:b∈cl.map (·.2)
   · exact zci z
   · exact ku (u.free b o e (by rw[out b z];exact n) hx)
 · rw[jv (ne b _ e)];exact u.tups b xs (by rw[out b (ne b _ e)];exact e)
 · rw[jv (ne b _ e)];exact u.frzs b o v (by rw[out b (ne b _ e)];exact e)
 · obtain⟨more,q⟩:=u.tbls b ps (by rw[out b (ne b _ e)];exact e);exact⟨more,by rw[jv (ne b _ e)];exact q⟩
theorem zoq{c:Addr}{pm ct:Value}{h':Heap}{tk:Nat}(I:Inv X pins σ H s)(hk:∀b o,s.heap.get? b=some o->h'.get? b=some o)(hsz:s.heap.objs.size<=h'.objs.size) :
   Inv X pins σ (upd H h'.objs.size (.ext (zje t cl h'.objs.size c pm ct))) { s with heap:=h'.push (kla_obj "<lambda>" t.qual t.params t.body t.scope cl pm c ct),toks:=tk }:=by
 refine I.laid (t':=tk) (fun b o e=>z48 _ (hk b o e)) hsz ?_;refine⟨z53 _ rfl,⟨_,z53 _ rfl⟩,fun h1 h2 p k=>k _ p⟩
def z3b(K:Frag)(mg:zMg)(j:Nat)(x:Str)(t:LT)(cl:zLA):TE:=fun σ H Q=>∃ρ S,StOk K mg ρ H S/\S[j]? = some (.tab x t.qual) /\
 ∀a c pm ct H',Ext ρ H ρ H'->StOk K mg ρ H' S->a∉ρ->c∉ρ->H' a=some (.ext (zje t cl a c pm ct))->H' c=some (.ext (yw c t.qual))->Q (.ref a) H'
theorem zyl{x:Str}{params:Arguments}{body:Expr}{scope:Scope}{pos:Pos}{caps:List Str}(j:Nat)(hcd:zcc X.K X.mg x X.env.code)(hb:zms X.base X.mg)(hcl:closureFor scope X.env=pure cl)(hdef:defaultsOf params X.env=([],[]):=by rfl) :
   PE X (.Lambda params body scope pos) (z3b X.K X.mg j x ⟨params,body,scope,X.env.qual++"<lambda>",caps,[]⟩ cl):=by
 intro pins s σ H Q I h;obtain⟨ρ,S,hS,hj,k⟩:=h;obtain⟨P,hP,T,ps,hps,htr,hcs⟩:=hS.adr hj;obtain⟨f1,o1,fd1,c1,e1,e2,e3,e4,e5⟩:=T;obtain⟨f2,o2,fd2,g1,g2,g3,g4⟩:=hcd;rw[e1]at g1;cases g1;rw[e2]at g2;cases g2;rw[e3]at g3;cases g3;have hcode:X.env.code=.ref c1:=g4.symm.trans e4;have C:CodeHd s.heap c1 P:=codeHd_of_K I.kIn e5;have hPt:s.heap.get? P=some (tabObj ps):=I.hok P _ hps;have bs:=I.bs;have nP:∀b o,X.base.get? b=some o->b≠P:=fun b o e z=>by have:=(bs b o e).2;rw[z,hps]at this;cases this
 have hg:s.heap.Ns mainGlobals X.mg:=by obtain⟨o,es,ep,ho,r⟩:=I.mod.glob;exact⟨o,es,ep,I.bk _ _ ho,r⟩
 have hgP:mainGlobals≠P:=by obtain⟨o,es,ep,ho,r⟩:=I.mod.glob;exact nP _ _ ho
 obtain⟨bm,ob,b1,b2,b3,b4,b5,b6,b7⟩:=hb;have hBA:s.heap.BuiltinsAt X.mg P:=⟨bm,ob,b1,b2,b3,nP _ _ b4,I.bk _ _ b4,b5,b6,b7⟩
 refine kla_eval hdef ?_;cases hca:codeAmong pos ps.toList with
 | none=>
   refine kla_makeFunction hcl I.ok.glob hg hcode C hPt htr hca hgP hBA fun c' ctv h' tk hx hge hlt hrec htb=>?_;have hn:H c'=none:=I.hok.fresh hge;have I1:=zoo (q:=X.env.qual++"<lambda>") (tk:=tk) I hps hx htb hge hrec;have I2:=zoq (t:=⟨params,body,scope,X.env.qual++"<lambda>",caps,[]⟩) (cl:=cl) (c:=c') (pm:=(X.mg "__name__").getD .none) (ct:=ctv) (h':=h') (tk:=tk) I1 (fun _ _ e=>e) (z44 _);obtain⟨E1,S1⟩:=zj0 (a:=pos.line) (b:=pos.col) hS hj hP hps hn;have hf:=I1.hok.fresh (a:=h'.objs.size) (z44 _);have E2:=jh S1 (.ext (zje ⟨params,body,scope,X.env.qual++"<lambda>",caps,[]⟩ cl h'.objs.size c' ((X.mg "__name__").getD .none) ctv)) hf;exact⟨.ref h'.objs.size,_,I2,rfl,k _ c' _ _ _ (E1.trans E2) (S1.new _ hf) (S1.fresh hf) (hS.fresh hn) qo (by rw[qd (z5q hlt),qo])⟩
 | some cv=>
   obtain⟨c',rfl,nc,hc'⟩:=hcs pos cv hca;refine kla_makeFunctionHit hcl I.ok.glob hg hcode C hPt htr hca hBA fun ctv h' tk hk hsz=>?_;have hf:H h'.objs.size=none:=I.hok.fresh hsz;have I2:=zoq (t:=⟨params,body,scope,X.env.qual++"<lambda>",caps,[]⟩) (cl:=cl) (c:=c') (pm:=(X.mg "__name__").getD .none) (ct:=ctv) (h':=h') (tk:=tk) I hk hsz;have E2:=jh hS (.ext (zje ⟨params,body,scope,X.env.qual++"<lambda>",caps,[]⟩ cl h'.objs.size c' ((X.mg "__name__").getD .none) ctv)) hf;exact⟨.ref h'.objs.size,_,I2,rfl,k _ c' _ _ _ E2 (hS.new _ hf) (hS.fresh hf) nc qo (E2.keep _ _ hc' nc)⟩
end
end F
namespace F
open PySem L2 PySem.Spec PyProof.Rows
def zeg(g:As):E:=fun ev S=>(g ev S).bind fun q=>match q.1 with
 | [.tup ds]=>some (.lst ds,q.2)
 | [.lst ds]=>some (.lst ds,q.2)
 | [.obj i]=>(match q.2[i]? with
   |some (.lst ds)=>some (.lst ds,q.2)
   |_=>none)
 |_=>none
section
variable {X:Cx}{e:Expr}{es:List Expr}{f:E}{g:As}{p pos:Pos}
theorem zkw(hm:X.mg "list"=none)(ha:FA X (e::es) g)(hg:Gl X "list":=by rfl)(he:starEach (e::es) X.env=(false,eval e X.env)::starEach es X.env:=by exact z9 rfl)(hpl:(backTo pos (starEach es X.env)).any (·.1)=false:=by exact qx rfl):FE X (.Call (.Name "list" p) (e::es) [] pos) (zeg g) :=
 jf (zha zcy hg hm zeo ha (by decide) (by decide) he hpl) fun σ H Q h=>by
   obtain⟨ρ,ev,S,d,S',hE,hS,hf,k⟩:=h;obtain⟨⟨x,S1⟩,q1,hf⟩:=zy hf;refine⟨ρ,ev,S,x,S1,hE,hS,q1,fun vs ρ1 H1 E1 hS1 r1=>?_⟩;have fin:∀{us:List V}{ds:List D},RepL X.K X.mg ρ1 H1 ds us->(d,S')=(D.lst ds,S1)->∀l,H1 l=none->Q (.ref l) (upd H1 l (.lst us)):=by intro us ds r e l hl;cases e;exact k _ ρ1 _ (E1.trans (jh hS1 _ hl)) (hS1.new _ hl) (Rep.lst (s:=hS1) hl r)
   dsimp only at hf;split at hf
   · obtain⟨v,rfl,r⟩:=one r1;obtain⟨b,us,rfl,t,r⟩:=r.refT;exact⟨b,us,rfl,.inr t.sq,fin r (z58 hf).symm⟩
   · obtain⟨v,rfl,r⟩:=one r1;obtain⟨b,us,rfl,t,r⟩:=r.refL;exact⟨b,us,rfl,.inl t.sq,fin r (z58 hf).symm⟩
   · rename_i i _;split at hf
     · rename_i ds eu;obtain⟨v,rfl,r⟩:=one r1;unfold Rep at r;obtain⟨a,rfl,ea⟩:=r;obtain⟨us,m1,m2⟩:=hS1.ob _ _ a eu ea;exact⟨a,us,rfl,.inl (.of m1),fin m2 (z58 hf).symm⟩
     · cases hf
   · cases hf
end
end F
namespace F
open PySem L2 PySem.Spec PyProof.Rows PySem.W
section
variable {X:Cx}{o e lo hi:Expr}{pos pos' p2:Pos}{f h:E}{u w:Pt}
def z3d(f:E)(a b:Pt)(v:E):C:=fun ev S=>(v ev S).bind fun p=>(f ev p.2).bind fun q=>(a ev q.2).bind fun r=>(b ev r.2).bind fun t=>match p.1,q.1,r.1,t.1 with
 | .lst ys,.obj i,some lo,some hi=>(match t.2[i]? with
   |some (.lst ds)=>if 0<=lo/\lo<=hi/\hi<=ds.length/\ds.length+ys.length<=sizeLine then some (.nx ev,t.2.set i (.lst (ds.take lo.toNat++ys++ds.drop hi.toNat)))else none
   |_=>none)
 |_,_,_,_=>none
end
section
variable {X:Cx}{K:Frag}{mg:zMg}{a b:Expr}{f g:E}{pos:Pos}
def z1x(S:Sto):D->Option (List D)
 | .lst ds=>some ds
 | .obj a=>(match S[a]? with
   |some (.lst ds)=>some ds
   |_=>none)
 |_=>none
end
section
variable {X:Cx}{K:Frag}{mg:zMg}{e o l:Expr}{f g:E}{pos apos spos px pt:Pos}{body:C}
def z3x(f:E):E:=fun ev S=>(f ev S).bind fun p=>match p.1 with
 | .obj a=>(match p.2[a]? with
   |some (.lst _)=>some (.non,p.2.set a (.lst []))
   |_=>none)
 |_=>none
def zy6(a i:Nat)(body:C):Nat->Nat->Ev->Sto->Option (Out×Sto)
 |0,_,_,_=>none
 | n+1,j,ev,S=>match S[a]? with
   | some (.lst ds)=>(match ds[j]? with
     |none=>some (.nx ev,S)
     | some d=>(body (ev.set i (some d)) S).bind fun p=>(match p.1 with
       | .nx e=>zy6 a i body n (j+1) e p.2
       | .ct e=>zy6 a i body n (j+1) e p.2
       | .bk e=>some (.nx e,p.2)
       | .rt x=>some (.rt x,p.2)))
   |_=>none
def zbn(a:Nat)(is:List Nat)(body:C):Nat->Nat->Ev->Sto->Option (Out×Sto)
 |0,_,_,_=>none
 | n+1,j,ev,S=>match S[a]? with
   | some (.lst ds)=>(match ds[j]? with
     |none=>some (.nx ev,S)
     | some (.tup us)=>(y4 ev is us).bind fun e1=>(body e1 S).bind fun p=>(match p.1 with
       | .nx e=>zbn a is body n (j+1) e p.2
       | .ct e=>zbn a is body n (j+1) e p.2
       | .bk e=>some (.nx e,p.2)
       | .rt x=>some (.rt x,p.2))
     |_=>none)
   |_=>none
def zg7(is:List Nat)(f:E)(body:C):C:=fun ev S=>(f ev S).bind fun p=>match p.1 with
 | .obj a=>(match p.2[a]? with
   |some (.lst ds)=>zbn a is body (ds.length+1) 0 ev p.2
   |_=>none)
 |_=>none
theorem zrk(is:List Nat){es:List Expr}{t:TGs}{kk:Nat}{sb:List Stmt}(hn:Names X es is t)(hl:FE X l f)(hb:FSs X sb body)(hp:PassesOwn (model X.prog X.w) X.A X.env X.xe)(hc:X.calm=true:=by rfl)(hln:(assignEach es X.env).length=is.length:=by rfl)(hst:(assignEach es X.env).findIdx? (·.1)=none:=by rfl)
   (hs:∀v,foldedSetIterable l X.env v=pure v:=by intro _;rfl) :
   FS X (.For (.Tuple es kk pt) l sb [] pos) (zg7 is f body) :=
 kr (zs4 hp hc (zir hl) (zs8 hc hn.pgs hln hst) hb hs) fun σ H D h=>by
   obtain⟨ρ,ev,S,o,S',hE,hS,hf,k⟩:=h;obtain⟨⟨d,S1⟩,q1,hf⟩:=zy hf;cases d with
   | obj a=>
     dsimp only at hf;split at hf
     · rename_i ds hd;refine⟨ρ,ev,S,_,S1,hE,hS,q1,fun v ρ1 H1 E1 hS1 r1=>?_⟩;unfold Rep at r1;obtain⟨p,rfl,hp⟩:=r1;obtain⟨us,hu,ru⟩:=hS1.ob a _ p hd hp;have k1:=k.ext E1;refine⟨p,rfl,⟨us,SqL.of hu⟩,fun j m σ' H'=>∃ρ' ev' S2,Ext ρ1 H1 ρ' H'/\StOk X.K X.mg ρ' H' S2/\EnvR X.K X.mg ρ' H' ev' σ'/\zbn a is body m j ev' S2=some (o,S'),⟨ds.length+1,ρ1,ev,S1,Ext.refl _ _,hS1,hE.mono E1,hf⟩,?_⟩;rintro j m σ' H' ⟨ρ',ev',S2,e0,hS2,hE2,hl2⟩;cases m with
       |zero=>cases hl2
       | succ m=>
         unfold zbn at hl2;split at hl2
         · rename_i ds2 hd2;obtain⟨us2,hu2,ru2⟩:=hS2.ob a _ p hd2 (e0.pre _ _ hp);split at hl2
           · rename_i hj;cases hl2;refine .inl ⟨⟨us2,SqL.of hu2,?_⟩,k1 σ' ρ' H' e0 hS2 hE2⟩;have:=ru2.length;have:=List.getElem?_eq_none_iff.mp hj;omega
           · rename_i ws hj;obtain⟨y,ey,ry⟩:=ru2.get hj;obtain⟨e1,q2,hl2⟩:=zy hl2;obtain⟨⟨o1,S3⟩,q3,hl2⟩:=zy hl2;refine .inr ⟨⟨us2,y,SqL.of hu2,ey⟩,fun σ3 H3=>∃ρ3 ev3 S3,Ext ρ1 H1 ρ3 H3/\StOk X.K X.mg ρ3 H3 S3/\EnvR X.K X.mg ρ3 H3 ev3 σ3/\zbn a is body m (j+1) ev3 S3=some (o,S'),fun σ3 H3 z=>⟨m,z9s m,z⟩,fun x H3 ⟨eH,hx⟩=>?_⟩;subst eH;have ex:=hx us2 (SqL.of hu2);rw[ey]at ex;cases ex;unfold Rep at ry;obtain⟨pp,vs,rfl,tt,rr⟩:=ry;refine⟨pp,vs,rfl,tt.sq,by rw[<-rr.length];exact zch q2,zkh hn rr hE2 q2 fun σ2 hE3=>⟨ρ',e1,S2,o1,S3,hE3,hS2,q3,?_⟩⟩;cases o1 with
             |nx e=>exact fun σ3 ρ3 H3 E3 hS3 hE4=>⟨ρ3,e,S3,e0.trans E3,hS3,hE4,hl2⟩
             |ct e=>exact fun σ3 ρ3 H3 E3 hS3 hE4=>⟨ρ3,e,S3,e0.trans E3,hS3,hE4,hl2⟩
             |bk e=>cases hl2;exact fun σ3 ρ3 H3 E3 hS3 hE4=>k1 σ3 ρ3 H3 (e0.trans E3) hS3 hE4
             |rt y=>cases hl2;exact fun v3 ρ3 H3 E3 hS3 r3=>k1 v3 ρ3 H3 (e0.trans E3) hS3 r3
           · cases hl2
         · cases hl2
     · cases hf
   |_=>cases hf
end
end F
namespace F
open PySem L2 PySem.Spec PyProof.Rows PySem.W PySem.Calls
theorem zvm:typeLookup (.type "list_reverseiterator") "__len__"=pure none:=by rw[typeLookup_type,builtinLookup_eq_fast];kernel_rfl
theorem zra:typeLookup (.type "list_reverseiterator") "__length_hint__"=pure (some (.builtin "list_reverseiterator.__length_hint__")):=by rw[typeLookup_type,builtinLookup_eq_fast];kernel_rfl
theorem zvl:isSubtype (.type "list_reverseiterator") (.type "list_reverseiterator")=pure true:=by rw[isSubtype_type];kernel_rfl
section
variable {prog:Program}{w:World}{A:Around}{s:Shared}{it l:Addr}{items:Array Value}
def zp5(items:Array Value):Nat->Value->Prop:=fun i v=>items[items.size-1-i]? = some v
theorem zqq{E:zVP}{Q:Bool->Shared->Prop}{i:Int}(hit:s.heap.IsRevIter it l i)(h:Q false s):wpAny (model prog w) A (Builtin.List.listLengthHint (.ref it)) Q E s:=by unfold Builtin.List.listLengthHint;refine z43 (wpAny_specialOf hit.typeIs zvm ?_);refine z43 (wpAny_specialOf (name:=Str.ofString "__length_hint__") hit.typeIs zra ?_);refine z43 (wpAny_isInstance hit.typeIs zvl ?_);exact z5n h
variable {R:Result->Shared->Prop}
theorem zlp(hh:A.handled=none)(hne:l≠it)(hl:s.heap.IsList l items)(hit:s.heap.IsRevIter it l ((items.size:Int)-1))(hn:items.size<=sizeLine){S:Addr}{c₀:Nat}
   (hS:s.heap.get? S=some { cls:=.type "list",data:=.seq #[] c₀ }) (h1:S≠it) (h2:S≠l)
   (hR:∀s' acc' c',Moved [S,it] (fun a b=>b=a) s s'->s'.heap.get? S=some { cls:=.type "list",data:=.seq acc' c' }->ItemsOf (zp5 items) acc' items.size->R (.ok (.ret .none)) s') :
   wpAny (model prog w) A.in1 (Builtin.List.listExtendWith (.ref S) (.ref it) .none) (fun fin s'=>match fin with
     | .done f=>R (.ok f) s'
     | .again c'=>c'.quiet=true/\codeAny (model prog w) A c' R s') (fun e s'=>R (.error e) s') s:=by
 have W:=(Walks.listRev (prog:=prog) (w:=w) (A:=A.in1) hh it l hne items).toS;have st0:(0:Nat)<=items.size/\s.heap.IsRevIter it l ((items.size:Int)-1-((0:Nat):Int))/\s.heap.IsList l items:=⟨z54 _,by simpa using hit,hl⟩
 have nf:S∉[it,l]:=by simp[h1,h2]
 have ns:Builtin.List.listSameRef (.ref S) (.ref it)=false:=by unfold Builtin.List.listSameRef;simpa using h1
 unfold Builtin.List.listExtendWith;refine z43 (wpAny_typeOf hit.typeIs ?_);rw[ns,z5y (by decide)];refine z43 (W.self 0 _ _ _ st0 (z43 (wpAny_holding (zqq hit ?_))));rw[z5y (by decide +kernel)];refine z5n ⟨plainId_quiet F.plain_extend_loop _,?_⟩;exact codeAny_extend_loopS W hn S nf .none items.size 0 s #[] c₀ (Nat.sub_zero _) (z54 _) st0 hS (ItemsOf.nil _) fun s' acc' c' m hs ha=>hR s' acc' c' m hs ha
theorem zqp(hh:A.handled=none)(hne:l≠it)(hl:s.heap.IsList l items)(hit:s.heap.IsRevIter it l ((items.size:Int)-1))(hn:items.size<=sizeLine){S:Addr}
   (hS:s.heap.get? S=some { cls:=.type "list",data:=.seq #[] }) (h1:S≠it) (h2:S≠l)
   (hR:∀s' acc' c',Moved [S,it] (fun a b=>b=a) s s'->s'.heap.get? S=some { cls:=.type "list",data:=.seq acc' c' }->ItemsOf (zp5 items) acc' items.size->R (.ok (.ret .none)) s') :
   wpAny (model prog w) A.in1 (Builtin.«list.__init__» ⟨[.ref S,.ref it],[]⟩) (fun fin s'=>match fin with
     | .done f=>R (.ok f) s'
     | .again c'=>c'.quiet=true/\codeAny (model prog w) A c' R s') (fun e s'=>R (.error e) s') s:=by
 show wpAny _ A.in1 (Builtin.List.listItems (.ref S) >>= fun old=>Builtin.List.listUpdate (.ref S) (fun _=>#[]) >>= fun _=>letGo old.toList.reverse >>= fun _=>Builtin.List.listExtendWith (.ref S) (.ref it) .none) _ _ s;unfold Builtin.List.listItems;refine z43 (z43 (wpAny_seqItems hS rfl (z5n ?_)));unfold Builtin.List.listUpdate;refine z43 (wpAny_updateSeq hS rfl (z43 (wpAny_letGo ?_)));have hS2:=z9p (Obj.mapSeq (fun _=>(#[]:Array Value))) hS rfl;have keep:∀b o,b≠S->s.heap.get? b=some o->(s.heap.update S (Obj.mapSeq (fun _=>(#[]:Array Value)))).get? b=some o:=fun b o hb e=>(z9g _ _ (z7q hb)).trans e;refine zlp hh hne (hl.at fun o e=>keep l o (z7q h2) e) (hit.at fun o e=>keep it o (z7q h1) e) hn hS2 h1 h2 fun s' acc' c' m hs ha=>hR s' acc' c' ?_ hs ha;exact Moved.trans (fun _ _ _ p q=>q.trans p) ((Moved.refl (wr:=[S,it]) (G:=fun a b=>b=a) (s:=s) fun _=>rfl).then_heap (z44 _) fun b o hb e=>keep b o (fun z=>hb (by simp[z])) e) m
theorem zgm{E:zVP}{Q:zVP}(hh:A.handled=none)(hne:l≠it)(hl:s.heap.IsList l items)(hit:s.heap.IsRevIter it l ((items.size:Int)-1))(hn:items.size<=sizeLine)
   (hQ:∀s' acc' c',Moved [s.heap.objs.size,it] (fun a b=>b=a) { s with heap:=s.heap.push { cls:=.type "list",data:=.seq #[] } } s'->s'.heap.get? s.heap.objs.size=some { cls:=.type "list",data:=.seq acc' c' }->ItemsOf (zp5 items) acc' items.size->Q (.ref s.heap.objs.size) s') :
   wpAny (model prog w) A (call (.type "list") [.ref it]) Q E s:=by
 obtain⟨o1,e1,_⟩:=id hl;obtain⟨o2,e2,_⟩:=id hit;refine callType_codes (Q₁:=fun obj s₁=>obj=.ref s.heap.objs.size/\s₁={ s with heap:=s.heap.push { cls:=.type "list",data:=.seq #[] } }) F.called_list (F.typeCall_list_1 _) F.entry_list_init (code_list_new _ ⟨rfl,rfl⟩) fun obj s₁ h₁=>?_;obtain⟨rfl,rfl⟩:=h₁;have hS:(s.heap.push { cls:=.type "list",data:=.seq #[] }).get? s.heap.objs.size=some { cls:=.type "list",data:=.seq #[] }:=z53 _ rfl;refine⟨⟨_,hS,rfl⟩,F.args_list_init_2 _ _,zqp (A:=A.in1) hh hne (hl.at fun o e=>z48 _ e) (hit.at fun o e=>z48 _ e) hn hS ?_ ?_ fun s' acc' c' m hs ha=>⟨rfl,hQ s' acc' c' m hs ha⟩⟩
 · exact fun z=>z69 _ (z▸z5l e2)
 · exact fun z=>z69 _ (z▸z5l e1)
end
section
variable {X:Cx}{e:Expr}{te:TE}{f:E}{p p2 pos pos2:Pos}
theorem zgu:bootBuiltins "reversed"=some (.type "reversed"):=by with_unfolding_all rfl
theorem znk{its:List Value}{acc:Array Value}(h:ItemsOf (zp5 its.toArray) acc its.toArray.size):acc=its.reverse.toArray:=by
 apply Array.toList_inj.mp;obtain⟨h1,h2⟩:=h;rw[z5f]at h1;have l1:acc.toList.length=its.length:=by rw[Array.length_toList];exact h1
 apply List.ext_getElem
 · rw[l1,z6o]
 · intro j q1 q2;have q3:j<its.length:=by rw[<-l1];exact q1
   have e1:acc[j]? = some acc.toList[j]:=by rw[<-z6e];exact z49 q1
   have e2:=h2 j _ e1;unfold zp5 at e2;rw[z5f,<-z6e,z49 (by show its.length-1-j<its.length;omega)]at e2;have e3:=z58 e2;rw[<-e3,List.getElem_reverse]
def z32(K:zFr)(te:TE):TE:=fun σ H Q=>te σ H fun x H1=>∃a xs,x=.ref a/\SqL K H1 a xs/\∀l,H1 l=none->Q (.ref l) (upd H1 l (.lst xs.reverse))
theorem zlu(he:PE X e te)(hc:X.calm=true)(hm:X.mg "list"=none)(hm2:X.mg "reversed"=none)(hg:Gl X "list")(hg2:Gl X "reversed")
   (h1:starEach [.Call (.Name "reversed" p2) [e] [] pos2] X.env=(false,eval (.Call (.Name "reversed" p2) [e] [] pos2) X.env)::starEach [] X.env) (h2:starEach [e] X.env=(false,eval e X.env)::starEach [] X.env) :
   PE X (.Call (.Name "list" p) [.Call (.Name "reversed" p2) [e] [] pos2] [] pos) (z32 X.K te):=by
 intro pins s σ H Q I h;refine z6w (zdy I hg hm zeo ?_ (by decide) (by decide));refine z7u ?_ h1 rfl;rw[h1];show wpAny _ _ (spliced ((false,eval (.Call (.Name "reversed" p2) [e] [] pos2) X.env)::[])) _ _ s;refine PySem.Calls.spliced_cons ?_;refine z6w (zdy I hg2 hm2 zgu ?_ (by decide) (by decide));have h':=zf0 he zn0 h2 pos2 pins s σ H (fun vs H1=>match vs with
   | [x]=>∃a xs,x=.ref a/\SqL X.K H1 a xs/\∀l,H1 l=none->Q (.ref l) (upd H1 l (.lst xs.reverse))
   |_=>False) I h
 refine z7u (thn h' fun us s1 ⟨vs,H1,I1,r1,q1⟩=>?_) h2 rfl
 match vs,r1,q1 with
 | [x],r1,q1=>
   obtain⟨a,xs,rfl,hq,q⟩:=q1;obtain⟨u,rfl,ru⟩:=r1.one;cases ru;obtain⟨its,rv,pl,hz⟩:=I1.list hq;have hlen:=rv.length;have hl:s1.heap.IsList a its.toArray:=pl.isList;obtain⟨oa,ea,_⟩:=id hl;refine call_reversed_list hl ?_;refine PySem.Calls.spliced_nil ?_;have hne:a≠s1.heap.objs.size:=fun z=>z69 _ (z▸z5l ea);refine zgm (items:=its.toArray) (I.ok.hd hc) hne (hl.at fun o e=>z48 _ e) ⟨_,z53 _ rfl,rfl,rfl⟩ (by rw[z5f];omega) fun s' acc' c' m hs ha=>?_;have es:=znk ha;subst es;obtain⟨h',g',d',t',o'⟩:=s';have e1:=m.gens;have e2:=m.drawn;have e3:=m.os;dsimp only at e1 e2 e3 hs;subst e1 e2 e3;have sz:(s1.heap.push (revObj a ((its.toArray.size:Int)-1))).objs.size=s1.heap.objs.size+1:=qaf ..;have kp:∀b o,s1.heap.get? b=some o->h'.get? b=some o:=fun b o e=>by have lt:=z5l e;refine m.heap b o ?_ (z48 _ (z48 _ e));simp only[sz,z5p,List.not_mem_nil,or_false,not_or];exact⟨z5q (z8w lt),z5q lt⟩
   rw[sz]at hs;refine⟨.ref (s1.heap.objs.size+1),_,I1.laid (t':=t') (h':=h') kp (z9i _) (show ObjOk X.prog X.w _ h' _ (.lst xs.reverse) from⟨by rw[z6o];exact hz,its.reverse,c',rv.reverse,hs⟩),?_,q _ (I1.hok.fresh (z9i _))⟩;show Value.ref _=Value.ref _;rw[sz]
def zb7(f:E):E:=fun ev S=>(f ev S).bind fun p=>match p.1 with
 | .lst ds=>some (.lst ds.reverse,p.2)
 |_=>none
theorem zfh(hm:X.mg "list"=none)(hm2:X.mg "reversed"=none)(he:FE X e f)(hc:X.calm=true:=by rfl)(hg:Gl X "list":=by rfl)(hg2:Gl X "reversed":=by rfl)
   (h1:starEach [.Call (.Name "reversed" p2) [e] [] pos2] X.env=(false,eval (.Call (.Name "reversed" p2) [e] [] pos2) X.env)::starEach [] X.env:=by exact z9 rfl) (h2:starEach [e] X.env=(false,eval e X.env)::starEach [] X.env:=by exact z9 rfl) :
   FE X (.Call (.Name "list" p) [.Call (.Name "reversed" p2) [e] [] pos2] [] pos) (zb7 f) :=
 jf (zlu he hc hm hm2 hg hg2 h1 h2) fun σ H Q h=>by
   obtain⟨ρ,ev,S,d,S',hE,hS,hf,k⟩:=h;obtain⟨⟨x,S1⟩,q1,hf⟩:=zy hf;cases x with
   | lst ds=>
     cases hf;refine⟨ρ,ev,S,_,S1,hE,hS,q1,fun v ρ1 H1 E1 hS1 r1=>?_⟩;obtain⟨b,us,rfl,t,r⟩:=r1.refL;exact⟨b,us,rfl,t.sq,fun l hl=>k _ ρ1 _ (E1.trans (jh hS1 _ hl)) (hS1.new _ hl) (Rep.lst (s:=hS1) hl r.reverse)⟩
   |_=>cases hf
end
end F
namespace F
open PySem L2 PySem.Spec PySem.Calls PyProof.Rows PySem.W
open Classical in
def zcx(g:G)(a:As)(q:Nat)(t:LT)(cl:zLA)(is:List Nat):E:=fun ev S=>(a ev S).bind fun p=>match ev[q]? with
 |some (some (.lam t'))=>if t'={ t with cl:=cl }then (za6 ev is).bind fun vs=>(g (p.1++[.clo t vs]) p.2).bind fun r=>if(noC r.1&&noCS r.2)=true then some r else none else none
 |_=>none
def z4a(K:Frag)(mg:zMg)(q:Nat)(t:LT)(cl:zLA)(f:As):TA:=fun σ H Q=>∃ρ ev S ds S',EnvR K mg ρ H ev σ/\StOk K mg ρ H S/\f ev S=some (ds,S')/\ev[q]? = some (some (.lam { t with cl:=cl })) /\
 ∀vs a c pm ct ρ' H',Ext ρ H ρ' H'->StOk K mg ρ' H' S'->RepL K mg ρ' H' ds vs->a∉ρ'->c∉ρ'->H' a=some (.ext (zje t cl a c pm ct))->H' c=some (.ext (yw c t.qual))->Q (vs++[.ref a]) H'
def FAD(X:Cx)(es:List Expr)(q:Nat)(t:LT)(cl:zLA)(f:As):Prop:=PA X es (z4a X.K X.mg q t cl f)
section
variable {X:Cx}{t:LT}{cl:zLA}{q:Nat}
theorem zdf{e:Expr}(h:FE X e (eV q))(hs:starEach [e] X.env=[(false,eval e X.env)]:=by exact z9 rfl):FAD X [e] q t cl aN :=
 zfz (zf0 h zn0 hs) fun σ H Q h=>by obtain⟨ρ,ev,S,ds,S',hE,hS,hf,hj,k⟩:=h;cases hf;refine⟨ρ,ev,S,.lam { t with cl:=cl },S,hE,hS,by simp[eV,hj],fun v ρ1 H1 E1 hS1 r1=>?_⟩;unfold Rep at r1;obtain⟨a,rfl,n1,c,pm,ct,n2,h1,h2⟩:=r1;exact k [] a c pm ct ρ1 H1 E1 hS1 RepL.nil n1 n2 h1 h2
theorem xc{e:Expr}{es:List Expr}{f:E}{g:As}(ha:FE X e f)(hr:FAD X es q t cl g)(hs:starEach (e::es) X.env=(false,eval e X.env)::starEach es X.env:=by exact z9 rfl):FAD X (e::es) q t cl (aC f g) :=
 zfz (zf0 ha hr hs) fun σ H Q h=>by obtain⟨ρ,ev,S,d,S',hE,hS,hf,hj,k⟩:=h;obtain⟨⟨x,S1⟩,q1,hf⟩:=zy hf;obtain⟨⟨y,S2⟩,q2,hf⟩:=zy hf;cases hf;refine⟨ρ,ev,S,x,S1,hE,hS,q1,fun v ρ1 H1 E1 hS1 r1=>⟨ρ1,ev,S1,y,_,hE.mono E1,hS1,q2,hj,fun vs a c pm ct ρ2 H2 E2 hS2 r2 n1 n2 h1 h2=>?_⟩⟩;exact k (v::vs) a c pm ct ρ2 H2 (E1.trans E2) hS2 (RepL.cons (r1.mono E2) r2) n1 n2 h1 h2
end
section
variable {X:Cx}{k q:Nat}{x:Str}{g:G}{a:As}{t:LT}{cl:zLA}{is:List Nat}{e:Expr}{es:List Expr}{p pos:Pos}
theorem zdd(cal:Cal X.prog X.w X.K X.mg X.base k x g)(C:CapsOk X t cl is)(hr:Room k X.A)(ha:FAD X (e::es) q t cl a)(hg:Gl X x:=by rfl)(hdb:(x==("__debug__":Str))=false:=by decide)
   (he:starEach (e::es) X.env=(false,eval e X.env)::starEach es X.env:=by exact z9 rfl) (hpl:(backTo pos (starEach es X.env)).any (·.1)=false:=by exact qx rfl) :
   FE X (.Call (.Name x p) (e::es) [] pos) (zcx g a q t cl is):=by
 obtain⟨f,fd,ps,ds,dvs,dds,gg,F,hm,hk,hb,hd,hdd,hgg⟩:=cal.ex;intro pins s σ H Q I h;obtain⟨ρ,ev,S,d,S',hE,hS,hf,kk⟩:=h;unfold zcx at hf;obtain⟨⟨as,S1⟩,q1,hf0⟩:=zy hf;clear hf;dsimp only at hf0;split at hf0
 · rename_i t' hj;split at hf0
   · rename_i hyu;subst hyu;obtain⟨kv,q2,hf⟩:=zy hf0;obtain⟨⟨d1,S2⟩,q3,hf⟩:=zy hf;dsimp only at hf;split at hf
     · rename_i hno;cases hf;rw[z6l]at hno;obtain⟨n1,n2⟩:=hno;refine z6w (zax I hg hm ?_ hdb);refine z7l (h₀:=X.base) I.ok.mod.kin hk (thn (ha pos pins s σ H (fun vs H1=>∃ws a c pm ct ρ1,vs=ws++[.ref a]/\Ext ρ H ρ1 H1/\StOk X.K X.mg ρ1 H1 S1/\RepL X.K X.mg ρ1 H1 as ws/\a∉ρ1/\c∉ρ1/\H1 a=some (.ext (zje t cl a c pm ct))/\H1 c=some (.ext (yw c t.qual))) I ⟨ρ,ev,S,as,S1,hE,hS,q1,hj,fun vs a c pm ct ρ1 H1 E1 hS1 r1 m1 m2 m3 m4=>⟨vs,a,c,pm,ct,ρ1,rfl,E1,hS1,r1,m1,m2,m3,m4⟩⟩) fun us s1 ⟨vs,H1,I1,r,ws,a',c,pm,ct,ρ1,ev1,E1,hS1,r1,m1,m2,m3,m4⟩=>⟨I1.kIn,?_⟩) he hpl;subst ev1;have E2:=C.ext (ρ:=ρ1) I1;have hS2:=C.st I1 hS1;obtain⟨cs,hcs,rk⟩:=zek C I1 (hE.mono E1) hS1 cl is kv (fun _ h=>h) (by
         rw[C.at_,<-C.names,z8o];rfl) q2
       rw[C.names]at hcs;have rc:Rep X.K X.mg ρ1 (trk H1 s1.heap cl) (.clo t kv) (.ref a'):=by unfold Rep;exact⟨a',cs,rfl,⟨m1,c,pm,ct,cl,m2,E2.keep _ _ m3 m1,E2.keep _ _ m4 m2,C.nodup I1,hcs⟩,rk.mono E2⟩
       have cin:=C.cin I1;have hsp:spG X.K X.mg gg ((ws++[.ref a'])++dvs) (trk H1 s1.heap cl) (fun v H'=>CellsIn H' cl->Q v (zbv H' cl)) E0 :=
         ⟨ρ1,(as++[.clo t kv])++dds,S1,d,S',((r1.mono E2).append (RepL.cons rc RepL.nil)).append (hdd _ _),hS2,hgg _ _ _ q3,fun v ρ' H' E' hS' r' ci=>by
           refine kk v ρ' (zbv H' cl) (E1.trans ⟨E'.pre,fun b o hb nb=>?_,fun b hb nb=>?_⟩) (hS'.off ci n2) (r'.off ci n1)
           · have z:b∉cl.map (·.2):=fun z=>by rw[C.hn I1 b z]at hb;cases hb
             rw[jv z];exact E'.keep b o (E2.keep b o hb nb) nb
           · have:=E'.new b hb nb;by_cases z:b∈cl.map (·.2)
             · exact C.hn I1 b z
             · unfold trk at this;rw[qz z]at this;exact this⟩
       have r2:Vals ((ws++[.ref a'])++dvs) (us++ds):=r.append hd;have hl:(us++ds).length=ps.length:=by rw[<-r2.length];exact F.len _ _ _ _ hsp
       refine z9x (z86 (F.run X.A X.stack s1 (trk H1 s1.heap cl) ⟨us,[]⟩ (us++ds) _ _ E0 hr (C.env0 I1) (hb s1 us I1.kIn hl) r2 hsp) fun r s' hq=>?_);cases r with
       |error e=>exact hq.elim
       | ok fl=>
         cases fl with
         | ret u=>
           obtain⟨v,H',os,bare,un,hok,rv,q⟩:=hq;have ci:CellsIn H' cl:=fun b hb=>let⟨o,z⟩:=cin b hb;⟨o,un.frzs b o _ z⟩;obtain⟨hh,gn,dr,tt,os'⟩:=s';obtain rfl:os'=s1.os:=os;refine⟨v,zbv H' cl,I1.call (h':=hh) (g':=gn) (d':=dr) (t':=tt) (ch:=[]) (zsl (C.hn I1) un (fun b hb=>let⟨o,_,z,_⟩:=C.isc I1 b hb;⟨o,z⟩) (fun b o w z=>(hok b _ z).1)) (zi2 hok ci) bare (fun b z=>absurd z (by simp)),rv,q ci⟩
         |next=>exact False.elim hq
         |brk=>exact False.elim hq
         |cont=>exact False.elim hq
     · cases hf
   · cases hf0
 · cases hf0
end
def spA(K:Frag)(mg:zMg)(gs:zLA->G):Sp:=fun vs H Q E=>∀cl,spG K mg (gs cl) vs H Q E
open Classical in
def gA(gs:zLA->G):G:=fun ds S=>if h:∃r,∀cl,gs cl ds S=some r then some h.choose else none
theorem zrj{gs:zLA->G}{ds:List D}{S:Sto}{r:D×Sto}(h:∀cl,gs cl ds S=some r):gA gs ds S=some r:=by
 have e:∃r,∀cl,gs cl ds S=some r:=⟨r,h⟩
 unfold gA;rw[dif_pos e];exact(e.choose_spec []).symm.trans (h [])
theorem zyw{gs:zLA->G}{ds:List D}{S:Sto}{r:D×Sto}(h:gA gs ds S=some r)(cl:zLA):gs cl ds S=some r:=by
 unfold gA at h;split at h
 · rename_i e;cases h;exact e.choose_spec cl
 · cases h
theorem zxc{K:Frag}{mg:zMg}{gs:zLA->G}{vs:List V}{H:Hp}{Q:VK}{E:XK}(h:spG K mg (gA gs) vs H Q E):spA K mg gs vs H Q E:=fun cl=>by obtain⟨ρ,ds,S,d,S',r,hS,hf,k⟩:=h;exact⟨ρ,ds,S,d,S',r,hS,zyw hf cl,k⟩
section
variable {P:Program}{w:World}{K:Frag}{mg:zMg}{base:Heap}{x qual:Str}{st:Stmt}{N ps:List Str}{k:Nat}{b:zLA->C}{dV:Value}{f:Addr}{fd:FuncData}
theorem FunD.okA(F:FunD K x qual st f fd dV){y:Str}(hm:mg y=some (.ref f))(S:FnScope N ps (zk st))
   (hbody:∀(cdv:Value),zcc K mg y cdv->∀(A:Around) (outer:List Env) (s:Shared) (H:Hp) (E:XK),Room k (A.deeper (envOfC qual (zk st) s.heap.objs.size f cdv)) ->
     ∃cl,FSs (zcd CX0 P w K mg base N qual (zk st) f cdv A outer s H E).nox (jo st) (b cl)):FnOk P w K mg base CX0 (k+1) f fd ps (spG K mg (gA fun cl=>qa N.length ps.length (b cl))):=by
 have co:=F.code hm;obtain⟨oc,od,kV,doc,pm,an,cdv,ct,osl,rfl,lk,hcd⟩:=F.ex;refine zrl lk hcd S (fun vs H Q E h=>?_) fun A outer s H vs Q E hr hsp=>?_
 · obtain⟨ρ,ds,S,d,S',r,hS,hf,k⟩:=h;rw[<-r.length];exact zep (zyw hf [])
 · obtain⟨cl,hb⟩:=hbody cdv co A outer s H E hr;exact⟨_,hb.nox,zjl (zxc hsp cl)⟩
abbrev z3a(P:Program)(w:World)(K:Frag)(mg:zMg)(base:Heap)(N:List Str)(x qual:Str)(st:Stmt)(k:Nat)(b:zLA->C):Prop :=
 ∀(f:Addr) (cdv:Value),zcc K mg x cdv->∀(A:Around) (outer:List Env) (s:Shared) (H:Hp) (E:XK),Room k (A.deeper (envOfC qual (zk st) s.heap.objs.size f cdv)) ->
     ∃cl,FSs (zcd CX0 P w K mg base N qual (zk st) f cdv A outer s H E).nox (jo st) (b cl)
theorem HasDef.calA(h:HasDef K mg x st 0)(S:FnScope N ps (zk st))(hb:zws x x st ps)(hbody:z3a P w K mg base N x x st k b):Cal P w K mg base (k+1) x (gA fun cl=>qa N.length ps.length (b cl)):=by obtain⟨f,fd,dV,F,hm,rfl⟩:=h.ex;exact⟨f,fd,ps,[],[],[],_,F.okA hm S fun cdv co A outer s H E hr=>hbody f cdv co A outer s H E hr,hm,F.kp,F.binds0 hb,.nil,fun _ _=>RepL.nil,fun args S r e=>by rw[z50];exact e⟩
end
end F
namespace F
open PySem L2 PySem.Spec PyProof.Rows
def zl3:List V->List V->Option Bool
 | [],[]=>some false
 | [],_::_=>some true
 |_::_,[]=>some false
 | .int x::xs,.int y::ys=>if x=y then zl3 xs ys else some (decide (x<y))
 | .str x::xs,.str y::ys=>if x=y then zl3 xs ys else some (decide (x.cps.toList<y.cps.toList))
 |_::_,_::_=>none
inductive FlatAre:List Value->List V->Prop
 |nil:FlatAre [] []
 |int (a:Int) (t:Tok) {vs:List Value}{ns:List V}:FlatAre vs ns->FlatAre (.int a t::vs) (.int a::ns)
 |str (a:Str) (t:Tok) {vs:List Value}{ns:List V}:FlatAre vs ns->FlatAre (.str a t::vs) (.str a::ns)
theorem FlatAre.length{vs:List Value}{ns:List V}(h:FlatAre vs ns):vs.length=ns.length:=by
 induction h with
 |nil=>rfl
 |int _ _ _ ih=>rw[List.length_cons,List.length_cons,ih]
 |str _ _ _ ih=>rw[List.length_cons,List.length_cons,ih]
theorem zrw(A:Around)(s:Shared)(a:Str)(t:Tok)(c:Str)(u:Tok):∃e,SeqAt.EqAt A s (.str a t) (.str c u) e/\(e=true↔a=c) :=
 ⟨(a==c),SeqAt.EqAt.str_str a t c u,by simp⟩
theorem zqv(A:Around)(s:Shared)(a:Str)(t:Tok)(c:Str)(u:Tok)(prog:Program)(w:World)(E:zVP)(Q:zVP)(h:Q (.bool (decide (a.cps.toList<c.cps.toList))) s) :
   wpAny (model prog w) A (richCompare .Lt (.str a t) (.str c u)) Q E s :=
 (PyProof.Rows.lt_str h:wpAny (model prog w) A (compareOp .Lt (.str a t) (.str c u)) Q E s)
section
open PySem.SeqAt
open PySem.AutoSeq1 (wpAny_loadPart')
open PySem.MeetsSeq PySem.MeetsSeq2 PySem.MeetsSeq3
theorem zfu(l b:Addr)(items items2:Array Value)(n n2:Nat)(dd dd2:Option Addr)(sl sl2:Array (Option Value))(ns ms:List V)(res:Bool)(hres:zl3 ns ms=some res)(hi:FlatAre items.toList ns)(hj:FlatAre items2.toList ms) :
   Meets (Builtin.«tuple.__lt__» ⟨[.ref l,.ref b],[]⟩)
     (fun _ R s=>s.heap.get? l=some { cls:=.type "tuple",dict:=dd,data:=.seq items n,slots:=sl }/\s.heap.get? b=some { cls:=.type "tuple",dict:=dd2,data:=.seq items2 n2,slots:=sl2 } /\
       R (.ok (.ret (.bool res))) s) :=
 .of_wp fun prog w A R s h=>by
   obtain⟨hp,g,d,tk,os⟩:=s;obtain⟨hl,hb,h⟩:=h;have f2:=AutoSeq1.sub_tuple_tuple;have z1:items.size=ns.length:=by rw[<-hi.length];simp
   have z2:items2.size=ms.length:=by rw[<-hj.length];simp
   wp_walk using wpAny_loadPart' hl,wpAny_loadPart' hb,wpAny_forIn_list _ (fun rest b s'=>b.1=none/\s'=⟨hp,g,d,tk,os⟩/\∃(vs ws:List Value) (ns' ms':List V) (r:Bool),rest=vs.zip ws /\
     FlatAre vs ns'/\FlatAre ws ms'/\ns'.length+items2.size=ms'.length+items.size/\zl3 ns' ms'=some r/\R (.ok (.ret (.bool r))) ⟨hp,g,d,tk,os⟩) _
   case turn=>
     rintro⟨y,x⟩ rest b s' ⟨hb',rfl,vs,ws,ns',ms',r,hz,hvi,hwi,hlen,hl,hR⟩;cases hvi with
     |nil=>rw[List.zip_nil_left]at hz;cases hz
     | int a t hvi'=>
       cases hwi with
       |nil=>rw[List.zip_nil_right]at hz;cases hz
       |str c u hwi'=>cases hl
       | int c u hwi'=>
         rw[List.zip_cons_cons]at hz;injection hz with hyx hrest;injection hyx with hy hx;subst hy hx;simp only[zl3]at hl;simp only[List.length_cons]at hlen;obtain⟨e,he,hiff⟩:=HT.eqAt_int A.in1 ⟨hp,g,d,tk,os⟩ a t c u;refine z43 (he prog w _ _ ?_);cases e with
         | true=>
           rw[z5s (hiff.mp rfl)]at hl
           wp_walk
           exact⟨rfl,rfl,_,_,_,_,_,hrest,hvi',hwi',by omega,hl,hR⟩
         | false=>
           rw[z5y (fun q=>absurd (hiff.mpr q) z6m)]at hl;cases hl;have hri:=HT.rcLt_int A.in1 ⟨hp,g,d,tk,os⟩ a t c u prog w
           wp_walk using hri
           exact⟨_,rfl,by simpa using hR⟩
     | str a t hvi'=>
       cases hwi with
       |nil=>rw[List.zip_nil_right]at hz;cases hz
       |int c u hwi'=>cases hl
       | str c u hwi'=>
         rw[List.zip_cons_cons]at hz;injection hz with hyx hrest;injection hyx with hy hx;subst hy hx;simp only[zl3]at hl;simp only[List.length_cons]at hlen;obtain⟨e,he,hiff⟩:=zrw A.in1 ⟨hp,g,d,tk,os⟩ a t c u;refine z43 (he prog w _ _ ?_);cases e with
         | true=>
           rw[z5s (hiff.mp rfl)]at hl
           wp_walk
           exact⟨rfl,rfl,_,_,_,_,_,hrest,hvi',hwi',by omega,hl,hR⟩
         | false=>
           rw[z5y (fun q=>absurd (hiff.mpr q) z6m)]at hl;cases hl;have hri:=zqv A.in1 ⟨hp,g,d,tk,os⟩ a t c u prog w
           wp_walk using hri
           exact⟨_,rfl,by simpa using hR⟩
   case fin=>
     rintro⟨b1,b2⟩ s' ⟨hb',rfl,vs,ws,ns',ms',r,hz,hvi,hwi,hlen,hl,hR⟩;simp only at hb';subst hb';have hv:r=decide (items.size<items2.size):=by
       cases hvi with
       | nil=>
         cases hwi with
         |nil=>cases hl;simp only[List.length_nil]at hlen;exact(z5o (by omega)).symm
         |int c u hw=>cases hl;simp only[List.length_nil,List.length_cons]at hlen;exact(z5z (by omega)).symm
         |str c u hw=>cases hl;simp only[List.length_nil,List.length_cons]at hlen;exact(z5z (by omega)).symm
       | int a t hv=>
         cases hwi with
         |nil=>cases hl;simp only[List.length_nil,List.length_cons]at hlen;exact(z5o (by omega)).symm
         |int c u hw=>rw[List.zip_cons_cons]at hz;cases hz
         |str c u hw=>rw[List.zip_cons_cons]at hz;cases hz
       | str a t hv=>
         cases hwi with
         |nil=>cases hl;simp only[List.length_nil,List.length_cons]at hlen;exact(z5o (by omega)).symm
         |int c u hw=>rw[List.zip_cons_cons]at hz;cases hz
         |str c u hw=>rw[List.zip_cons_cons]at hz;cases hz
     rw[hv]at hR
     wp_walk
     exact⟨_,rfl,by simpa [Builtin.Tuple.tupleCompareSizes] using hR⟩
   case h=>
     exact⟨rfl,rfl,items.toList,items2.toList,ns,ms,_,rfl,hi,hj,by omega,hres,h⟩
end
section
variable {prog:Program}{w:World}{A:Around}{E:zVP}{s:Shared}
theorem zl2{l b:Addr}{items items2:Array Value}{ns ms:List V}{res:Bool}{Q:zVP}(hl:IsTup s.heap l items)(hb:IsTup s.heap b items2)(hres:zl3 ns ms=some res)(hi:FlatAre items.toList ns)(hj:FlatAre items2.toList ms)
   (hu:A.units<cLine) (h:Q (.bool res) s):wpAny (model prog w) A (compareOp .Lt (.ref l) (.ref b)) Q E s:=by
 obtain⟨⟨cls,dd,data,sl⟩,ho,hc,n,hd⟩:=id hl;obtain⟨⟨cls2,dd2,data2,sl2⟩,ho2,hc2,n2,hd2⟩:=id hb;simp only at hc hd hc2 hd2;subst hc hd hc2 hd2;exact richCompare_meets_room (op:=.Lt) ⟨_,ho,rfl⟩ ⟨_,ho2,rfl⟩ PySem.F.slot_tuple_lt PySem.F.entry_tuple_lt (PySem.F.args_tuple_lt_2 _ _) (zfu l b items items2 n n2 dd dd2 sl sl2 ns ms res hres hi hj)
   ⟨ho,ho2,show Value.bool res≠Value.notImplemented/\Q (.bool res) s from⟨(fun x=>nomatch x),h⟩⟩ hu
end
def zz1:D->Option V
 | .int i=>some (.int i)
 | .str z=>some (.str z)
 |_=>none
def zgh:List D->Option (List V)
 | []=>some []
 |d::ds=>(zz1 d).bind fun x=>(zgh ds).map (x::·)
def zlx:D->D->Option D
 | .int i,.int j=>some (.bl (decide (i<j)))
 | .str x,.str y=>some (.bl (decide (x.cps.toList<y.cps.toList)))
 | .tup a,.tup b=>(zgh a).bind fun x=>(zgh b).bind fun y=>(zl3 x y).map .bl
 |_,_=>none
section
variable {X:Cx}{K:zFr}{mg:zMg}
def z3e(K:zFr):R2:=fun x y H Q=>(∃i j,x=.int i/\y=.int j/\Q (.bl (decide (i<j))) H)\/(∃i j,x=.str i/\y=.str j/\Q (.bl (decide (i.cps.toList<j.cps.toList))) H) \/
 ∃a b xs ys us vs r,x=.ref a/\y=.ref b/\SqT K H a xs/\SqT K H b ys/\xs=us/\ys=vs/\(∀z∈us,(∃i,z=.int i)\/∃i,z=.str i)/\(∀z∈vs,(∃i,z=.int i)\/∃i,z=.str i)/\zl3 us vs=some r/\Q (.bl r) H
theorem zo1{xs:List V}{its:List Value}(h:∀z∈xs,(∃i,z=.int i)\/∃i,z=.str i)(r:Vals xs its):FlatAre its xs:=by
 induction r with
 |nil=>exact .nil
 | cons p q ih=>
   have:=ih fun z hz=>h z (z46 _ hz);rcases h _ (z5d ..) with⟨i,rfl⟩ | ⟨i,rfl⟩
   · obtain⟨t,rfl⟩:=p;exact .int _ _ this
   · obtain⟨t,rfl⟩:=p;exact .str _ _ this
theorem zys(hu:X.A.units<cLine):OpR X (compareOp .Lt) (z3e X.K):=by
 intro pins s σ H x y v u Q I rx ry h;rcases h with⟨i,j,rfl,rfl,q⟩ | ⟨i,j,rfl,rfl,q⟩ | ⟨a,b,xs,ys,us,vs,r,rfl,rfl,ha,hb,rfl,rfl,h1,h2,hl,q⟩
 · exact zq5 pins s σ H _ _ v u Q I rx ry ⟨i,j,rfl,rfl,q⟩
 · exact zn2 pins s σ H _ _ v u Q I rx ry ⟨i,j,rfl,rfl,q⟩
 · cases rx;cases ry;obtain⟨its,r1,p1,_⟩:=I.tuple ha;obtain⟨its2,r2,p2,_⟩:=I.tuple hb;exact zl2 p1 p2 hl (zo1 h1 (by simpa using r1)) (zo1 h2 (by simpa using r2)) hu ⟨.bl r,H,I,rfl,q⟩
theorem zbr{ρ H}:∀{ds:List D}{xs vs:List V},zgh ds=some xs->RepL K mg ρ H ds vs->vs=xs/\∀z∈xs,(∃i,z=.int i)\/∃i,z=.str i
 | [],_,_,e,r=>by cases e;unfold RepL at r;exact⟨r,fun z hz=>by cases hz⟩
 | d::ds,_,_,e,r=>by
   unfold RepL at r;obtain⟨v,r',rfl,r1,r2⟩:=r;obtain⟨x,q1,e⟩:=zy e;obtain⟨xs,q2,e⟩:=zaq e;subst e;obtain⟨rfl,f2⟩:=zbr q2 r2;cases d with
   | int i=>
     cases q1;cases(show v=.int i from r1);exact⟨rfl,fun z hz=>(z5p.mp hz).elim (fun e=>.inl ⟨i,e⟩) (f2 z)⟩
   | str i=>
     cases q1;cases(show v=.str i from r1);exact⟨rfl,fun z hz=>(z5p.mp hz).elim (fun e=>.inr ⟨i,e⟩) (f2 z)⟩
   |_=>cases q1
theorem zuo:zia K mg (z3e K) (fun _=>zlx):=by
 intro ρ H S x y dx dy d Q hS rx ry e k;dsimp only at e;unfold zlx at e;split at e
 · cases e;cases(show x=.int _ from rx);cases(show y=.int _ from ry);exact .inl ⟨_,_,rfl,rfl,k _ H (Ext.refl _ _) hS rfl⟩
 · cases e;cases(show x=.str _ from rx);cases(show y=.str _ from ry);exact .inr (.inl ⟨_,_,rfl,rfl,k _ H (Ext.refl _ _) hS rfl⟩)
 · obtain⟨xs,q1,e⟩:=zy e;obtain⟨ys,q2,e⟩:=zy e;obtain⟨r,q3,e⟩:=zaq e;subst e;obtain⟨p,vs,rfl,t,r1⟩:=rx.refT;obtain⟨p2,vs2,rfl,t2,r2⟩:=ry.refT;obtain⟨rfl,f1⟩:=zbr q1 r1;obtain⟨rfl,f2⟩:=zbr q2 r2;exact .inr (.inr ⟨p,p2,_,_,_,_,r,rfl,rfl,t.sq,t2.sq,rfl,rfl,f1,f2,q3,k _ H (Ext.refl _ _) hS rfl⟩)
 · cases e
theorem zz4{a b:Expr}{f g:E}{pos:Pos}{k:Nat}(hr:Room k X.A)(ha:FE X a f)(hb:FE X b g)(hm:behindInMarks .Lt b=false:=by exact zam _):FE X (.Compare a [.Lt] [b] pos) (e2 zlx f g):=zky (zys (by have:=hr.un;omega)) zuo ha hb hm
end
section
open Classical
def yn(a:Nat)(us:List D)(c:B)(g:E)(fr:Ev):List D->Sto->Option (List D×Sto)
 | [],S=>if S[a]? = some (.lst us)then some ([],S)else none
 |d::ds,S=>if S[a]? = some (.lst us)then (c (some d::fr) S).bind fun p=>if p.1=true then (g (some d::fr) p.2).bind fun q=>(yn a us c g fr ds q.2).bind fun r=>some (q.1::r.1,r.2)else yn a us c g fr ds p.2 else none
end
theorem zpq{a:Nat}{us:List D}{c:B}{g:E}{fr:Ev}{ds:List D}{S:Sto}{r:List D×Sto}(h:yn a us c g fr ds S=some r):S[a]? = some (.lst us):=by
 cases ds with
 | nil=>
   unfold yn at h;split at h
   · assumption
   · cases h
 | cons d ds=>
   unfold yn at h;split at h
   · assumption
   · cases h
theorem zfn{a:Nat}{us:List D}{c:B}{g:E}{fr:Ev}{S:Sto}(h:S[a]? = some (.lst us)):yn a us c g fr [] S=some ([],S):=by unfold yn;rw[z5s h]
theorem zej{a:Nat}{us:List D}{c:B}{g:E}{fr:Ev}{d:D}{ds:List D}{S:Sto}(h:S[a]? = some (.lst us)):yn a us c g fr (d::ds) S=(c (some d::fr) S).bind fun p=>if p.1=true then (g (some d::fr) p.2).bind fun q=>(yn a us c g fr ds q.2).bind fun r=>some (q.1::r.1,r.2)else yn a us c g fr ds p.2:=by rw[yn,z5s h]
end F
namespace Srt
open PySem PyProof.Rows
def xg:Bool->Keyed->Array Keyed->Nat->Nat->Nat->StateT SortSt Sem (Option Nat):=sortPriv% PySem.Builtin.gallop
def zi3(beyond:Nat->StateT SortSt Sem (Option Bool))(n hint:Nat):StateT SortSt Sem (Option Nat):=do
 let mut lastofs:=0
 let mut ofs:=1
 let mut lo:=0
 let mut hi:=0
 let some right <-beyond hint | return none
 if right then
   let maxofs:=n-hint
   for _ in [0:n] do
     if ofs ≥ maxofs then break
     let some more <-beyond (hint+ofs) | return none
     if !more then break
     lastofs:=ofs
     ofs:=2*ofs+1
   lo:=hint+lastofs+1
   hi:=hint+min ofs maxofs
 else
   let maxofs:=hint+1
   for _ in [0:n] do
     if ofs ≥ maxofs then break
     let some found <-beyond (hint-ofs) | return none
     if found then break
     lastofs:=ofs
     ofs:=2*ofs+1
   lo:=hint+1-min ofs maxofs
   hi:=hint-lastofs
 for _ in [0:n] do
   if lo ≥ hi then break
   let m:=lo+(hi-lo)/2
   let some more <-beyond m | return none
   if more then lo:=m+1 else hi:=m
 return some hi
def byd(left:Bool)(key:Keyed)(arr:Array Keyed)(base i:Nat):StateT SortSt Sem (Option Bool):=do
 let x <-elem' arr (base+i)
 if left then lt' x key else return(<-lt' key x).map (!·)
theorem zbg(left:Bool)(key:Keyed)(arr:Array Keyed)(base n hint:Nat):xg left key arr base n hint=zi3 (byd left key arr base) n hint:=rfl
section
variable {M:Model}{A:Around}{E:zVP}{s:Shared}{n hint:Nat}{P:Nat->Bool}{beyond:Nat->StateT SortSt Sem (Option Bool)}{st:SortSt}
def zsv(beyond:Nat->StateT SortSt Sem (Option Bool))(n:Nat)(c:Option (Option Nat)×Nat×Nat):StateT SortSt Sem (Option (Option Nat)×Nat×Nat) :=
 forIn [0:n] c fun x __s=>
   if __s.snd.fst ≥ __s.snd.snd then pure (ForInStep.done (none,__s.snd.fst,__s.snd.snd))
   else do
     let __x <-beyond (__s.snd.fst+(__s.snd.snd-__s.snd.fst)/2)
     match __x with
     | some more=>
       if more=true then pure (ForInStep.yield (none,__s.snd.fst+(__s.snd.snd-__s.snd.fst)/2+1,__s.snd.snd))
       else pure (ForInStep.yield (none,__s.snd.fst,__s.snd.fst+(__s.snd.snd-__s.snd.fst)/2))
     |_=>pure (ForInStep.done (some none,__s.snd.fst,__s.snd.snd))
theorem ze3(hb:∀i,i<n->∀Q:Option Bool->SortSt->Prop,Q (some (P i)) st->wpS M A E s (beyond i) Q st)(hP:∀i j,i<=j->j<n->P j=true->P i=true){lo hi:Nat}(h1:lo<=hi)(h2:hi<=n)(h3:∀i,i<lo->P i=true)(h4:∀i,hi<=i->i<n->P i=false){Q:Option (Option Nat)×Nat×Nat->SortSt->Prop}
   (h:∀k,k<=n->(∀i,i<k->P i=true)->(∀i,k<=i->i<n->P i=false)->Q (none,k,k) st):wpS M A E s (zsv beyond n (none,lo,hi)) Q st:=by
 unfold zsv;refine z6v (I:=fun x c st'=>st'=st/\∃lo hi,c=(none,lo,hi)/\lo<=hi/\hi<=n/\(∀i,i<lo->P i=true)/\(∀i,hi<=i->i<n->P i=false)/\hi+x<=n+lo) ?_ ?_ ⟨rfl,lo,hi,rfl,h1,h2,h3,h4,z5u h2 (z5h ..)⟩
 · rintro x c st' _ hx ⟨rfl,lo,hi,rfl,h1,h2,h3,h4,h5⟩;dsimp only;by_cases e:lo ≥ hi
   · rw[z5s e];cases z8b h1 e;exact z5k (h lo h2 h3 h4)
   · rw[z5y e];have m1:lo<=lo+(hi-lo)/2:=z5h ..;have m2:lo+(hi-lo)/2<hi:=by omega
     clear e h1;generalize lo+(hi-lo)/2=m at m1 m2 ⊢;have mn:=z45 m2 h2;refine z5a (hb _ mn _ ?_);dsimp only;cases hm:P m
     · simp only[z5e,z6i];refine z5k ⟨rfl,lo,m,rfl,m1,z6y mn,h3,fun i hi1 hi2=>?_,by omega⟩;cases q:P i
       · rfl
       · rw[hP _ _ hi1 hi2 q]at hm;cases hm
     · simp only[z61];exact z5k ⟨rfl,m+1,hi,rfl,m2,h2,fun i hi1=>hP i _ (z9m hi1) mn hm,h4,by omega⟩
 · rintro c st' ⟨rfl,lo,hi,rfl,h1,h2,h3,h4,h5⟩;have:lo=hi:=by omega
   subst this;exact h lo h2 h3 h4
theorem zae(hb:∀i,i<n->∀Q:Option Bool->SortSt->Prop,Q (some (P i)) st->wpS M A E s (beyond i) Q st)(hP:∀i j,i<=j->j<n->P j=true->P i=true)(hh:hint<n){Q:Option Nat->SortSt->Prop}
   (h:∀k,k<=n->(∀i,i<k->P i=true)->(∀i,k<=i->i<n->P i=false)->Q (some k) st):wpS M A E s (zi3 beyond n hint) Q st:=by
 unfold zi3;refine z5a (hb hint hh _ ?_);dsimp only;cases hr:P hint
 · simp only[z5e,z6i];refine z5a (z65 (z6v (I:=fun x c st'=>st'=st/\∃l o,c=(none,l,o)/\l<o/\l<=hint/\P (hint-l)=false/\x<=o)
     (Q:=fun c st'=>st'=st/\∃l o,c=(none,l,o)/\l<o/\l<=hint/\P (hint-l)=false/\(hint+1<=o\/P (hint-o)=true)) ?_ ?_ ⟨rfl,0,1,rfl,Nat.one_pos,z54 _,hr,z54 _⟩) ?_)
   · rintro x c st' _ hx ⟨rfl,l,o,rfl,g1,g2,g3,g4⟩;dsimp only;by_cases e:o ≥ hint+1
     · rw[z5s e];exact z5k ⟨rfl,l,o,rfl,g1,g2,g3,.inl e⟩
     · rw[z5y e];refine z5a (hb _ (z6x (qaw ..) hh) _ ?_);dsimp only;cases hm:P (hint-o)
       · simp only[z5e,z6i];have e':=Nat.lt_of_not_le e;clear e g1 g2 hx hh;exact z5k ⟨rfl,o,2*o+1,rfl,by omega,z9m e',hm,by omega⟩
       · simp only[z61];exact z5k ⟨rfl,l,o,rfl,g1,g2,g3,.inr hm⟩
   · rintro c st' ⟨rfl,l,o,rfl,g1,g2,g3,g4⟩;exact⟨rfl,l,o,rfl,g1,g2,g3,.inl (by omega)⟩
   · rintro c st2 ⟨rfl,l,o,rfl,g1,g2,g3,g4⟩;dsimp only;refine z5a (z65 (ze3 hb hP (lo:=hint+1-min o (hint+1)) (hi:=hint-l) (by omega) (by omega) (fun i hi=>?_) (fun i h1 h2=>?_) (Q:=fun c st'=>st'=st2/\∃k,c=(none,k,k)/\k<=n/\(∀i,i<k->P i=true)/\(∀i,k<=i->i<n->P i=false)) fun k k1 k2 k3=>⟨rfl,k,rfl,k1,k2,k3⟩) ?_)
     · rcases g4 with g4 | g4
       · omega
       · exact hP i _ (by omega) (by omega) g4
     · cases q:P i
       · rfl
       · rw[hP _ _ h1 h2 q]at g3;cases g3
     · rintro c st' ⟨rfl,k,rfl,k1,k2,k3⟩;exact z5k (h k k1 k2 k3)
 · simp only[z61];refine z5a (z65 (z6v (I:=fun x c st'=>st'=st/\∃l o,c=(none,l,o)/\l<o/\hint+l<n/\P (hint+l)=true/\x<=o)
     (Q:=fun c st'=>st'=st/\∃l o,c=(none,l,o)/\l<o/\hint+l<n/\P (hint+l)=true/\(n-hint<=o\/P (hint+o)=false)) ?_ ?_ ⟨rfl,0,1,rfl,Nat.one_pos,hh,hr,z54 _⟩) ?_)
   · rintro x c st' _ hx ⟨rfl,l,o,rfl,g1,g2,g3,g4⟩;dsimp only;by_cases e:o ≥ n-hint
     · rw[z5s e];exact z5k ⟨rfl,l,o,rfl,g1,g2,g3,.inl e⟩
     · rw[z5y e];have e':hint+o<n:=by clear g1 g2 g4 hx hh;omega
       refine z5a (hb _ e' _ ?_);dsimp only;cases hm:P (hint+o)
       · simp only[qat,z61];exact z5k ⟨rfl,l,o,rfl,g1,g2,g3,.inr hm⟩
       · simp only[z7r,z5e,z6i];clear e g1 g2 hx hh;exact z5k ⟨rfl,o,2*o+1,rfl,by omega,e',hm,by omega⟩
   · rintro c st' ⟨rfl,l,o,rfl,g1,g2,g3,g4⟩;exact⟨rfl,l,o,rfl,g1,g2,g3,.inl (by omega)⟩
   · rintro c st2 ⟨rfl,l,o,rfl,g1,g2,g3,g4⟩;dsimp only;refine z5a (z65 (ze3 hb hP (lo:=hint+l+1) (hi:=hint+min o (n-hint)) (by omega) (by omega) (fun i hi=>hP i _ (z9m hi) g2 g3) (fun i h1 h2=>?_) (Q:=fun c st'=>st'=st2/\∃k,c=(none,k,k)/\k<=n/\(∀i,i<k->P i=true)/\(∀i,k<=i->i<n->P i=false)) fun k k1 k2 k3=>⟨rfl,k,rfl,k1,k2,k3⟩) ?_)
     · rcases g4 with g4 | g4
       · omega
       · cases q:P i
         · rfl
         · rw[hP (hint+o) i (by omega) h2 q]at g4;cases g4
     · rintro c st' ⟨rfl,k,rfl,k1,k2,k3⟩;exact z5k (h k k1 k2 k3)
end
def zf3:Array Keyed->Array Keyed->StateT SortSt Sem (Array Keyed):=sortPriv% PySem.Builtin.mergeLo
def zf4:Array Keyed->Array Keyed->StateT SortSt Sem (Array Keyed):=sortPriv% PySem.Builtin.mergeHi
abbrev zbu(st:SortSt)(g:Nat):SortSt:=SortSt.mk' (kindOf st) (arrOf st) (pendingOf st) g (failedOf st)
def smg(g:Nat):StateT SortSt Sem Unit:=modify fun st=>zbu st g
theorem ziu(a b:Array Keyed):zf3 a b=(do
 rule "list.sort.merge-lo"
 let total:=a.size+b.size
 let done (out:Array Keyed) (ia ib:Nat):=out++a.extract ia a.size++b.extract ib b.size
 let lastOfA (out:Array Keyed) (ia ib:Nat):=out++b.extract ib b.size++a.extract ia a.size
 let mut out:Array Keyed:=#[<-elem' b 0]
 let mut ia:=0
 let mut ib:=1
 if ib==b.size then return done out ia ib
 if ia+1==a.size then return lastOfA out ia ib
 let mut minGallop:=gallopOf (<-get)
 for _ in [0:total] do
   let mut acount:=0
   let mut bcount:=0
   for _ in [0:total] do
     let some bWins <-lt' (<-elem' b ib) (<-elem' a ia) | return done out ia ib
     if bWins then
       out:=out.push (<-elem' b ib);ib:=ib+1;bcount:=bcount+1;acount:=0
       if ib==b.size then return done out ia ib
       if bcount ≥ minGallop then break
     else
       out:=out.push (<-elem' a ia);ia:=ia+1;acount:=acount+1;bcount:=0
       if ia+1==a.size then return lastOfA out ia ib
       if acount ≥ minGallop then break
   rule "list.sort.gallop"
   minGallop:=minGallop+1
   for _ in [0:total] do
     if minGallop>1 then minGallop:=minGallop-1
     smg minGallop
     let some k <-xg false (<-elem' b ib) a ia (a.size-ia) 0 | return done out ia ib
     acount:=k
     if k>0 then
       out:=out++a.extract ia (ia+k);ia:=ia+k
       if ia+1==a.size then return lastOfA out ia ib
       if ia==a.size then return done out ia ib
     out:=out.push (<-elem' b ib);ib:=ib+1
     if ib==b.size then return done out ia ib
     let some k <-xg true (<-elem' a ia) b ib (b.size-ib) 0 | return done out ia ib
     bcount:=k
     if k>0 then
       out:=out++b.extract ib (ib+k);ib:=ib+k
       if ib==b.size then return done out ia ib
     out:=out.push (<-elem' a ia);ia:=ia+1
     if ia+1==a.size then return lastOfA out ia ib
     if acount<7&&bcount<7 then break
   minGallop:=minGallop+1
   smg minGallop
 unsupported "internal:list.sort.merge-bound"):=rfl
section
variable {blt:Keyed->Keyed->Bool}
def le(blt:Keyed->Keyed->Bool)(x y:Keyed):Prop:=blt y x=false
structure Mg (blt:Keyed->Keyed->Bool) (T O A B:List Keyed):Prop where
 pa:(O++A).Pairwise (le blt)
 pb:(O++B).Pairwise (le blt)
 pm:(O++(A++B)).Perm T
def zwr(blt:Keyed->Keyed->Bool)(T:List Keyed)(r:List Keyed):Prop:=r.Pairwise (le blt)/\r.Perm T
variable {T O A B C:List Keyed}
theorem Mg.chunkA(h:Mg blt T O (C++A) B)(hc:∀x∈C,∀z∈B,le blt x z):Mg blt T (O++C) A B:=by
 refine⟨by rw[z5i];exact h.pa,?_,?_⟩
 · have h1:=z47.mp h.pa;have h2:=z47.mp h.pb;have h3:=z47.mp h1.2.1;refine z47.mpr ⟨z47.mpr ⟨h1.1,h3.1,fun x hx y hy=>h1.2.2 x hx y (z6k _ hy)⟩,h2.2.1,fun x hx z hz=>?_⟩;rcases z5x.mp hx with hx | hx
   · exact h2.2.2 x hx z hz
   · exact hc x hx z hz
 · have:=h.pm;rw[z5i]at this ⊢;exact this
theorem Mg.chunkB(h:Mg blt T O A (C++B))(hc:∀x∈C,∀z∈A,le blt x z):Mg blt T (O++C) A B:=by
 refine⟨?_,by rw[z5i];exact h.pb,?_⟩
 · have h1:=z47.mp h.pb;have h2:=z47.mp h.pa;have h3:=z47.mp h1.2.1;refine z47.mpr ⟨z47.mpr ⟨h1.1,h3.1,fun x hx y hy=>h1.2.2 x hx y (z6k _ hy)⟩,h2.2.1,fun x hx z hz=>?_⟩;rcases z5x.mp hx with hx | hx
   · exact h2.2.2 x hx z hz
   · exact hc x hx z hz
 · refine List.Perm.trans ?_ h.pm;rw[z5i];refine z73 O ?_;rw[<-z5i,<-z5i];exact z70 B z8p
theorem Mg.finA(h:Mg blt T O A []):zwr blt T (O++A):=⟨h.pa,by have:=h.pm;rw[z50]at this;exact this⟩
theorem Mg.finB(h:Mg blt T O [] B):zwr blt T (O++B):=⟨h.pb,h.pm⟩
theorem Mg.lastA{x:Keyed}(h:Mg blt T O [x] B)(hx:∀z∈B,le blt z x):zwr blt T (O++(B++[x])):=by
 refine⟨?_,List.Perm.trans (z73 O z8p) h.pm⟩;have h1:=z47.mp h.pa;have h2:=z47.mp h.pb;refine z47.mpr ⟨h1.1,z47.mpr ⟨h2.2.1,z7s _ _,fun z hz y hy=>by rw[z5g.mp hy];exact hx z hz⟩,fun y hy z hz=>?_⟩;rcases z5x.mp hz with hz | hz
 · exact h2.2.2 y hy z hz
 · exact h1.2.2 y hy z hz
theorem Mg.len(h:Mg blt T O A B):O.length+A.length+B.length=T.length:=by have:=h.pm.length_eq;simp only[z42]at this;omega
def ix(a:Array Keyed)(i:Nat):Keyed:=(a[i]?).getD (.none,.none)
variable {a b:Array Keyed}{i j k:Nat}
theorem zko(h:i<a.size):a[i]? = some (ix a i):=by unfold ix;rw[z56 h];rfl
theorem zjb(h:i<a.size):a.toList.drop i=ix a i::a.toList.drop (i+1):=by
 have e:a.toList[i]'(by simpa using h)=ix a i:=by unfold ix;rw[z56 h];simp
 rw[<-e];exact z7i (by simpa using h)
theorem zpm(h:i+k<=a.size):a.toList.drop i=(a.extract i (i+k)).toList++a.toList.drop (i+k):=by rw[z7o,List.extract_eq_drop_take];rw[show i+k-i=k by omega,<-z9o];exact(z6a k _).symm
theorem zkl{x:Keyed}(h:x∈(a.extract i (i+k)).toList):∃j,j<k/\i+j<a.size/\x=ix a (i+j):=by rw[z7o,List.extract_eq_drop_take,show i+k-i=k by omega]at h;obtain⟨j,hj,e⟩:=z5v h;rw[z5m,z5w,Array.length_toList]at hj;refine⟨j,by omega,by omega,?_⟩;rw[z7f,z7g]at e;rw[<-e];unfold ix;rw[z56 (by omega)];simp
theorem zbe{x:Keyed}(h:x∈a.toList.drop i):∃j,i<=j/\j<a.size/\x=ix a j:=by obtain⟨j,hj,e⟩:=z5v h;rw[z5w,Array.length_toList]at hj;refine⟨i+j,by omega,by omega,?_⟩;rw[z7g]at e;rw[<-e];unfold ix;rw[z56 (by omega)];simp
theorem yj(h:i<a.size):ix a i∈a.toList:=by
 have e:a.toList[i]'(by simpa using h)=ix a i:=by unfold ix;rw[z56 h];simp
 rw[<-e];exact z8g _
theorem zk0:(a.extract i a.size).toList=a.toList.drop i:=by rw[z7o,List.extract_eq_drop_take];rw[<-Array.length_toList,z6j (by rw[z5w];omega)]
def zp7(blt:Keyed->Keyed->Bool)(a:Array Keyed):Prop:=∀i j,i<=j->j<a.size->le blt (ix a i) (ix a j)
theorem zfv(h:zp7 blt a):a.toList.Pairwise (le blt):=by
 rw[z6t];intro i j hi hj hij;have e:∀{i} (h:i<a.toList.length),a.toList[i]=ix a i:=fun {i} h=>by rw[Array.length_toList]at h;unfold ix;rw[z56 h];simp
 rw[e hi,e hj];exact h i j (by omega) (by rw[Array.length_toList]at hj;exact hj)
end
section
variable {prog:Program}{w:World}{A:Around}{E:zVP}{s:Shared}{blt:Keyed->Keyed->Bool}{U:Keyed->Prop}{kd:SortKind}{st:SortSt}{a b:Array Keyed}
structure Cmp (prog:Program) (w:World) (A:Around) (E:zVP) (s:Shared) (kd:SortKind) (U:Keyed->Prop) (blt:Keyed->Keyed->Bool):Prop where
 lt:∀x y,U x->U y->∀(st:SortSt) (Q:Option Bool->SortSt->Prop),kindOf st=kd->Q (some (blt x y)) st->wpS (model prog w) A E s (lt' x y) Q st
 asy:∀x y,blt x y=true->blt y x=false
 tr:∀x y z,blt y x=false->blt z y=false->blt z x=false
theorem qk{i:Nat}{Q:Keyed->SortSt->Prop}{M:Model}(hi:i<a.size)(h:Q (ix a i) st):wpS M A E s (elem' a i) Q st:=by rw[elem'_eq,zko hi];exact z5k h
theorem zbb{nm:String}{Q:Unit->SortSt->Prop}(h:Q () st):wpS (model prog w) A E s (liftM (rule nm):StateT SortSt Sem Unit) Q st:=wpS_lift (wpAny_rule ⟨rfl,h⟩)
theorem zfr{g:Nat}{Q:Unit->SortSt->Prop}{M:Model}(h:Q () (zbu st g)):wpS M A E s (smg g) Q st:=z8j h
theorem zjs(C:Cmp prog w A E s kd U blt)(hk:kindOf st=kd){y:Keyed}{i n hint:Nat}(uy:U y)(ua:∀x∈a.toList,U x)(sa:zp7 blt a)(hn:i+n<=a.size)(hh:hint<n){Q:Option Nat->SortSt->Prop}
   (h:∀k,k<=n->(∀j,j<k->le blt (ix a (i+j)) y)->(∀j,k<=j->j<n->blt y (ix a (i+j))=true)->Q (some k) st):wpS (model prog w) A E s (xg false y a i n hint) Q st:=by
 rw[zbg];refine zae (P:=fun j=>!(blt y (ix a (i+j)))) (fun j hj Q hq=>?_) (fun j l hjl hl hp=>?_) hh fun k k1 k2 k3=>h k k1 (fun j hj=>by have:=k2 j hj;unfold le;simpa using this) (fun j h1 h2=>by have:=k3 j h1 h2;simpa using this)
 · unfold byd;refine z5a (qk (by omega) ?_);simp only[z5e,z6i];exact z5a (C.lt _ _ uy (ua _ (yj (by omega))) _ _ hk (z5k hq))
 · have e:blt y (ix a (i+l))=false:=by simpa using hp
   have:=C.tr _ _ _ (sa (i+j) (i+l) (by omega) (by omega)) e;simp[this]
theorem zjr(C:Cmp prog w A E s kd U blt)(hk:kindOf st=kd){x:Keyed}{i n hint:Nat}(ux:U x)(ub:∀x∈b.toList,U x)(sb:zp7 blt b)(hn:i+n<=b.size)(hh:hint<n){Q:Option Nat->SortSt->Prop}
   (h:∀k,k<=n->(∀j,j<k->blt (ix b (i+j)) x=true)->(∀j,k<=j->j<n->le blt x (ix b (i+j)))->Q (some k) st):wpS (model prog w) A E s (xg true x b i n hint) Q st:=by
 rw[zbg];refine zae (P:=fun j=>blt (ix b (i+j)) x) (fun j hj Q hq=>?_) (fun j l hjl hl hp=>?_) hh h
 · unfold byd;refine z5a (qk (by omega) ?_);simp only[z61];exact C.lt _ _ (ub _ (yj (by omega))) ux _ _ hk hq
 · cases q:blt (ix b (i+j)) x
   · have:=C.tr x (ix b (i+j)) (ix b (i+l)) q (sb (i+j) (i+l) (by omega) (by omega));rw[this]at hp;cases hp
   · rfl
structure At (blt:Keyed->Keyed->Bool) (a b out:Array Keyed) (ia ib:Nat):Prop where
 ha:ia+1<a.size
 hb:ib<b.size
 mg:Mg blt (a.toList++b.toList) out.toList (a.toList.drop ia) (b.toList.drop ib)
structure Two (blt:Keyed->Keyed->Bool) (U:Keyed->Prop) (a b:Array Keyed):Prop where
 sa:zp7 blt a
 sb:zp7 blt b
 ua:∀x∈a.toList,U x
 ub:∀x∈b.toList,U x
 la:∀z∈b.toList,le blt z (ix a (a.size-1))
abbrev yz(blt:Keyed->Keyed->Bool)(a b r:Array Keyed):Prop:=zwr blt (a.toList++b.toList) r.toList
variable {out:Array Keyed}{ia ib k:Nat}
theorem At.le(h:At blt a b out ia ib):out.size+3<=a.size+b.size:=by have:=h.mg.len;simp only[z5w,z42,Array.length_toList]at this;have:=h.ha;have:=h.hb;omega
theorem zb6(m:Mg blt (a.toList++b.toList) out.toList (a.toList.drop ia) (b.toList.drop ib))(hb:ib=b.size\/ia=a.size):yz blt a b (out++a.extract ia++b.extract ib):=by
 unfold yz;rw[z59,z59,zk0,zk0];rcases hb with rfl | rfl
 · rw[z64 (l:=b.toList) (by simp)]at m ⊢;rw[z50];exact m.finA
 · rw[z64 (l:=a.toList) (by simp)]at m ⊢;rw[z50];exact m.finB
theorem zdb(T:Two blt U a b)(m:Mg blt (a.toList++b.toList) out.toList (a.toList.drop ia) (b.toList.drop ib))(ha:ia+1=a.size):yz blt a b (out++b.extract ib++a.extract ia):=by
 unfold yz;rw[z59,z59,zk0,zk0,z5i];have e:a.toList.drop ia=[ix a ia]:=by rw[zjb (by omega),z64 (by simp;omega)]
 rw[e]at m ⊢;refine m.lastA fun z hz=>?_;have:=T.la z (z7b hz);rw[show a.size-1=ia by omega]at this;exact this
theorem zns(C:Cmp prog w A E s kd U blt)(T:Two blt U a b)(m:Mg blt (a.toList++b.toList) out.toList (a.toList.drop ia) (b.toList.drop ib))(hb:ib<b.size)(ha:ia<a.size->blt (ix b ib) (ix a ia)=true):Mg blt (a.toList++b.toList) (out.push (ix b ib)).toList (a.toList.drop ia) (b.toList.drop (ib+1)):=by rw[zjb hb]at m;rw[z8x];refine Mg.chunkB (C:=[ix b ib]) m fun x hx z hz=>?_;rw[z5g.mp hx];obtain⟨j,j1,j2,rfl⟩:=zbe hz;exact C.tr _ _ _ (C.asy _ _ (ha (by omega))) (T.sa ia j j1 j2)
theorem zs3(C:Cmp prog w A E s kd U blt)(T:Two blt U a b)(m:Mg blt (a.toList++b.toList) out.toList (a.toList.drop ia) (b.toList.drop ib))(ha:ia<a.size)(hb:ib<b.size->le blt (ix a ia) (ix b ib)):Mg blt (a.toList++b.toList) (out.push (ix a ia)).toList (a.toList.drop (ia+1)) (b.toList.drop ib):=by rw[zjb ha]at m;rw[z8x];refine Mg.chunkA (C:=[ix a ia]) m fun x hx z hz=>?_;rw[z5g.mp hx];obtain⟨j,j1,j2,rfl⟩:=zbe hz;exact C.tr _ _ _ (hb (by omega)) (T.sb ib j j1 j2)
theorem zw8(C:Cmp prog w A E s kd U blt)(T:Two blt U a b)(m:Mg blt (a.toList++b.toList) out.toList (a.toList.drop ia) (b.toList.drop ib))(hk:ia+k<=a.size)(h:∀j,j<k->le blt (ix a (ia+j)) (ix b ib)):Mg blt (a.toList++b.toList) (out++a.extract ia (ia+k)).toList (a.toList.drop (ia+k)) (b.toList.drop ib):=by rw[zpm hk]at m;rw[z59];refine Mg.chunkA m fun x hx z hz=>?_;obtain⟨j,j1,j2,rfl⟩:=zkl hx;obtain⟨l,l1,l2,rfl⟩:=zbe hz;exact C.tr _ _ _ (h j j1) (T.sb ib l l1 l2)
theorem zw7(C:Cmp prog w A E s kd U blt)(T:Two blt U a b)(m:Mg blt (a.toList++b.toList) out.toList (a.toList.drop ia) (b.toList.drop ib))(hk:ib+k<=b.size)(h:∀j,j<k->blt (ix b (ib+j)) (ix a ia)=true):Mg blt (a.toList++b.toList) (out++b.extract ib (ib+k)).toList (a.toList.drop ia) (b.toList.drop (ib+k)):=by rw[zpm hk]at m;rw[z59];refine Mg.chunkB m fun x hx z hz=>?_;obtain⟨j,j1,j2,rfl⟩:=zkl hx;obtain⟨l,l1,l2,rfl⟩:=zbe hz;exact C.tr _ _ _ (C.asy _ _ (h j j1)) (T.sa ia l l1 l2)
end
section
variable {prog:Program}{w:World}{A:Around}{E:zVP}{s:Shared}{blt:Keyed->Keyed->Bool}{U:Keyed->Prop}{kd:SortKind}{st:SortSt}{a b:Array Keyed}
abbrev Gs:=Option (Array Keyed)×Array Keyed×Nat×Nat×Nat×Nat×Nat
def zqs(a b out:Array Keyed)(ia ib mg k k1:Nat):StateT SortSt Sem (ForInStep Gs):=do
 let x <-elem' a ia
 if(ia+1+1==a.size)=true then pure (ForInStep.done (some (out.push x++b.extract ib++a.extract (ia+1)),out.push x,ia+1,ib,mg,k,k1))
 else if(decide (k<7)&&decide (k1<7))=true then pure (ForInStep.done (none,out.push x,ia+1,ib,mg,k,k1))else pure (ForInStep.yield (none,out.push x,ia+1,ib,mg,k,k1))
def zqt(a b out:Array Keyed)(ia ib mg k bc:Nat):StateT SortSt Sem (ForInStep Gs):=do
 let y <-elem' b ib
 if(ib+1==b.size)=true then pure (ForInStep.done (some (out.push y++a.extract ia++b.extract (ib+1)),out.push y,ia,ib+1,mg,k,bc))
 else do
   let x <-elem' a ia
   let r <-xg true x b (ib+1) (b.size-(ib+1)) 0
   match r with
   | some k1=>
     if k1>0 then
       if(ib+1+k1==b.size)=true then pure (ForInStep.done (some (out.push y++b.extract (ib+1) (ib+1+k1)++a.extract ia++b.extract (ib+1+k1)),out.push y++b.extract (ib+1) (ib+1+k1),ia,ib+1+k1,mg,k,k1))
       else zqs a b (out.push y++b.extract (ib+1) (ib+1+k1)) ia (ib+1+k1) mg k k1
     else zqs a b (out.push y) ia (ib+1) mg k k1
   |_=>pure (ForInStep.done (some (out.push y++a.extract ia++b.extract (ib+1)),out.push y,ia,ib+1,mg,k,bc))
def z01(a b out:Array Keyed)(ia ib mg ac bc:Nat):StateT SortSt Sem (ForInStep Gs):=do
 smg mg
 let y <-elem' b ib
 let r <-xg false y a ia (a.size-ia) 0
 match r with
 | some k=>
   if k>0 then
     if(ia+k+1==a.size)=true then pure (ForInStep.done (some (out++a.extract ia (ia+k)++b.extract ib++a.extract (ia+k)),out++a.extract ia (ia+k),ia+k,ib,mg,k,bc))
     else if(ia+k==a.size)=true then pure (ForInStep.done (some (out++a.extract ia (ia+k)++a.extract (ia+k)++b.extract ib),out++a.extract ia (ia+k),ia+k,ib,mg,k,bc))
     else zqt a b (out++a.extract ia (ia+k)) (ia+k) ib mg k bc
   else zqt a b out ia ib mg k bc
 |_=>pure (ForInStep.done (some (out++a.extract ia++b.extract ib),out,ia,ib,mg,ac,bc))
def Lp(blt:Keyed->Keyed->Bool)(a b:Array Keyed)(N:Nat)(st:SortSt)(r:ForInStep Gs)(st2:SortSt):Prop:=∃g2,st2=zbu st g2/\((∃out2 ia2 ib2 mg2 ac2 bc2,(r=.done (none,out2,ia2,ib2,mg2,ac2,bc2)\/r=.yield (none,out2,ia2,ib2,mg2,ac2,bc2))/\At blt a b out2 ia2 ib2/\N<=out2.size)\/∃v q,r=.done (some v,q)/\yz blt a b v)
variable {out:Array Keyed}{ia ib mg k k1 ac bc N:Nat}
theorem zgz(C:Cmp prog w A E s kd U blt)(T:Two blt U a b){g:Nat}(m:Mg blt (a.toList++b.toList) out.toList (a.toList.drop ia) (b.toList.drop ib))(ha:ia+1<a.size)(hb:ib<b.size)(hx:le blt (ix a ia) (ix b ib))(hN:N<=out.size):wpS (model prog w) A E s (zqs a b out ia ib mg k k1) (Lp blt a b N st) (zbu st g):=by
 unfold zqs;refine z5a (qk (by omega) ?_);have m2:=zs3 C T m (by omega) fun _=>hx;by_cases f1:ia+1+1=a.size
 · rw[z5s (by simpa using f1)];exact z5k ⟨g,rfl,.inr ⟨_,_,rfl,zdb T m2 f1⟩⟩
 · rw[z5y (by simpa using f1)];have at2:At blt a b (out.push (ix a ia)) (ia+1) ib:=⟨by omega,hb,m2⟩
   split
   · exact z5k ⟨g,rfl,.inl ⟨_,_,_,_,_,_,.inl rfl,at2,by rw[z6c];omega⟩⟩
   · exact z5k ⟨g,rfl,.inl ⟨_,_,_,_,_,_,.inr rfl,at2,by rw[z6c];omega⟩⟩
theorem zg0(C:Cmp prog w A E s kd U blt)(T:Two blt U a b)(hk:kindOf st=kd){g:Nat}(m:Mg blt (a.toList++b.toList) out.toList (a.toList.drop ia) (b.toList.drop ib))(ha:ia+1<a.size)(hb:ib<b.size)(hy:blt (ix b ib) (ix a ia)=true)(hN:N<=out.size):wpS (model prog w) A E s (zqt a b out ia ib mg k bc) (Lp blt a b N st) (zbu st g):=by
 unfold zqt;refine z5a (qk hb ?_);have m2:=zns C T m hb fun _=>hy;by_cases f1:ib+1=b.size
 · rw[z5s (by simpa using f1)];exact z5k ⟨g,rfl,.inr ⟨_,_,rfl,zb6 m2 (.inl f1)⟩⟩
 · rw[z5y (by simpa using f1)];refine z5a (qk (by omega) ?_);refine z5a (zjr (st:=zbu st g) (x:=ix a ia) (i:=ib+1) (n:=b.size-(ib+1)) (hint:=0) C hk (T.ua _ (yj (by omega))) T.ub T.sb (by omega) (by omega) fun k1 q1 q2 q3=>?_);dsimp only;by_cases f2:k1>0
   · rw[z5s f2];have m3:=zw7 C T m2 (k:=k1) (by omega) q2;by_cases f3:ib+1+k1=b.size
     · rw[z5s (by simpa using f3)];exact z5k ⟨g,rfl,.inr ⟨_,_,rfl,zb6 m3 (.inl f3)⟩⟩
     · rw[z5y (by simpa using f3)];exact zgz C T m3 ha (by omega) (q3 k1 (z44 _) (by omega)) (by rw[z9n,z6c];omega)
   · rw[z5y f2];have:k1=0:=by omega
     subst this;exact zgz C T m2 ha (by omega) (q3 0 (z44 _) (by omega)) (by rw[z6c];omega)
theorem zjq(C:Cmp prog w A E s kd U blt)(T:Two blt U a b)(hk:kindOf st=kd){g:Nat}(m:At blt a b out ia ib)(hN:N<=out.size):wpS (model prog w) A E s (z01 a b out ia ib mg ac bc) (Lp blt a b N st) (zbu st g):=by
 have p1:=m.ha;have p2:=m.hb;unfold z01;refine z5a (zfr ?_);refine z5a (qk p2 ?_);refine z5a (zjs (st:=zbu st mg) (i:=ia) (n:=a.size-ia) (hint:=0) C hk (T.ub _ (yj p2)) T.ua T.sa (by omega) (by omega) fun k q1 q2 q3=>?_);dsimp only;by_cases f2:k>0
 · rw[z5s f2];have m3:=zw8 C T m.mg (k:=k) (by omega) q2;by_cases f3:ia+k+1=a.size
   · rw[z5s (by simpa using f3)];exact z5k ⟨mg,rfl,.inr ⟨_,_,rfl,zdb T m3 f3⟩⟩
   · rw[z5y (by simpa using f3)];by_cases f4:ia+k=a.size
     · rw[z5s (by simpa using f4)];exact z5k ⟨mg,rfl,.inr ⟨_,_,rfl,zb6 m3 (.inr f4)⟩⟩
     · rw[z5y (by simpa using f4)];exact zg0 (st:=st) C T hk m3 (by omega) p2 (q3 k (z44 _) (by omega)) (by rw[z9n];omega)
 · rw[z5y f2];have:k=0:=by omega
   subst this;exact zg0 (st:=st) C T hk m.mg p1 p2 (q3 0 (z44 _) (by omega)) hN
theorem zib(C:Cmp prog w A E s kd U blt)(T:Two blt U a b)(hk:kindOf st=kd)(a0:0<a.size)(b0:0<b.size)(hf:blt (ix b 0) (ix a 0)=true){Q:Array Keyed->SortSt->Prop}
   (h:∀r g,yz blt a b r->Q r (zbu st g)):wpS (model prog w) A E s (zf3 a b) Q st:=by
 rw[ziu];dsimp only;refine z5a (zbb ?_);refine z5a (qk b0 ?_);have m0:Mg blt (a.toList++b.toList) (#[]:Array Keyed).toList (a.toList.drop 0) (b.toList.drop 0):=⟨zfv T.sa,zfv T.sb,z8k _⟩
 have m1:=zns C T m0 b0 fun _=>hf;have eg:st=zbu st (gallopOf st):=rfl;have h':∀r,yz blt a b r->Q r st:=fun r hr=>by have:=h r (gallopOf st) hr;rw[<-eg]at this;exact this
 by_cases e1:1=b.size
 · rw[z5s (by simpa using e1)];exact z5k (h' _ (zb6 m1 (.inl e1)))
 · rw[z5y (by simpa using e1)];by_cases e2:0+1=a.size
   · rw[z5s (by simpa using e2)];exact z5k (h' _ (zdb T m1 e2))
   · rw[z5y (by simpa using e2)];refine z5a (z91 ?_);refine z5a (z65 (z6v
       (I:=fun x c st'=>∃g out ia ib mg,st'=zbu st g/\c=(none,out,ia,ib,mg)/\At blt a b out ia ib/\x+1<=out.size)
       (Q:=fun c st'=>∃g r,st'=zbu st g/\c.1=some r/\yz blt a b r) ?_ ?_ ⟨gallopOf st,#[ix b 0],0,1,gallopOf st,rfl,rfl,⟨by omega,by omega,m1⟩,z44 _⟩) ?_)
     · rintro x c st' _ hx ⟨g,out,ia,ib,mg,rfl,rfl,at0,sz⟩;dsimp only;refine z5a (z65 (z6v
         (I:=fun x1 c1 st1=>∃out1 ia1 ib1 ac bc,st1=zbu st g/\c1=(none,out1,ia1,ib1,ac,bc)/\At blt a b out1 ia1 ib1/\out.size+x1<=out1.size)
         (Q:=fun c1 st1=>st1=zbu st g/\((∃out1 ia1 ib1 ac bc,c1=(none,out1,ia1,ib1,ac,bc)/\At blt a b out1 ia1 ib1/\out.size+1<=out1.size)\/∃r q,c1=(some r,q)/\yz blt a b r)) ?_ ?_ ⟨out,ia,ib,0,0,rfl,rfl,at0,z44 _⟩) ?_)
       · rintro x1 c1 st1 _ hx1 ⟨out1,ia1,ib1,ac,bc,rfl,rfl,at1,sz1⟩;have p1:=at1.ha;have p2:=at1.hb;dsimp only;refine z5a (qk p2 ?_);refine z5a (qk (by omega) ?_);refine z5a (C.lt _ _ (T.ub _ (yj p2)) (T.ua _ (yj (by omega))) _ _ hk ?_);dsimp only;cases hw:blt (ix b ib1) (ix a ia1)
         · simp only[z5e,z6i];refine z5a (qk (by omega) ?_);have m2:=zs3 C T at1.mg (by omega) fun _=>hw;by_cases f1:ia1+1+1=a.size
           · rw[z5s (by simpa using f1)];exact z5k ⟨rfl,.inr ⟨_,_,rfl,zdb T m2 f1⟩⟩
           · rw[z5y (by simpa using f1)];have at2:At blt a b (out1.push (ix a ia1)) (ia1+1) ib1:=⟨by omega,p2,m2⟩
             split
             · exact z5k ⟨rfl,.inl ⟨_,_,_,_,_,rfl,at2,by rw[z6c];omega⟩⟩
             · exact z5k ⟨_,_,_,_,_,rfl,rfl,at2,by rw[z6c];omega⟩
         · simp only[z61];refine z5a (qk p2 ?_);have m2:=zns C T at1.mg p2 fun _=>hw;by_cases f1:ib1+1=b.size
           · rw[z5s (by simpa using f1)];exact z5k ⟨rfl,.inr ⟨_,_,rfl,zb6 m2 (.inl f1)⟩⟩
           · rw[z5y (by simpa using f1)];have at2:At blt a b (out1.push (ix b ib1)) ia1 (ib1+1):=⟨p1,by omega,m2⟩
             split
             · exact z5k ⟨rfl,.inl ⟨_,_,_,_,_,rfl,at2,by rw[z6c];omega⟩⟩
             · exact z5k ⟨_,_,_,_,_,rfl,rfl,at2,by rw[z6c];omega⟩
       · rintro c1 st1 ⟨out1,ia1,ib1,ac,bc,rfl,rfl,at1,sz1⟩;exact⟨rfl,.inl ⟨_,_,_,_,_,rfl,at1,by omega⟩⟩
       · rintro c1 st1 ⟨rfl,⟨out1,ia1,ib1,ac,bc,rfl,at1,sz1⟩ | ⟨r,q,rfl,gr⟩⟩
         · dsimp only;refine z5a (zbb ?_);refine z5a (z65 (z6v
             (I:=fun x2 c2 st2=>∃g2 out2 ia2 ib2 mg2 ac2 bc2,st2=zbu st g2/\c2=(none,out2,ia2,ib2,mg2,ac2,bc2)/\At blt a b out2 ia2 ib2/\out.size+1<=out2.size)
             (Q:=fun c2 st2=>∃g2,st2=zbu st g2/\((∃out2 ia2 ib2 mg2 ac2 bc2,c2=(none,out2,ia2,ib2,mg2,ac2,bc2)/\At blt a b out2 ia2 ib2/\out.size+1<=out2.size)\/∃r q,c2=(some r,q)/\yz blt a b r)) ?_ ?_ ⟨g,out1,ia1,ib1,mg+1,ac,bc,rfl,rfl,at1,sz1⟩) ?_)
           · rintro x2 c2 st2 _ hx2 ⟨g2,out2,ia2,ib2,mg2,ac2,bc2,rfl,rfl,at2,sz2⟩;dsimp only;show wpS _ _ _ _ (if mg2>1 then z01 a b out2 ia2 ib2 (mg2-1) ac2 bc2 else z01 a b out2 ia2 ib2 mg2 ac2 bc2) _ _;by_cases f0:mg2>1
             · rw[z5s f0];refine z65 (zjq (st:=st) (N:=out.size+1) C T hk at2 sz2) fun r st2 hr=>?_;rcases hr with⟨g3,rfl,⟨o,i1,i2,mm,c1,c2,e | e,q1,q2⟩ | ⟨v,q,rfl,gv⟩⟩
               · subst e;exact⟨g3,rfl,.inl ⟨o,i1,i2,mm,c1,c2,rfl,q1,q2⟩⟩
               · subst e;exact⟨g3,o,i1,i2,mm,c1,c2,rfl,rfl,q1,q2⟩
               · exact⟨g3,rfl,.inr ⟨v,q,rfl,gv⟩⟩
             · rw[z5y f0];refine z65 (zjq (st:=st) (N:=out.size+1) C T hk at2 sz2) fun r st2 hr=>?_;rcases hr with⟨g3,rfl,⟨o,i1,i2,mm,c1,c2,e | e,q1,q2⟩ | ⟨v,q,rfl,gv⟩⟩
               · subst e;exact⟨g3,rfl,.inl ⟨o,i1,i2,mm,c1,c2,rfl,q1,q2⟩⟩
               · subst e;exact⟨g3,o,i1,i2,mm,c1,c2,rfl,rfl,q1,q2⟩
               · exact⟨g3,rfl,.inr ⟨v,q,rfl,gv⟩⟩
           · rintro c2 st2 ⟨g2,out2,ia2,ib2,mg2,ac2,bc2,rfl,rfl,at2,sz2⟩;exact⟨g2,rfl,.inl ⟨_,_,_,_,_,_,rfl,at2,sz2⟩⟩
           · rintro c2 st2 ⟨g2,rfl,⟨out2,ia2,ib2,mg2,ac2,bc2,rfl,at2,sz2⟩ | ⟨r,q,rfl,gr⟩⟩
             · dsimp only;refine z5a (zfr ?_);exact z5k ⟨mg2+1,out2,ia2,ib2,mg2+1,rfl,rfl,at2,by omega⟩
             · dsimp only;exact z5k ⟨g2,r,rfl,rfl,gr⟩
         · dsimp only;exact z5k ⟨g,r,rfl,rfl,gr⟩
     · rintro c st' ⟨g,out,ia,ib,mg,rfl,rfl,at0,sz⟩;have:=at0.le;omega
     · rintro c st' ⟨g,r,rfl,e,gr⟩;rw[e];exact z5k (h r g gr)
end
theorem ziv(a b:Array Keyed):zf4 a b=(do
 rule "list.sort.merge-hi"
 let total:=a.size+b.size
 let done (out:Array Keyed) (na nb:Nat):=a.extract 0 na++b.extract 0 nb++out.reverse
 let firstOfB (out:Array Keyed) (na nb:Nat):=b.extract 0 nb++a.extract 0 na++out.reverse
 let mut na:=a.size-1
 let mut nb:=b.size
 let mut out:Array Keyed:=#[<-elem' a na]
 if na==0 then return done out na nb
 if nb==1 then return firstOfB out na nb
 let mut minGallop:=gallopOf (<-get)
 for _ in [0:total] do
   let mut acount:=0
   let mut bcount:=0
   for _ in [0:total] do
     let some aWins <-lt' (<-elem' b (nb-1)) (<-elem' a (na-1)) | return done out na nb
     if aWins then
       na:=na-1;out:=out.push (<-elem' a na);acount:=acount+1;bcount:=0
       if na==0 then return done out na nb
       if acount ≥ minGallop then break
     else
       nb:=nb-1;out:=out.push (<-elem' b nb);bcount:=bcount+1;acount:=0
       if nb==1 then return firstOfB out na nb
       if bcount ≥ minGallop then break
   rule "list.sort.gallop"
   minGallop:=minGallop+1
   for _ in [0:total] do
     if minGallop>1 then minGallop:=minGallop-1
     smg minGallop
     let some at_ <-xg false (<-elem' b (nb-1)) a 0 na (na-1) | return done out na nb
     let k:=na-at_
     acount:=k
     if k>0 then
       out:=out++(a.extract at_ na).reverse;na:=at_
       if na==0 then return done out na nb
     nb:=nb-1;out:=out.push (<-elem' b nb)
     if nb==1 then return firstOfB out na nb
     let some at_ <-xg true (<-elem' a (na-1)) b 0 nb (nb-1) | return done out na nb
     let k:=nb-at_
     bcount:=k
     if k>0 then
       out:=out++(b.extract at_ nb).reverse;nb:=at_
       if nb==1 then return firstOfB out na nb
       if nb==0 then return done out na nb
     na:=na-1;out:=out.push (<-elem' a na)
     if na==0 then return done out na nb
     if acount<7&&bcount<7 then break
   minGallop:=minGallop+1
   smg minGallop
 unsupported "internal:list.sort.merge-bound"):=rfl
section
variable {blt:Keyed->Keyed->Bool}{T O A B C:List Keyed}
structure Mh (blt:Keyed->Keyed->Bool) (T O A B:List Keyed):Prop where
 pa:(A++O).Pairwise (le blt)
 pb:(B++O).Pairwise (le blt)
 pm:(A++(B++O)).Perm T
theorem Mh.chunkA(h:Mh blt T O (A++C) B)(hc:∀x∈C,∀z∈B,le blt z x):Mh blt T (C++O) A B:=by
 have h1:=z47.mp h.pa;have h2:=z47.mp h.pb;have h3:=z47.mp h1.1;refine⟨by rw[<-z5i];exact h.pa,?_,?_⟩
 · refine z47.mpr ⟨h2.1,z47.mpr ⟨h3.2.1,h1.2.1,fun x hx y hy=>h1.2.2 x (z5c _ hx) y hy⟩,fun z hz x hx=>?_⟩;rcases z5x.mp hx with hx | hx
   · exact hc x hx z hz
   · exact h2.2.2 z hz x hx
 · refine List.Perm.trans ?_ h.pm;rw[z5i];refine z73 A ?_;rw[<-z5i,<-z5i];exact z70 O z8p
theorem Mh.chunkB(h:Mh blt T O A (B++C))(hc:∀x∈C,∀z∈A,le blt z x):Mh blt T (C++O) A B:=by
 have h1:=z47.mp h.pb;have h2:=z47.mp h.pa;have h3:=z47.mp h1.1;refine⟨?_,by rw[<-z5i];exact h.pb,?_⟩
 · refine z47.mpr ⟨h2.1,z47.mpr ⟨h3.2.1,h1.2.1,fun x hx y hy=>h1.2.2 x (z5c _ hx) y hy⟩,fun z hz x hx=>?_⟩;rcases z5x.mp hx with hx | hx
   · exact hc x hx z hz
   · exact h2.2.2 z hz x hx
 · have:=h.pm;rw[z5i]at this;exact this
theorem Mh.finA(h:Mh blt T O A []):zwr blt T (A++O):=⟨h.pa,h.pm⟩
theorem Mh.finB(h:Mh blt T O [] B):zwr blt T (B++O):=⟨h.pb,h.pm⟩
theorem Mh.firstB{x:Keyed}(h:Mh blt T O A [x])(hx:∀z∈A,le blt x z):zwr blt T ([x]++(A++O)):=by
 have h1:=z47.mp h.pb;refine⟨z47.mpr ⟨z7s _ _,h.pa,fun y hy z hz=>?_⟩,List.Perm.trans ?_ h.pm⟩
 · rw[z5g.mp hy];rcases z5x.mp hz with hz | hz
   · exact hx z hz
   · exact h1.2.2 x (z5g.mpr rfl) z hz
 · rw[<-z5i,<-z5i];exact z70 O z8p
theorem Mh.len(h:Mh blt T O A B):O.length+A.length+B.length=T.length:=by have:=h.pm.length_eq;simp only[z42]at this;omega
variable {a b:Array Keyed}{i j k:Nat}
theorem zig(h:i<a.size):a.toList.take (i+1)=a.toList.take i++[ix a i]:=by
 have e:a.toList[i]? = some (ix a i):=by rw[z6e];exact zko h
 rw[List.take_add_one,e];rfl
theorem z09:(a.extract 0 i).toList=a.toList.take i:=by rw[z7o,List.extract_eq_drop_take,Nat.sub_zero,z8z]
theorem zm7(h:i<=j)(hj:j<=a.size):a.toList.take j=a.toList.take i++(a.extract i j).toList:=by
 rw[z7o,List.extract_eq_drop_take];have:a.toList.take j=a.toList.take (i+(j-i)):=by rw[show i+(j-i)=j by omega]
 rw[this,List.take_add]
theorem zc8{x:Keyed}(h:x∈a.toList.take i):∃j,j<i/\j<a.size/\x=ix a j:=by obtain⟨j,hj,e⟩:=z5v h;rw[z5m,Array.length_toList]at hj;refine⟨j,by omega,by omega,?_⟩;rw[z7f]at e;rw[<-e];unfold ix;rw[z56 (by omega)];simp
end
section
variable {prog:Program}{w:World}{A:Around}{E:zVP}{s:Shared}{blt:Keyed->Keyed->Bool}{U:Keyed->Prop}{kd:SortKind}{st:SortSt}{a b:Array Keyed}
structure Ah (blt:Keyed->Keyed->Bool) (a b out:Array Keyed) (na nb:Nat):Prop where
 a0:0<na
 ha:na<=a.size
 b0:1<nb
 hb:nb<=b.size
 mg:Mh blt (a.toList++b.toList) out.toList.reverse (a.toList.take na) (b.toList.take nb)
structure TwoH (blt:Keyed->Keyed->Bool) (U:Keyed->Prop) (a b:Array Keyed):Prop where
 sa:zp7 blt a
 sb:zp7 blt b
 ua:∀x∈a.toList,U x
 ub:∀x∈b.toList,U x
 fb:∀z∈a.toList,le blt (ix b 0) z
variable {out:Array Keyed}{na nb k:Nat}
theorem Ah.le(h:Ah blt a b out na nb):out.size+3<=a.size+b.size:=by have:=h.mg.len;simp only[z5m,z42,z6o,Array.length_toList]at this;have:=h.a0;have:=h.ha;have:=h.b0;have:=h.hb;omega
theorem zz2(m:Mh blt (a.toList++b.toList) out.toList.reverse (a.toList.take na) (b.toList.take nb))(hb:nb=0\/na=0):yz blt a b (a.extract 0 na++b.extract 0 nb++out.reverse):=by
 unfold yz;rw[z59,z59,z09,z09,z8y];rcases hb with rfl | rfl
 · rw[List.take_zero]at m ⊢;rw[z50];exact m.finA
 · rw[List.take_zero]at m ⊢;rw[List.nil_append];exact m.finB
theorem z08(T:TwoH blt U a b)(b0:0<b.size)(m:Mh blt (a.toList++b.toList) out.toList.reverse (a.toList.take na) (b.toList.take nb))(hb:nb=1):yz blt a b (b.extract 0 nb++a.extract 0 na++out.reverse):=by
 subst hb;unfold yz;rw[z59,z59,z09,z09,z8y,z5i];have e:b.toList.take 1=[ix b 0]:=by have:=zig b0;rw[List.take_zero]at this;exact this
 rw[e]at m ⊢;exact m.firstB fun z hz=>T.fb z (z57 hz)
theorem ziq(C:Cmp prog w A E s kd U blt)(T:TwoH blt U a b)(m:Mh blt (a.toList++b.toList) out.toList.reverse (a.toList.take (na+1)) (b.toList.take nb))(ha:na<a.size)(hb:nb<=b.size)(h:0<nb->blt (ix b (nb-1)) (ix a na)=true):Mh blt (a.toList++b.toList) (out.push (ix a na)).toList.reverse (a.toList.take na) (b.toList.take nb):=by rw[zig ha]at m;rw[z8x,z82];refine Mh.chunkA (C:=[ix a na]) m fun x hx z hz=>?_;rw[z5g.mp hx];obtain⟨j,j1,j2,rfl⟩:=zc8 hz;exact C.tr _ _ _ (T.sb j (nb-1) (by omega) (by omega)) (C.asy _ _ (h (by omega)))
theorem znt(C:Cmp prog w A E s kd U blt)(T:TwoH blt U a b)(m:Mh blt (a.toList++b.toList) out.toList.reverse (a.toList.take na) (b.toList.take (nb+1)))(hb:nb<b.size)(ha:na<=a.size)(h:0<na->le blt (ix a (na-1)) (ix b nb)):Mh blt (a.toList++b.toList) (out.push (ix b nb)).toList.reverse (a.toList.take na) (b.toList.take nb):=by rw[zig hb]at m;rw[z8x,z82];refine Mh.chunkB (C:=[ix b nb]) m fun x hx z hz=>?_;rw[z5g.mp hx];obtain⟨j,j1,j2,rfl⟩:=zc8 hz;exact C.tr _ _ _ (T.sa j (na-1) (by omega) (by omega)) (h (by omega))
theorem zuc(C:Cmp prog w A E s kd U blt)(T:TwoH blt U a b)(m:Mh blt (a.toList++b.toList) out.toList.reverse (a.toList.take na) (b.toList.take nb))(hk:k<=na)(ha:na<=a.size)(hb:nb<=b.size)(h:∀j,k<=j->j<na->blt (ix b (nb-1)) (ix a j)=true):Mh blt (a.toList++b.toList) (out++(a.extract k na).reverse).toList.reverse (a.toList.take k) (b.toList.take nb):=by
 rw[zm7 hk ha]at m;rw[z59,z82,z8y,z7p];refine Mh.chunkA m fun x hx z hz=>?_;have hx':x∈(a.extract k (k+(na-k))).toList:=by rw[show k+(na-k)=na by omega];exact hx
 obtain⟨j,j1,j2,rfl⟩:=zkl hx';obtain⟨l,l1,l2,rfl⟩:=zc8 hz;exact C.tr _ _ _ (T.sb l (nb-1) (by omega) (by omega)) (C.asy _ _ (h (k+j) (by omega) (by omega)))
theorem zub(C:Cmp prog w A E s kd U blt)(T:TwoH blt U a b)(m:Mh blt (a.toList++b.toList) out.toList.reverse (a.toList.take na) (b.toList.take nb))(hk:k<=nb)(ha:na<=a.size)(hb:nb<=b.size)(h:∀j,k<=j->j<nb->le blt (ix a (na-1)) (ix b j)):Mh blt (a.toList++b.toList) (out++(b.extract k nb).reverse).toList.reverse (a.toList.take na) (b.toList.take k):=by
 rw[zm7 hk hb]at m;rw[z59,z82,z8y,z7p];refine Mh.chunkB m fun x hx z hz=>?_;have hx':x∈(b.extract k (k+(nb-k))).toList:=by rw[show k+(nb-k)=nb by omega];exact hx
 obtain⟨j,j1,j2,rfl⟩:=zkl hx';obtain⟨l,l1,l2,rfl⟩:=zc8 hz;exact C.tr _ _ _ (T.sa l (na-1) (by omega) (by omega)) (h (k+j) (by omega) (by omega))
end
section
variable {prog:Program}{w:World}{A:Around}{E:zVP}{s:Shared}{blt:Keyed->Keyed->Bool}{U:Keyed->Prop}{kd:SortKind}{st:SortSt}{a b:Array Keyed}
abbrev Hs:=Option (Array Keyed)×Nat×Nat×Array Keyed×Nat×Nat×Nat
def zj3(a b out:Array Keyed)(na nb mg k k1:Nat):StateT SortSt Sem (ForInStep Hs):=do
 let x <-elem' a (na-1)
 if(na-1==0)=true then pure (ForInStep.done (some (a.extract 0 (na-1)++b.extract 0 nb++(out.push x).reverse),na-1,nb,out.push x,mg,k,k1))
 else if(decide (k<7)&&decide (k1<7))=true then pure (ForInStep.done (none,na-1,nb,out.push x,mg,k,k1))else pure (ForInStep.yield (none,na-1,nb,out.push x,mg,k,k1))
def zj4(a b out:Array Keyed)(na nb mg k bc:Nat):StateT SortSt Sem (ForInStep Hs):=do
 let y <-elem' b (nb-1)
 if(nb-1==1)=true then pure (ForInStep.done (some (b.extract 0 (nb-1)++a.extract 0 na++(out.push y).reverse),na,nb-1,out.push y,mg,k,bc))
 else do
   let x <-elem' a (na-1)
   let r <-xg true x b 0 (nb-1) (nb-1-1)
   match r with
   | some t=>
     if nb-1-t>0 then
       if(t==1)=true then pure (ForInStep.done (some (b.extract 0 t++a.extract 0 na++(out.push y++(b.extract t (nb-1)).reverse).reverse),na,t,out.push y++(b.extract t (nb-1)).reverse,mg,k,nb-1-t))
       else if(t==0)=true then pure (ForInStep.done (some (a.extract 0 na++b.extract 0 t++(out.push y++(b.extract t (nb-1)).reverse).reverse),na,t,out.push y++(b.extract t (nb-1)).reverse,mg,k,nb-1-t))
       else zj3 a b (out.push y++(b.extract t (nb-1)).reverse) na t mg k (nb-1-t)
     else zj3 a b (out.push y) na (nb-1) mg k (nb-1-t)
   |_=>pure (ForInStep.done (some (a.extract 0 na++b.extract 0 (nb-1)++(out.push y).reverse),na,nb-1,out.push y,mg,k,bc))
def zrc(a b out:Array Keyed)(na nb mg ac bc:Nat):StateT SortSt Sem (ForInStep Hs):=do
 smg mg
 let y <-elem' b (nb-1)
 let r <-xg false y a 0 na (na-1)
 match r with
 | some t=>
   if na-t>0 then
     if(t==0)=true then pure (ForInStep.done (some (a.extract 0 t++b.extract 0 nb++(out++(a.extract t na).reverse).reverse),t,nb,out++(a.extract t na).reverse,mg,na-t,bc))
     else zj4 a b (out++(a.extract t na).reverse) t nb mg (na-t) bc
   else zj4 a b out na nb mg (na-t) bc
 |_=>pure (ForInStep.done (some (a.extract 0 na++b.extract 0 nb++out.reverse),na,nb,out,mg,ac,bc))
def LpH(blt:Keyed->Keyed->Bool)(a b:Array Keyed)(N:Nat)(st:SortSt)(r:ForInStep Hs)(st2:SortSt):Prop:=∃g2,st2=zbu st g2/\((∃out2 na2 nb2 mg2 ac2 bc2,(r=.done (none,na2,nb2,out2,mg2,ac2,bc2)\/r=.yield (none,na2,nb2,out2,mg2,ac2,bc2))/\Ah blt a b out2 na2 nb2/\N<=out2.size)\/∃v q,r=.done (some v,q)/\yz blt a b v)
variable {out:Array Keyed}{na nb mg k k1 ac bc N:Nat}
theorem ze4(C:Cmp prog w A E s kd U blt)(T:TwoH blt U a b){g:Nat}(m:Mh blt (a.toList++b.toList) out.toList.reverse (a.toList.take na) (b.toList.take nb))(a0:0<na)(ha:na<=a.size)(b0:1<nb)(hb:nb<=b.size)(hx:blt (ix b (nb-1)) (ix a (na-1))=true)(hN:N<=out.size):wpS (model prog w) A E s (zj3 a b out na nb mg k k1) (LpH blt a b N st) (zbu st g):=by
 obtain⟨n1,rfl⟩:∃n1,na=n1+1:=⟨na-1,by omega⟩
 unfold zj3;refine z5a (qk (by omega) ?_);have m2:=ziq C T m (by omega) hb fun _=>hx;simp only[z8m]at *;by_cases f1:n1=0
 · rw[z5s (by simpa using f1)];exact z5k ⟨g,rfl,.inr ⟨_,_,rfl,zz2 m2 (.inr f1)⟩⟩
 · rw[z5y (by simpa using f1)];have at2:Ah blt a b (out.push (ix a n1)) n1 nb:=⟨by omega,by omega,b0,hb,m2⟩
   split
   · exact z5k ⟨g,rfl,.inl ⟨_,_,_,_,_,_,.inl rfl,at2,by rw[z6c];omega⟩⟩
   · exact z5k ⟨g,rfl,.inl ⟨_,_,_,_,_,_,.inr rfl,at2,by rw[z6c];omega⟩⟩
theorem ze5(C:Cmp prog w A E s kd U blt)(T:TwoH blt U a b)(hk:kindOf st=kd){g:Nat}(m:Mh blt (a.toList++b.toList) out.toList.reverse (a.toList.take na) (b.toList.take nb))(a0:0<na)(ha:na<=a.size)(b0:1<nb)(hb:nb<=b.size)(hy:le blt (ix a (na-1)) (ix b (nb-1)))(hN:N<=out.size):wpS (model prog w) A E s (zj4 a b out na nb mg k bc) (LpH blt a b N st) (zbu st g):=by
 obtain⟨n1,rfl⟩:∃n1,nb=n1+1:=⟨nb-1,by omega⟩
 unfold zj4;refine z5a (qk (by omega) ?_);have m2:=znt C T m (by omega) ha fun _=>hy;simp only[z8m]at *;by_cases f1:n1=1
 · rw[z5s (by simpa using f1)];exact z5k ⟨g,rfl,.inr ⟨_,_,rfl,z08 T (by omega) m2 f1⟩⟩
 · rw[z5y (by simpa using f1)];refine z5a (qk (by omega) ?_);refine z5a (zjr (st:=zbu st g) (x:=ix a (na-1)) (i:=0) (n:=n1) (hint:=n1-1) C hk (T.ua _ (yj (by omega))) T.ub T.sb (by omega) (by omega) fun t q1 q2 q3=>?_);simp only[z9q]at q2 q3;dsimp only;by_cases f2:n1-t>0
   · rw[z5s f2];have m3:=zub C T m2 (k:=t) q1 ha (by omega) q3;by_cases f3:t=1
     · rw[z5s (by simpa using f3)];exact z5k ⟨g,rfl,.inr ⟨_,_,rfl,z08 T (by omega) m3 f3⟩⟩
     · rw[z5y (by simpa using f3)];by_cases f4:t=0
       · rw[z5s (by simpa using f4)];exact z5k ⟨g,rfl,.inr ⟨_,_,rfl,zz2 m3 (.inl f4)⟩⟩
       · rw[z5y (by simpa using f4)];exact ze4 C T m3 a0 ha (by omega) (by omega) (q2 (t-1) (by omega)) (by rw[z9n,z6c];omega)
   · rw[z5y f2];exact ze4 C T m2 a0 ha (by omega) (by omega) (q2 (n1-1) (by omega)) (by rw[z6c];omega)
theorem zg1(C:Cmp prog w A E s kd U blt)(T:TwoH blt U a b)(hk:kindOf st=kd){g:Nat}(m:Ah blt a b out na nb)(hN:N<=out.size):wpS (model prog w) A E s (zrc a b out na nb mg ac bc) (LpH blt a b N st) (zbu st g):=by
 have p1:=m.ha;have p2:=m.hb;have p3:=m.a0;have p4:=m.b0;unfold zrc;refine z5a (zfr ?_);refine z5a (qk (by omega) ?_);refine z5a (zjs (st:=zbu st mg) (y:=ix b (nb-1)) (i:=0) (n:=na) (hint:=na-1) C hk (T.ub _ (yj (by omega))) T.ua T.sa (by omega) (by omega) fun t q1 q2 q3=>?_);simp only[z9q]at q2 q3;dsimp only;by_cases f2:na-t>0
 · rw[z5s f2];have m3:=zuc C T m.mg (k:=t) q1 p1 p2 q3;by_cases f3:t=0
   · rw[z5s (by simpa using f3)];exact z5k ⟨mg,rfl,.inr ⟨_,_,rfl,zz2 m3 (.inr f3)⟩⟩
   · rw[z5y (by simpa using f3)];exact ze5 (st:=st) C T hk m3 (by omega) (by omega) p4 p2 (q2 (t-1) (by omega)) (by rw[z9n];omega)
 · rw[z5y f2];exact ze5 (st:=st) C T hk m.mg p3 p1 p4 p2 (q2 (na-1) (by omega)) hN
theorem zic(C:Cmp prog w A E s kd U blt)(T:TwoH blt U a b)(hk:kindOf st=kd)(a0:0<a.size)(b0:0<b.size)(hl:blt (ix b (b.size-1)) (ix a (a.size-1))=true){Q:Array Keyed->SortSt->Prop}
   (h:∀r g,yz blt a b r->Q r (zbu st g)):wpS (model prog w) A E s (zf4 a b) Q st:=by
 rw[ziv];dsimp only;refine z5a (zbb ?_);refine z5a (qk (by omega) ?_);have m0:Mh blt (a.toList++b.toList) (#[]:Array Keyed).toList.reverse (a.toList.take (a.size-1+1)) (b.toList.take b.size):=by rw[show a.size-1+1=a.size by omega,z6j (by simp),z6j (by simp)];exact⟨by simpa using zfv T.sa,by simpa using zfv T.sb,by simp⟩
 have m1:=ziq C T m0 (by omega) (z44 _) fun _=>hl;have eg:st=zbu st (gallopOf st):=rfl;have h':∀r,yz blt a b r->Q r st:=fun r hr=>by have:=h r (gallopOf st) hr;rw[<-eg]at this;exact this
 by_cases e1:a.size-1=0
 · rw[z5s (by simpa using e1)];exact z5k (h' _ (zz2 m1 (.inr e1)))
 · rw[z5y (by simpa using e1)];by_cases e2:b.size=1
   · rw[z5s (by simpa using e2)];exact z5k (h' _ (z08 T b0 m1 e2))
   · rw[z5y (by simpa using e2)];refine z5a (z91 ?_);refine z5a (z65 (z6v
       (I:=fun x c st'=>∃g out na nb mg,st'=zbu st g/\c=(none,na,nb,out,mg)/\Ah blt a b out na nb/\x+1<=out.size)
       (Q:=fun c st'=>∃g r,st'=zbu st g/\c.1=some r/\yz blt a b r) ?_ ?_ ⟨gallopOf st,#[ix a (a.size-1)],a.size-1,b.size,gallopOf st,rfl,rfl,⟨by omega,by omega,by omega,z44 _,m1⟩,z44 _⟩) ?_)
     · rintro x c st' _ hx ⟨g,out,na,nb,mg,rfl,rfl,at0,sz⟩;dsimp only;refine z5a (z65 (z6v
         (I:=fun x1 c1 st1=>∃out1 na1 nb1 ac bc,st1=zbu st g/\c1=(none,na1,nb1,out1,ac,bc)/\Ah blt a b out1 na1 nb1/\out.size+x1<=out1.size)
         (Q:=fun c1 st1=>st1=zbu st g/\((∃out1 na1 nb1 ac bc,c1=(none,na1,nb1,out1,ac,bc)/\Ah blt a b out1 na1 nb1/\out.size+1<=out1.size)\/∃r q,c1=(some r,q)/\yz blt a b r)) ?_ ?_ ⟨out,na,nb,0,0,rfl,rfl,at0,z44 _⟩) ?_)
       · rintro x1 c1 st1 _ hx1 ⟨out1,na1,nb1,ac,bc,rfl,rfl,at1,sz1⟩;have p1:=at1.ha;have p2:=at1.hb;have p3:=at1.a0;have p4:=at1.b0;have mm:=at1.mg;obtain⟨n1,rfl⟩:∃n1,na1=n1+1:=⟨na1-1,by omega⟩
         obtain⟨n2,rfl⟩:∃n2,nb1=n2+1:=⟨nb1-1,by omega⟩
         simp only[z8m];refine z5a (qk (by omega) ?_);refine z5a (qk (by omega) ?_);refine z5a (C.lt _ _ (T.ub _ (yj (by omega))) (T.ua _ (yj (by omega))) _ _ hk ?_);dsimp only;cases hw:blt (ix b n2) (ix a n1)
         · simp only[z5e,z6i];refine z5a (qk (by omega) ?_);have m2:=znt C T mm (by omega) p1 fun _=>by rw[z8m];exact hw
           by_cases f1:n2=1
           · rw[z5s (by simpa using f1)];exact z5k ⟨rfl,.inr ⟨_,_,rfl,z08 T (by omega) m2 f1⟩⟩
           · rw[z5y (by simpa using f1)];have at2:Ah blt a b (out1.push (ix b n2)) (n1+1) n2:=⟨by omega,p1,by omega,by omega,m2⟩
             split
             · exact z5k ⟨rfl,.inl ⟨_,_,_,_,_,rfl,at2,by rw[z6c];omega⟩⟩
             · exact z5k ⟨_,_,_,_,_,rfl,rfl,at2,by rw[z6c];omega⟩
         · simp only[z61];refine z5a (qk (by omega) ?_);have m2:=ziq C T mm (by omega) p2 fun _=>by rw[z8m];exact hw
           by_cases f1:n1=0
           · rw[z5s (by simpa using f1)];exact z5k ⟨rfl,.inr ⟨_,_,rfl,zz2 m2 (.inr f1)⟩⟩
           · rw[z5y (by simpa using f1)];have at2:Ah blt a b (out1.push (ix a n1)) n1 (n2+1):=⟨by omega,by omega,by omega,p2,m2⟩
             split
             · exact z5k ⟨rfl,.inl ⟨_,_,_,_,_,rfl,at2,by rw[z6c];omega⟩⟩
             · exact z5k ⟨_,_,_,_,_,rfl,rfl,at2,by rw[z6c];omega⟩
       · rintro c1 st1 ⟨out1,na1,nb1,ac,bc,rfl,rfl,at1,sz1⟩;exact⟨rfl,.inl ⟨_,_,_,_,_,rfl,at1,by omega⟩⟩
       · rintro c1 st1 ⟨rfl,⟨out1,na1,nb1,ac,bc,rfl,at1,sz1⟩ | ⟨r,q,rfl,gr⟩⟩
         · dsimp only;refine z5a (zbb ?_);refine z5a (z65 (z6v
             (I:=fun x2 c2 st2=>∃g2 out2 na2 nb2 mg2 ac2 bc2,st2=zbu st g2/\c2=(none,na2,nb2,out2,mg2,ac2,bc2)/\Ah blt a b out2 na2 nb2/\out.size+1<=out2.size)
             (Q:=fun c2 st2=>∃g2,st2=zbu st g2/\((∃out2 na2 nb2 mg2 ac2 bc2,c2=(none,na2,nb2,out2,mg2,ac2,bc2)/\Ah blt a b out2 na2 nb2/\out.size+1<=out2.size)\/∃r q,c2=(some r,q)/\yz blt a b r)) ?_ ?_ ⟨g,out1,na1,nb1,mg+1,ac,bc,rfl,rfl,at1,sz1⟩) ?_)
           · rintro x2 c2 st2 _ hx2 ⟨g2,out2,na2,nb2,mg2,ac2,bc2,rfl,rfl,at2,sz2⟩;dsimp only;show wpS _ _ _ _ (if mg2>1 then zrc a b out2 na2 nb2 (mg2-1) ac2 bc2 else zrc a b out2 na2 nb2 mg2 ac2 bc2) _ _;by_cases f0:mg2>1
             · rw[z5s f0];refine z65 (zg1 (st:=st) (N:=out.size+1) C T hk at2 sz2) fun r st2 hr=>?_;rcases hr with⟨g3,rfl,⟨o,i1,i2,mm,c1,c2,e | e,q1,q2⟩ | ⟨v,q,rfl,gv⟩⟩
               · subst e;exact⟨g3,rfl,.inl ⟨o,i1,i2,mm,c1,c2,rfl,q1,q2⟩⟩
               · subst e;exact⟨g3,o,i1,i2,mm,c1,c2,rfl,rfl,q1,q2⟩
               · exact⟨g3,rfl,.inr ⟨v,q,rfl,gv⟩⟩
             · rw[z5y f0];refine z65 (zg1 (st:=st) (N:=out.size+1) C T hk at2 sz2) fun r st2 hr=>?_;rcases hr with⟨g3,rfl,⟨o,i1,i2,mm,c1,c2,e | e,q1,q2⟩ | ⟨v,q,rfl,gv⟩⟩
               · subst e;exact⟨g3,rfl,.inl ⟨o,i1,i2,mm,c1,c2,rfl,q1,q2⟩⟩
               · subst e;exact⟨g3,o,i1,i2,mm,c1,c2,rfl,rfl,q1,q2⟩
               · exact⟨g3,rfl,.inr ⟨v,q,rfl,gv⟩⟩
           · rintro c2 st2 ⟨g2,out2,na2,nb2,mg2,ac2,bc2,rfl,rfl,at2,sz2⟩;exact⟨g2,rfl,.inl ⟨_,_,_,_,_,_,rfl,at2,sz2⟩⟩
           · rintro c2 st2 ⟨g2,rfl,⟨out2,na2,nb2,mg2,ac2,bc2,rfl,at2,sz2⟩ | ⟨r,q,rfl,gr⟩⟩
             · dsimp only;refine z5a (zfr ?_);exact z5k ⟨mg2+1,out2,na2,nb2,mg2+1,rfl,rfl,at2,by omega⟩
             · dsimp only;exact z5k ⟨g2,r,rfl,rfl,gr⟩
         · dsimp only;exact z5k ⟨g,r,rfl,rfl,gr⟩
     · rintro c st' ⟨g,out,na,nb,mg,rfl,rfl,at0,sz⟩;have:=at0.le;omega
     · rintro c st' ⟨g,r,rfl,e,gr⟩;rw[e];exact z5k (h r g gr)
end
theorem ziw(i:Nat):mergeAt' i=(do
 let s <-get
 let(some (sa,na,power),some (sb,nb,_)):=((pendingOf s)[i]?,(pendingOf s)[i+1]?) | unsupported "internal:list.sort.pending"
 set (SortSt.mk' (kindOf s) (arrOf s) (((pendingOf s).setIfInBounds i (sa,na+nb,power)).eraseIdxIfInBounds (i+1)) (gallopOf s) (failedOf s))
 let some k <-xg false (<-elem' (arrOf s) sb) (arrOf s) sa na 0 | return false
 let(sa,na):=(sa+k,na-k)
 if na==0 then return true
 let some nb <-xg true (<-elem' (arrOf s) (sa+na-1)) (arrOf s) sb nb (nb-1) | return false
 if nb==0 then return true
 let x:=(arrOf s).extract sa sb
 let y:=(arrOf s).extract sb (sb+nb)
 let merged <-if na<=nb then zf3 x y else zf4 x y
 modify fun s=>setArr s (merged.toList.zipIdx.foldl (fun a (p,j)=>a.setIfInBounds (sa+j) p) (arrOf s))
 return(failedOf (<-get)).isNone):=rfl
theorem zj8(base:Nat):∀(l:List Keyed) (j:Nat) (arr:Array Keyed),base+j+l.length<=arr.size->((l.zipIdx j).foldl (fun a (p:Keyed×Nat)=>a.setIfInBounds (base+p.2) p.1) arr).toList=arr.toList.take (base+j)++(l++arr.toList.drop (base+j+l.length))
 | [],j,arr,_=>by simp
 | p::l,j,arr,h=>by
   rw[List.length_cons]at h;rw[List.zipIdx_cons,List.foldl_cons,zj8 base l (j+1) _ (by rw[qaj];omega)];rw[z95];have hl:base+j<arr.toList.length:=by rw[Array.length_toList];omega
   rw[show base+(j+1)=base+j+1 by omega,List.take_add_one,z6b hl,List.take_set_of_le (z44 _),List.drop_set_of_lt (by omega)];simp only[Option.toList_some,z5i,List.singleton_append,List.length_cons];rw[show base+j+1+l.length=base+j+(l.length+1) by omega];rfl
section
variable {blt:Keyed->Keyed->Bool}{pre X Y post:List Keyed}{arr:Array Keyed}{j:Nat}
theorem ix_list(h:arr.toList=pre++(X++post))(hj:j<X.length):ix arr (pre.length+j)=X[j]:=by unfold ix;rw[<-z6e,h,z5t (by omega),z7t,z55 hj,z49 hj];rfl
theorem zpe{l:Nat}(h:arr.toList=pre++(X++post))(hj:j<=l)(hl:l<=X.length):(arr.extract (pre.length+j) (pre.length+l)).toList=(X.drop j).take (l-j):=by rw[z7o,List.extract_eq_drop_take,h,<-z9o,qag,show pre.length+l-(pre.length+j)=l-j by omega,z66 (by omega),z67 (by rw[z5w];omega)]
theorem znq{a:Array Keyed}(irr:∀x,blt x x=false)(h:a.toList.Pairwise (le blt)):zp7 blt a:=by
 intro i j hij hj;rcases z68 i j with q | q
 · rw[z6t]at h;have e:∀{i} (h:i<a.toList.length),a.toList[i]=ix a i:=fun {i} h=>by rw[Array.length_toList]at h;unfold ix;rw[z56 h];simp
   have:=h i j (by rw[Array.length_toList];omega) (by rw[Array.length_toList];omega) q;rw[e,e]at this;exact this
 · rw[show i=j by omega];exact irr _
end
section
variable {prog:Program}{w:World}{A:Around}{E:zVP}{s:Shared}{blt:Keyed->Keyed->Bool}{U:Keyed->Prop}{kd:SortKind}{st:SortSt}{a b:Array Keyed}{pre X Y post:List Keyed}
theorem Cmp.irr(C:Cmp prog w A E s kd U blt)(x:Keyed):blt x x=false:=by
 cases q:blt x x
 · rfl
 · have:=C.asy _ _ q;rw[q]at this;exact this
theorem zmw(C:Cmp prog w A E s kd U blt)(hk:kindOf st=kd){y:Keyed}{i n hint:Nat}(uy:U y)(ua:∀x∈a.toList,U x)(sa:∀j l,j<=l->l<n->le blt (ix a (i+j)) (ix a (i+l)))(hn:i+n<=a.size)(hh:hint<n){Q:Option Nat->SortSt->Prop}
   (h:∀k,k<=n->(∀j,j<k->le blt (ix a (i+j)) y)->(∀j,k<=j->j<n->blt y (ix a (i+j))=true)->Q (some k) st):wpS (model prog w) A E s (xg false y a i n hint) Q st:=by
 rw[zbg];refine zae (P:=fun j=>!(blt y (ix a (i+j)))) (fun j hj Q hq=>?_) (fun j l hjl hl hp=>?_) hh fun k k1 k2 k3=>h k k1 (fun j hj=>by have:=k2 j hj;unfold le;simpa using this) (fun j h1 h2=>by have:=k3 j h1 h2;simpa using this)
 · unfold byd;refine z5a (qk (by omega) ?_);simp only[z5e,z6i];exact z5a (C.lt _ _ uy (ua _ (yj (by omega))) _ _ hk (z5k hq))
 · have e:blt y (ix a (i+l))=false:=by simpa using hp
   have:=C.tr _ _ _ (sa j l hjl hl) e;simp[this]
theorem zmv(C:Cmp prog w A E s kd U blt)(hk:kindOf st=kd){x:Keyed}{i n hint:Nat}(ux:U x)(ub:∀x∈b.toList,U x)(sb:∀j l,j<=l->l<n->le blt (ix b (i+j)) (ix b (i+l)))(hn:i+n<=b.size)(hh:hint<n){Q:Option Nat->SortSt->Prop}
   (h:∀k,k<=n->(∀j,j<k->blt (ix b (i+j)) x=true)->(∀j,k<=j->j<n->le blt x (ix b (i+j)))->Q (some k) st):wpS (model prog w) A E s (xg true x b i n hint) Q st:=by
 rw[zbg];refine zae (P:=fun j=>blt (ix b (i+j)) x) (fun j hj Q hq=>?_) (fun j l hjl hl hp=>?_) hh h
 · unfold byd;refine z5a (qk (by omega) ?_);simp only[z61];exact C.lt _ _ (ub _ (yj (by omega))) ux _ _ hk hq
 · cases q:blt (ix b (i+j)) x
   · have:=C.tr x (ix b (i+j)) (ix b (i+l)) q (sb j l hjl hl);rw[this]at hp;cases hp
   · rfl
theorem zx0(irr:∀x,blt x x=false)(sx:X.Pairwise (le blt)){j l:Nat}(hl:l<X.length)(hj:j<=l):le blt (X[j]'(z6x hj hl)) X[l]:=by
 rcases z68 j l with q | q
 · exact(z6t.mp sx) j l _ hl q
 · cases z8b hj q;exact irr _
theorem zid(C:Cmp prog w A E s kd U blt){i:Nat}{P:Array (Nat×Nat×Nat)}{p1 p2:Nat}(hk:kindOf st=kd)(hfl:failedOf st=none)(hp:pendingOf st=P)(h1:P[i]? = some (pre.length,X.length,p1))(h2:P[i+1]? = some (pre.length+X.length,Y.length,p2))
   (ha:(arrOf st).toList=pre++(X++(Y++post))) (ua:∀x∈(arrOf st).toList,U x) (sx:X.Pairwise (le blt)) (sy:Y.Pairwise (le blt)) (x0:0<X.length) (y0:0<Y.length) {Q:Bool->SortSt->Prop}
   (h:∀(Z:List Keyed) (a':Array Keyed) (g:Nat),a'.toList=pre++(Z++post)->Z.Pairwise (le blt)->Z.Perm (X++Y)->Q true (SortSt.mk' kd a' ((P.setIfInBounds i (pre.length,X.length+Y.length,p1)).eraseIdxIfInBounds (i+1)) g none)):wpS (model prog w) A E s (mergeAt' i) Q st:=by
 have irr:=C.irr;have haX:(arrOf st).toList=pre++(X++(Y++post)):=ha;have haY:(arrOf st).toList=(pre++X)++(Y++post):=by rw[z5i];exact ha
 have lpx:(pre++X).length=pre.length+X.length:=z42;have asz:(arrOf st).size=pre.length+(X.length+(Y.length+post.length)):=by rw[<-Array.length_toList,ha];simp only[z42]
 have ixX:∀{j},(hj:j<X.length)->ix (arrOf st) (pre.length+j)=X[j]:=fun {j} hj=>ix_list haX hj;have ixY:∀{j},(hj:j<Y.length)->ix (arrOf st) (pre.length+X.length+j)=Y[j]:=fun {j} hj=>by rw[<-lpx];exact ix_list haY hj
 have pX:∀{j l} (hl:l<X.length) (hj:j<=l),le blt (X[j]'(z6x hj hl)) X[l]:=fun hl hj=>zx0 irr sx hl hj;have pY:∀{j l} (hl:l<Y.length) (hj:j<=l),le blt (Y[j]'(z6x hj hl)) Y[l]:=fun hl hj=>zx0 irr sy hl hj;have uX:∀x∈X,U x:=fun x hx=>ua x (by rw[ha];simp[hx]);have uY:∀x∈Y,U x:=fun x hx=>ua x (by rw[ha];simp[hx]);rw[ziw];refine z5a (z91 ?_);rw[hp,h1,h2];dsimp only;refine z5a (z8j (f:=fun _=>_) ?_);refine z5a (qk (by omega) ?_);have e0:=ixY (j:=0) y0;rw[Nat.add_zero]at e0;rw[e0];refine z5a (zmw (a:=arrOf st) (st:=SortSt.mk' (kindOf st) (arrOf st) ((P.setIfInBounds i (pre.length,X.length+Y.length,p1)).eraseIdxIfInBounds (i+1)) (gallopOf st) (failedOf st)) (y:=Y[0]) (i:=pre.length) (n:=X.length) (hint:=0) C hk (uY _ (z8g _)) ua (fun j l hj hl=>by rw[ixX (z6x hj hl),ixX hl];exact pX hl hj) (by omega) x0 fun k k1 k2 k3=>?_);dsimp only;rw[hk,hfl];by_cases f1:X.length-k=0
 · rw[z5s (by simpa using f1)];refine z5k (h (X++Y) (arrOf st) (gallopOf st) (by rw[ha];simp) ?_ (z8k _));refine z47.mpr ⟨sx,sy,fun x hx y hy=>?_⟩;obtain⟨j,hj,rfl⟩:=z5v hx;obtain⟨l,hl,rfl⟩:=z5v hy;have:=k2 j (z45 hj (Nat.le_of_sub_eq_zero f1));rw[ixX hj]at this;exact C.tr _ _ _ this (pY hl (z54 _))
 · rw[z5y (by simpa using f1)];have k4:k<X.length:=Nat.lt_of_sub_ne_zero f1;have xe:X.length-1<X.length:=Nat.sub_lt x0 Nat.one_pos;have ye:Y.length-1<Y.length:=Nat.sub_lt y0 Nat.one_pos;rw[show pre.length+k+(X.length-k)-1=pre.length+(X.length-1) by rw[z74,z83 k1,Nat.add_sub_assoc x0]];refine z5a (qk (by rw[asz];exact z7x (z45 xe (z5h ..)) _) ?_);rw[ixX (j:=X.length-1) xe];refine z5a (zmv (b:=arrOf st) (st:=SortSt.mk' kd (arrOf st) ((P.setIfInBounds i (pre.length,X.length+Y.length,p1)).eraseIdxIfInBounds (i+1)) (gallopOf st) none) (x:=X[X.length-1]) (i:=pre.length+X.length) (n:=Y.length) (hint:=Y.length-1) C rfl (uX _ (z8g _)) ua (fun j l hj hl=>by rw[ixY (z6x hj hl),ixY hl];exact pY hl hj) (by omega) ye fun t t1 t2 t3=>?_);dsimp only;by_cases f2:t=0
   · rw[z5s (by simpa using f2)];refine z5k (h (X++Y) (arrOf st) (gallopOf st) (by rw[ha];simp) ?_ (z8k _));refine z47.mpr ⟨sx,sy,fun x hx y hy=>?_⟩;obtain⟨j,hj,rfl⟩:=z5v hx;obtain⟨l,hl,rfl⟩:=z5v hy;have:=t3 l (f2▸z54 _) hl;rw[ixY hl]at this;exact C.tr _ _ _ (pX xe (Nat.le_sub_one_of_lt hj)) this
   · rw[z5y (by simpa using f2)];have t0:0<t:=Nat.pos_of_ne_zero f2;clear f1 f2;have ex:((arrOf st).extract (pre.length+k) (pre.length+X.length)).toList=X.drop k:=by rw[zpe haX k1 (z44 _),z6j (by rw[z5w];exact z44 _)]
     have ey:((arrOf st).extract (pre.length+X.length) (pre.length+X.length+t)).toList=Y.take t:=by have:=zpe (j:=0) (l:=t) haY (z54 _) t1;rw[lpx,Nat.add_zero,z8z,Nat.sub_zero]at this;exact this
     generalize hx:(arrOf st).extract (pre.length+k) (pre.length+X.length)=x at ex;generalize hy:(arrOf st).extract (pre.length+X.length) (pre.length+X.length+t)=y at ey;have xs:x.size=X.length-k:=by rw[<-Array.length_toList,ex,z5w]
     have ys:y.size=t:=by rw[<-Array.length_toList,ey,z5m,z7y t1]
     have ixx:∀{j},(hj:k+j<X.length)->ix x j=X[k+j]:=fun {j} hj=>by unfold ix;rw[<-z6e,ex,z9d,z49 hj];rfl
     have ixy:∀{j},(hj:j<t)->ix y j=Y[j]'(z45 hj t1):=fun {j} hj=>by unfold ix;rw[<-z6e,ey,z99,z5s hj,z49 (z45 hj t1)];rfl
     have sX:zp7 blt x:=znq irr (by rw[ex];exact z8q (List.drop_sublist _ _) sx);have sY:zp7 blt y:=znq irr (by rw[ey];exact z8q (z9j _ _) sy);have uxx:∀z∈x.toList,U z:=fun z hz=>uX z (z7b (ex▸hz));have uyy:∀z∈y.toList,U z:=fun z hz=>uY z (z57 (ey▸hz));have hf:blt (ix y 0) (ix x 0)=true:=by have:=k3 k (z44 _) k4;rw[ixX k4]at this;rw[ixy t0,ixx (j:=0) k4];simpa using this
     have hl:∀j,j<t->blt (ix y j) (ix x (x.size-1))=true:=fun j hj=>by
       have:=t2 j hj;rw[ixY (z45 hj t1)]at this;have e:ix x (x.size-1)=X[X.length-1]:=by
         have q:k+(x.size-1)=X.length-1:=by rw[xs,<-Nat.add_sub_assoc (qak k4),z83 k1]
         rw[ixx (j:=x.size-1) (q▸xe)];congr 1
       rw[ixy hj,e];exact this
     have eL:pre.length+k+(X.length-k+t)=pre.length+(X.length+t):=by rw[<-z74,z74 pre.length,z83 k1,z74]
     have fin:∀(r:Array Keyed) (g:Nat),yz blt x y r->wpS (model prog w) A E s (do
         modify fun s=>setArr s (r.toList.zipIdx.foldl (fun a (p,j)=>a.setIfInBounds (pre.length+k+j) p) (arrOf s))
         return(failedOf (<-get)).isNone) Q (SortSt.mk' kd (arrOf st) ((P.setIfInBounds i (pre.length,X.length+Y.length,p1)).eraseIdxIfInBounds (i+1)) g none):=by
       intro r g gr;have rl:r.toList.length=X.length-k+t:=by rw[gr.2.length_eq,ex,ey,z42,z5w,z5m,z7y t1]
       refine z5a (z8j ?_);refine z5a (z91 ?_);have pl:=zj8 (pre.length+k) r.toList 0 (arrOf st) (by rw[rl,Nat.add_zero,asz,eL];exact z92 (z92 (z5u t1 (z5h ..)) _) _);rw[Nat.add_zero]at pl;refine z5k (h (X.take k++(r.toList++Y.drop t)) _ g (Eq.trans pl ?_) ?_ ?_)
       · rw[rl,ha];have e1:(pre++(X++(Y++post))).take (pre.length+k)=pre++X.take k:=by rw[List.take_append,z6j (z5h ..),z7t,z67 k1]
         have e2:(pre++(X++(Y++post))).drop (pre.length+k+(X.length-k+t))=Y.drop t++post:=by rw[eL,<-z9o,qag,<-z9o,qag,z66 t1]
         rw[e1,e2];simp only[z5i]
       · have inr:∀z∈r.toList,z∈X.drop k\/z∈Y.take t:=fun z hz=>by have:=gr.2.mem_iff.mp hz;rw[ex,ey]at this;exact z5x.mp this
         refine z47.mpr ⟨z8q (z9j _ _) sx,z47.mpr ⟨gr.1,z8q (List.drop_sublist _ _) sy,fun z hz v hv=>?_⟩,fun z hz v hv=>?_⟩
         · obtain⟨l,hl',rfl⟩:=z5v hv;rw[z5w]at hl';rw[z7g];rcases inr z hz with q | q
           · obtain⟨j,hj,rfl⟩:=z5v q;rw[z5w]at hj;rw[z7g];have hl2:=z8r hl';have:=t3 (t+l) (z5h ..) hl2;rw[ixY hl2]at this;exact C.tr _ _ _ (pX xe (Nat.le_sub_one_of_lt (z8r hj))) this
           · obtain⟨j,hj,rfl⟩:=z5v q;rw[z5m]at hj;rw[z7f];exact pY (z8r hl') (z5u (z6y (z45 hj (qaq ..))) (z5h ..))
         · obtain⟨j,hj,rfl⟩:=z5v hz;rw[z5m]at hj;rw[z7f];have jk:=z45 hj (qaq ..);have a1:=k2 j jk;rw[ixX (z45 jk k1)]at a1;have inY:∀v∈Y,le blt X[j] v:=fun v hv=>by obtain⟨l,hl',rfl⟩:=z5v hv;exact C.tr _ _ _ a1 (pY hl' (z54 _))
           rcases z5x.mp hv with hv | hv
           · rcases inr v hv with q | q
             · obtain⟨l,hl',rfl⟩:=z5v q;rw[z5w]at hl';rw[z7g];exact pX (z8r hl') (z5u (z6y jk) (z5h ..))
             · exact inY v (z57 q)
           · exact inY v (z7b hv)
       · have g2:=gr.2;rw[ex,ey]at g2;refine List.Perm.trans (z73 _ (z70 _ g2)) ?_;rw[z5i,z6a,<-z5i,z6a]
     have xp:0<x.size:=by rw[xs];exact qak k4
     by_cases f3:X.length-k<=t
     · rw[z5s f3];refine z5a (zib (st:=SortSt.mk' kd (arrOf st) ((P.setIfInBounds i (pre.length,X.length+Y.length,p1)).eraseIdxIfInBounds (i+1)) (gallopOf st) none) C ⟨sX,sY,uxx,uyy,fun z hz=>?_⟩ rfl xp (by rw[ys];exact t0) hf fun r g gr=>fin r g gr);obtain⟨j,hj,j2,rfl⟩:=zbe (i:=0) (by rw[z8z];exact hz);exact C.asy _ _ (hl j (ys▸j2))
     · rw[z5y f3];refine z5a (zic (st:=SortSt.mk' kd (arrOf st) ((P.setIfInBounds i (pre.length,X.length+Y.length,p1)).eraseIdxIfInBounds (i+1)) (gallopOf st) none) C ⟨sX,sY,uxx,uyy,fun z hz=>?_⟩ rfl xp (by rw[ys];exact t0) (by rw[ys];exact hl (t-1) (Nat.sub_lt t0 Nat.one_pos)) fun r g gr=>fin r g gr);obtain⟨j,hj,j2,rfl⟩:=zbe (i:=0) (by rw[z8z];exact hz);exact C.tr _ _ _ (C.asy _ _ hf) (sX 0 j hj j2)
end
section
variable {prog:Program}{w:World}{A:Around}{E:zVP}{s:Shared}{blt:Keyed->Keyed->Bool}{U:Keyed->Prop}{kd:SortKind}{st:SortSt}{arr:Array Keyed}
def Asc(blt:Keyed->Keyed->Bool)(a:Array Keyed)(lo hi:Nat):Prop:=∀i j,lo<=i->i<j->j<hi->blt (ix a i) (ix a j)=true
def Des(blt:Keyed->Keyed->Bool)(a:Array Keyed)(lo hi:Nat):Prop:=∀i j,lo<=i->i<j->j<hi->blt (ix a j) (ix a i)=true
def Dis(blt:Keyed->Keyed->Bool)(a:Array Keyed):Prop:=∀i j,i≠j->i<a.size->j<a.size->blt (ix a i) (ix a j)=false->blt (ix a j) (ix a i)=true
theorem Cmp.ltr(C:Cmp prog w A E s kd U blt){x y z:Keyed}(h1:blt x y=true)(h2:blt y z=true):blt x z=true:=by
 cases q:blt x z
 · have:=C.tr y z x (C.asy _ _ h2) q;rw[this]at h1;cases h1
 · rfl
theorem zas(C:Cmp prog w A E s kd U blt)(hk:kindOf st=kd)(ua:∀x∈(arrOf st).toList,U x){i j:Nat}(hi:i<(arrOf st).size)(hj:j<(arrOf st).size){Q:Option Bool->SortSt->Prop}(h:Q (some (blt (ix (arrOf st) i) (ix (arrOf st) j))) st):wpS (model prog w) A E s (ltAt' i j) Q st:=by rw[ltAt'_eq];refine z5a (z91 ?_);refine z5a (qk hi (z5a (qk hj ?_)));exact C.lt _ _ (ua _ (yj hi)) (ua _ (yj hj)) _ _ hk h
theorem Asc.snoc(C:Cmp prog w A E s kd U blt){a:Array Keyed}{lo n:Nat}(h:Asc blt a lo (lo+n))(n1:1<=n)(hl:blt (ix a (lo+n-1)) (ix a (lo+n))=true):Asc blt a lo (lo+(n+1)):=fun i j hi hij hj=>by
 rcases z68 j (lo+n)with q | q
 · exact h i j hi hij q
 · have:j=lo+n:=by omega
   subst this;rcases z68 i (lo+n-1)with q2 | q2
   · exact C.ltr (h i (lo+n-1) hi q2 (by omega)) hl
   · have:i=lo+n-1:=by omega
     subst this;exact hl
theorem Des.snoc(C:Cmp prog w A E s kd U blt){a:Array Keyed}{lo n:Nat}(h:Des blt a lo (lo+n))(n1:1<=n)(hl:blt (ix a (lo+n)) (ix a (lo+n-1))=true):Des blt a lo (lo+(n+1)):=fun i j hi hij hj=>by
 rcases z68 j (lo+n)with q | q
 · exact h i j hi hij q
 · have:j=lo+n:=by omega
   subst this;rcases z68 i (lo+n-1)with q2 | q2
   · exact C.ltr hl (h i (lo+n-1) hi q2 (by omega))
   · have:i=lo+n-1:=by omega
     subst this;exact hl
theorem zd1{a:Array Keyed}{i j:Nat}(hj:j<=a.size)(k:Nat):ix (mirror a i j ((j-i)/2)) k=if i<=k/\k<j then ix a (i+j-1-k)else ix a k:=by have e:=getElem?_mirror_all (i:=i) hj k;unfold ix;rw[e];split<;>rfl
theorem zd2{a:Array Keyed}{src d:Nat}(hs:src<a.size)(hd:d<=src)(k:Nat):ix (bubble a src d) k=if k=src-d then ix a src else if src-d<k/\k<=src then ix a (k-1)else ix a k:=by
 have e:=getElem?_bubble hs d hd k;unfold ix;rw[e];split
 · rfl
 · split<;>rfl
structure Sam (lo:Nat) (a a':Array Keyed):Prop where
 pm:a'.toList.Perm a.toList
 ne:∀i,i<lo->ix a' i=ix a i
theorem Sam.size{lo:Nat}{a a':Array Keyed}(h:Sam lo a a'):a'.size=a.size:=by have:=h.pm.length_eq;rw[Array.length_toList,Array.length_toList]at this;exact this
theorem Sam.refl(lo:Nat)(a:Array Keyed):Sam lo a a:=⟨z8k _,fun _ _=>rfl⟩
theorem Sam.trans{lo:Nat}{a b c:Array Keyed}(h:Sam lo a b)(h':Sam lo b c):Sam lo a c:=⟨h'.pm.trans h.pm,fun i hi=>(h'.ne i hi).trans (h.ne i hi)⟩
theorem zlm{lo:Nat}{a:Array Keyed}{j:Nat}(hj:j<=a.size):Sam lo a (mirror a lo j ((j-lo)/2)) :=
 ⟨(mirror_perm a lo j ((j-lo)/2)).toList,fun i hi=>by rw[zd1 hj,z5y (by omega)]⟩
theorem zln{lo:Nat}{a:Array Keyed}{src d:Nat}(hs:src<a.size)(hd:d<=src)(hl:lo<=src-d):Sam lo a (bubble a src d) :=
 ⟨(bubble_perm a src d).toList,fun i hi=>by rw[zd2 hs hd,z5y (by omega),z5y (by omega)]⟩
theorem Asc.mir{a:Array Keyed}{lo n:Nat}(h:Des blt a lo (lo+n))(hn:lo+n<=a.size):Asc blt (mirror a lo (lo+n) ((lo+n-lo)/2)) lo (lo+n):=fun i j hi hij hj=>by rw[zd1 hn,zd1 hn,z5s ⟨hi,Nat.lt_trans hij hj⟩,z5s ⟨z5u hi (z6y hij),hj⟩];clear hn;exact h _ _ (by omega) (by omega) (by omega)
theorem Dis.of{lo:Nat}{a a':Array Keyed}(d:a.toList.Pairwise fun x y=>blt x y=true\/blt y x=true)(h:Sam lo a a'):a'.toList.Pairwise fun x y=>blt x y=true\/blt y x=true :=
 (h.pm.pairwise_iff (fun {x y} q=>q.symm)).mpr d
theorem zk5{a:Array Keyed}(d:a.toList.Pairwise fun x y=>blt x y=true\/blt y x=true):Dis blt a:=by
 have e:∀{i} (h:i<a.toList.length),a.toList[i]=ix a i:=fun {i} h=>by rw[Array.length_toList]at h;unfold ix;rw[z56 h];simp
 intro i j hij hi hj hf;rw[z6t]at d;rcases z68 i j with q | q
 · have:=d i j (by rw[Array.length_toList];exact hi) (by rw[Array.length_toList];exact hj) q;rw[e,e]at this;rcases this with z | z
   · rw[z]at hf;cases hf
   · exact z
 · have:=d j i (by rw[Array.length_toList];exact hj) (by rw[Array.length_toList];exact hi) (by omega);rw[e,e]at this;rcases this with z | z
   · exact z
   · rw[z]at hf;cases hf
theorem zmx(C:Cmp prog w A E s kd U blt)(hk:kindOf st=kd)(ua:∀x∈(arrOf st).toList,U x)(hd:Dis blt (arrOf st)){lo n0 nrem:Nat}(hs:lo+nrem=(arrOf st).size)(n1:1<=n0)(n2:n0<=nrem)(h0:Asc blt (arrOf st) lo (lo+n0)){Q:Option (Option Nat)×Nat->SortSt->Prop}
   (h:∀n,n0<=n->n<=nrem->Asc blt (arrOf st) lo (lo+n)->(n=nrem\/blt (ix (arrOf st) (lo+n)) (ix (arrOf st) (lo+n-1))=true)->Q (none,n) st) :
   wpS (model prog w) A E s (forIn [n0:nrem] ((none,n0):Option (Option Nat)×Nat) fun _ __s=>do
     let __x <-ltAt' (lo+__s.snd) (lo+__s.snd-1)
     match __x with
     |some smaller=>if smaller=true then pure (ForInStep.done (none,__s.snd))else pure (ForInStep.yield (none,__s.snd+1))
     |_=>pure (ForInStep.done (some none,__s.snd))) Q st:=by
 refine z6v (I:=fun x c st'=>st'=st/\c=(none,x)/\Asc blt (arrOf st) lo (lo+x)) ?_ ?_ ⟨rfl,rfl,h0⟩
 · rintro x c st' hx1 hx ⟨rfl,rfl,ac⟩;dsimp only;refine z5a (zas C hk ua (by omega) (by omega) ?_);dsimp only;cases q:blt (ix (arrOf st') (lo+x)) (ix (arrOf st') (lo+x-1))
   · simp only[z5e,z6i];exact z5k ⟨rfl,rfl,ac.snoc C (by omega) (hd _ _ (by omega) (by omega) (by omega) q)⟩
   · simp only[z61];exact z5k (h x hx1 (by omega) ac (.inr q))
 · rintro c st' ⟨rfl,rfl,ac⟩;rw[z9t n2]at ac ⊢;exact h nrem n2 (z44 _) ac (.inl rfl)
theorem zfs(C:Cmp prog w A E s kd U blt)(hk:kindOf st=kd)(ua:∀x∈(arrOf st).toList,U x)(hd:(arrOf st).toList.Pairwise fun x y=>blt x y=true\/blt y x=true){lo nrem:Nat}(hs:lo+nrem=(arrOf st).size)(n0:1<=nrem){Q:Option Nat->SortSt->Prop}
   (h:∀n a',1<=n->n<=nrem->Sam lo (arrOf st) a'->Asc blt a' lo (lo+n)->Q (some n) (setArr st a')):wpS (model prog w) A E s (countRun' lo nrem) Q st:=by
 have es:st=setArr st (arrOf st):=rfl;rw[countRun'_eq];refine z5a (z65 (zmx (n0:=1) C hk ua (zk5 hd) hs (z44 _) n0 (fun i j a b c=>by omega) (Q:=fun c st'=>st'=st/\∃n,c=(none,n)/\1<=n/\n<=nrem/\Asc blt (arrOf st) lo (lo+n)/\(n=nrem\/blt (ix (arrOf st) (lo+n)) (ix (arrOf st) (lo+n-1))=true)) fun n a1 a2 a3 a4=>⟨rfl,n,rfl,a1,a2,a3,a4⟩) ?_);rintro c st' ⟨rfl,n,rfl,a1,a2,a3,a4⟩;dsimp only;by_cases e1:n=nrem
 · rw[z5s (by simpa using e1)];have:=h n (arrOf st') a1 a2 (Sam.refl _ _) a3;rw[<-es]at this;exact z5k this
 · rw[z5y (by simpa using e1)];have a4:=a4.resolve_left e1;by_cases e2:n>1
   · rw[z5s e2];refine z5a (zas C hk ua (by omega) (by omega) ?_);dsimp only;rw[a3 lo (lo+n-1) (z44 _) (by omega) (by omega)];simp only[z61];have:=h n (arrOf st') a1 a2 (Sam.refl _ _) a3;rw[<-es]at this;exact z5k this
   · rw[z5y e2];have:n=1:=by omega
     subst this;refine z5a (zbb ?_);refine z5a (z65 (z6v (I:=fun x c st2=>st2=st'/\c=(none,x,0)/\Des blt (arrOf st') lo (lo+x)) (Q:=fun c st2=>st2=st'/\∃n,c=(none,n,0)/\2<=n/\n<=nrem/\Des blt (arrOf st') lo (lo+n)) ?_ ?_ ⟨rfl,rfl,fun i j p1 p2 p3=>?_⟩) ?_)
     · rintro x c st2 hx1 hx ⟨rfl,rfl,de⟩;dsimp only;refine z5a (zas C hk ua (by omega) (by omega) ?_);dsimp only;cases q:blt (ix (arrOf st2) (lo+x)) (ix (arrOf st2) (lo+x-1))
       · simp only[z5e,z6i];refine z5a (zas C hk ua (by omega) (by omega) ?_);dsimp only;rw[zk5 hd _ _ (by omega) (by omega) (by omega) q];simp only[z61];exact z5k ⟨rfl,x,rfl,by omega,by omega,de⟩
       · simp only[z61];rw[z5y (by decide)];exact z5k ⟨rfl,rfl,de.snoc C (by omega) q⟩
     · rintro c st2 ⟨rfl,rfl,de⟩;have e:1+1<=nrem:=by omega
       rw[z9t e]at de ⊢;exact⟨rfl,nrem,rfl,e,z44 _,de⟩
     · have:i=lo:=by omega
       subst this;have:j=i+1:=by omega
       subst this;simpa using a4
     · rintro c st2 ⟨rfl,n,rfl,n2,n3,de⟩;dsimp only;rw[z5y (by decide)];rw[reverseSlice'_eq];refine z5a (z8j ?_);have sm:=zlm (lo:=lo) (a:=arrOf st2) (j:=lo+n) (by omega);have am:=Asc.mir de (by omega);generalize hm:mirror (arrOf st2) lo (lo+n) ((lo+n-lo)/2)=a2 at sm am;have z2:=sm.size;refine z5a (z65 (zmx (st:=setArr st2 a2) (n0:=n) C hk (fun x hx=>ua x (sm.pm.mem_iff.mp hx)) (zk5 (Dis.of hd sm)) (by show lo+nrem=a2.size;omega) (by omega) n3 am (Q:=fun c st'=>st'=setArr st2 a2/\∃m,c=(none,m)/\n<=m/\m<=nrem/\Asc blt a2 lo (lo+m)) fun m b1 b2 b3 b4=>⟨rfl,m,rfl,b1,b2,b3⟩) ?_);rintro c st3 ⟨rfl,m,rfl,b1,b2,b3⟩;exact z5k (h m a2 (by omega) b2 sm b3)
theorem zdk(C:Cmp prog w A E s kd U blt)(hk:kindOf st=kd)(ua:∀x∈(arrOf st).toList,U x)(hd:(arrOf st).toList.Pairwise fun x y=>blt x y=true\/blt y x=true){lo n ok:Nat}(hs:lo+n<=(arrOf st).size)(o1:1<=ok)(o2:ok<=n)(h0:Asc blt (arrOf st) lo (lo+ok)){Q:Bool->SortSt->Prop}
   (h:∀a',Sam lo (arrOf st) a'->Asc blt a' lo (lo+n)->Q true (setArr st a')):wpS (model prog w) A E s (binarySort' lo n ok) Q st:=by
 rw[binarySort'_eq];rw[Nat.max_eq_left o1];refine z5a (z65 (z6v (I:=fun x c st2=>c.1=none/\∃a',st2=setArr st a'/\Sam lo (arrOf st) a'/\Asc blt a' lo (lo+x)) (Q:=fun c st2=>c.1=none/\∃a',st2=setArr st a'/\Sam lo (arrOf st) a'/\Asc blt a' lo (lo+n)) ?_ ?_ ⟨rfl,arrOf st,rfl,Sam.refl _ _,h0⟩) ?_)
 · rintro x c st2 hx1 hx ⟨hc,a',rfl,sm,ac⟩;have za:=sm.size;have ua':∀y∈(arrOf (setArr st a')).toList,U y:=fun y hy=>ua y (sm.pm.mem_iff.mp hy);have di:Dis blt a':=zk5 (Dis.of hd sm);dsimp only;refine z5a (z65 (z6v (I:=fun y c st3=>st3=setArr st a'/\∃l r,c=(none,l,r)/\l<=r/\r<=x/\(∀i,i<l->blt (ix a' (lo+i)) (ix a' (lo+x))=true)/\(∀i,r<=i->i<x->blt (ix a' (lo+x)) (ix a' (lo+i))=true)/\r+y<=x+l)
     (Q:=fun c st3=>st3=setArr st a'/\∃l,c=(none,l,l)/\l<=x/\(∀i,i<l->blt (ix a' (lo+i)) (ix a' (lo+x))=true)/\(∀i,l<=i->i<x->blt (ix a' (lo+x)) (ix a' (lo+i))=true)) ?_ ?_ ⟨rfl,0,x,rfl,z54 _,z44 _,fun i hi=>absurd hi (z8c _),fun i h1 h2=>absurd h2 (z8i.mpr h1),z44 _⟩) ?_)
   · rintro y c st3 _ hy ⟨rfl,l,r,rfl,g1,g2,g3,g4,g5⟩;dsimp only;by_cases e:l ≥ r
     · rw[z5s e];cases z8b g1 e;exact z5k ⟨rfl,l,rfl,g2,g3,g4⟩
     · rw[z5y e];have m1:l<=(l+r)/2:=by omega
       have m2:(l+r)/2<r:=by omega
       clear e g1 hy hx1 h0 o1 o2;generalize (l+r)/2=m at m1 m2 ⊢;have mx:=z45 m2 g2;have xz:lo+x<a'.size:=by omega
       have mz:lo+m<a'.size:=by omega
       clear hs hx za;refine z5a (zas (st:=setArr st a') C hk ua' xz mz ?_);dsimp only;show wpS _ _ _ _ (if blt (ix a' (lo+x)) (ix a' (lo+m))=true then _ else _) _ _;cases q:blt (ix a' (lo+x)) (ix a' (lo+m))
       · simp only[z5e,z6i];have q':=di _ _ (by omega) xz mz q;clear xz mz;refine z5k ⟨rfl,m+1,r,rfl,m2,g2,fun i hi=>?_,g4,by omega⟩;rcases z68 i m with z | z
         · exact C.ltr (ac (lo+i) (lo+m) (z5h ..) (z7x z _) (z7x mx _)) q'
         · rw[z8b (z9m hi) z];exact q'
       · simp only[z61];clear xz mz;refine z5k ⟨rfl,l,m,rfl,m1,z6y mx,g3,fun i h1 h2=>?_,by omega⟩;rcases z68 m i with z | z
         · exact C.ltr q (ac (lo+m) (lo+i) (z5h ..) (z7x z _) (z7x h2 _))
         · rw[z8b z h1];exact q
   · rintro c st3 ⟨rfl,l,r,rfl,g1,g2,g3,g4,g5⟩;have:l=r:=by omega
     subst this;exact⟨rfl,l,rfl,g2,g3,g4⟩
   · rintro c st3 ⟨rfl,l,rfl,g2,g3,g4⟩;dsimp only;rw[moveDown'_eq];refine z5a (z8j ?_);have hb1:lo+x<a'.size:=by omega
     have hb2:lo+x-(lo+x-(lo+l))=lo+l:=Nat.sub_sub_self (z92 g2 _);refine z5k ⟨rfl,bubble a' (lo+x) (lo+x-(lo+l)),rfl,sm.trans (zln hb1 (qaw ..) (by rw[hb2];exact z5h ..)),fun i j hi hij hj=>?_⟩;rw[zd2 hb1 (qaw ..),zd2 hb1 (qaw ..),hb2];clear hb1 hb2 hs hx hx1 o1 o2 za h0;by_cases i1:i=lo+l
     · rw[z5s i1,z5y (by omega),z5s (by omega)];subst i1;obtain⟨c,rfl⟩:=Nat.exists_eq_add_of_lt hij;have:=g4 (l+c) (z5h ..) (by omega);rw[<-z74]at this;exact this
     · rw[z5y i1];by_cases j1:j=lo+l
       · rw[z5s j1,z5y (by omega)];obtain⟨c,rfl⟩:=Nat.exists_eq_add_of_le hi;exact g3 c (by omega)
       · rw[z5y j1];by_cases i2:lo+l<i/\i<=lo+x
         · rw[z5s i2,z5s (by omega)];exact ac _ _ (by omega) (by omega) (by omega)
         · rw[z5y i2];by_cases j2:lo+l<j/\j<=lo+x
           · rw[z5s j2];exact ac _ _ (by omega) (by omega) (by omega)
           · rw[z5y j2];exact ac _ _ (by omega) (by omega) (by omega)
 · rintro c st2 ⟨hc,a',rfl,sm,ac⟩;rw[z9t o2]at ac;exact⟨hc,a',rfl,sm,ac⟩
 · rintro c st2 ⟨hc,a',rfl,sm,ac⟩;dsimp only;rw[hc];exact z5k (h a' sm ac)
end
def Pm:List (Nat×Nat×Nat)->List (List Keyed)->Nat->Prop
 | [],[],_=>True
 | (s,n,_)::p,r::rs,f=>s=f/\n=r.length/\Pm p rs (f+r.length)
 |_,_,_=>False
theorem Pm.len:∀{p:List (Nat×Nat×Nat)}{rs:List (List Keyed)}{f:Nat},Pm p rs f->p.length=rs.length
 | [],[],_,_=>rfl
 | (s,n,q)::p,r::rs,f,h=>by rw[List.length_cons,List.length_cons,Pm.len h.2.2]
 | [],_::_,_,h=>h.elim
 |_::_,[],_,h=>h.elim
theorem Pm.app:∀{p p':List (Nat×Nat×Nat)}{rs rs':List (List Keyed)}{f:Nat},Pm p rs f->Pm p' rs' (f+rs.flatten.length)->Pm (p++p') (rs++rs') f
 | [],p',[],rs',f,_,h=>by simpa using h
 | (s,n,q)::p,p',r::rs,rs',f,h,h'=>⟨h.1,h.2.1,Pm.app h.2.2 (by rw[List.flatten_cons,z42]at h';rw[z74];exact h')⟩
 | [],_,_::_,_,_,h,_=>h.elim
 |_::_,_,[],_,_,h,_=>h.elim
theorem Pm.split:∀{p:List (Nat×Nat×Nat)}{rs:List (List Keyed)}{f i:Nat},Pm p rs f->i+1<p.length->∃Q1 Q2 R1 R2 X Y p1 p2,p=Q1++(f+R1.flatten.length,X.length,p1)::(f+R1.flatten.length+X.length,Y.length,p2)::Q2/\rs=R1++X::Y::R2/\Q1.length=i/\Pm Q1 R1 f/\Pm Q2 R2 (f+R1.flatten.length+X.length+Y.length)
 | (s,n,q)::(s',n',q')::p,r::r'::rs,f,0,h,_=>by obtain⟨rfl,rfl,rfl,rfl,h3⟩:=h;exact⟨[],p,[],rs,r,r',q,q',by simp,rfl,rfl,trivial,by simpa using h3⟩
 | (s,n,q)::p,r::rs,f,i+1,h,hl=>by
   obtain⟨rfl,rfl,h3⟩:=h;obtain⟨Q1,Q2,R1,R2,X,Y,p1,p2,e1,e2,e3,e4,e5⟩:=Pm.split (i:=i) h3 (by simpa using hl);refine⟨(s,r.length,q)::Q1,Q2,r::R1,R2,X,Y,p1,p2,?_,by rw[e2];rfl,by simp[e3],⟨rfl,rfl,e4⟩,?_⟩
   · rw[e1,List.flatten_cons,z42,<-z74];rfl
   · rw[List.flatten_cons,z42,<-z74];exact e5
 | [],_,_,_,_,hl=>by simp at hl
 | [_],_,_,0,_,hl=>by simp at hl
 |_::_::_,[_],_,0,h,_=>by obtain⟨_,_,h⟩:=h;exact h.elim
 |_::_::_,[],_,0,h,_=>h.elim
 |_::_,[],_,_+1,h,_=>h.elim
theorem Pm.pow(pw:Nat):∀{p:List (Nat×Nat×Nat)}{rs:List (List Keyed)}{f k:Nat},Pm p rs f->Pm (p.modify k fun x=>(x.1,x.2.1,pw)) rs f
 | [],[],_,_,_=>by simp[Pm]
 | (s,n,q)::p,r::rs,f,0,h=>h
 | (s,n,q)::p,r::rs,f,k+1,h=>⟨h.1,h.2.1,Pm.pow pw h.2.2⟩
 | [],_::_,_,_,h=>h.elim
 |_::_,[],_,_,h=>h.elim
section
variable {prog:Program}{w:World}{A:Around}{E:zVP}{s:Shared}{blt:Keyed->Keyed->Bool}{U:Keyed->Prop}{kd:SortKind}{st:SortSt}{T:List Keyed}
structure RI (blt:Keyed->Keyed->Bool) (kd:SortKind) (T:List Keyed) (st:SortSt) (lo:Nat) (rest:List Keyed):Prop where
 k:kindOf st=kd
 f:failedOf st=none
 pm:(arrOf st).toList.Perm T
 ex:∃rs:List (List Keyed),(arrOf st).toList=rs.flatten++rest/\Pm (pendingOf st).toList rs 0/\lo=rs.flatten.length/\∀r∈rs,r.Pairwise (le blt)/\0<r.length
theorem zce(C:Cmp prog w A E s kd U blt)(uT:∀x∈T,U x){lo i:Nat}{rest:List Keyed}(R:RI blt kd T st lo rest)(hi:i+1<(pendingOf st).size):wpS (model prog w) A E s (mergeAt' i) (fun b st'=>b=true/\RI blt kd T st' lo rest/\(pendingOf st').size+1=(pendingOf st).size) st:=by
 obtain⟨rs,ea,ep,el,er⟩:=R.ex;obtain⟨Q1,Q2,R1,R2,X,Y,p1,p2,e1,e2,e3,e4,e5⟩:=ep.split (i:=i) (by rw[Array.length_toList];exact hi);rw[z9q]at e1 e5;have gX:=er X (by rw[e2];simp);have gY:=er Y (by rw[e2];simp);have a1:(pendingOf st)[i]? = some (R1.flatten.length,X.length,p1):=by rw[<-z6e,e1,<-e3,z5t (z44 _),z88];rfl
 have a2:(pendingOf st)[i+1]? = some (R1.flatten.length+X.length,Y.length,p2):=by rw[<-z6e,e1,<-e3,z5t (by omega),z7t];rfl
 refine zid (pre:=R1.flatten) (X:=X) (Y:=Y) (post:=R2.flatten++rest) C R.k R.f rfl a1 a2 (by rw[ea,e2];simp[z5i]) (fun x hx=>uT x (R.pm.mem_iff.mp hx)) gX.1 gY.1 gX.2 gY.2 fun Z a' g ez pz mz=>?_;have pl:(((pendingOf st).setIfInBounds i (R1.flatten.length,X.length+Y.length,p1)).eraseIdxIfInBounds (i+1)).toList=Q1++(R1.flatten.length,X.length+Y.length,p1)::Q2:=by
   have l1:i+1<((pendingOf st).setIfInBounds i (R1.flatten.length,X.length+Y.length,p1)).size:=by rw[qaj];exact hi
   rw[Array.eraseIdxIfInBounds,dif_pos l1,Array.toList_eraseIdx,z95,e1,<-e3];rw[List.set_append_right _ _ (z44 _),z88,List.set_cons_zero,z75 (by omega),z7t];rfl
 have zl:Z.length=X.length+Y.length:=by rw[mz.length_eq,z42]
 refine⟨rfl,⟨rfl,rfl,?_,R1++Z::R2,?_,?_,?_,fun r hr=>?_⟩,?_⟩
 · refine List.Perm.trans ?_ R.pm;show a'.toList.Perm _;rw[ez,ea,e2];simp only[z84,List.flatten_cons,z5i];refine z73 _ ?_;rw[<-z5i X];exact z70 _ mz
 · show a'.toList=_;rw[ez];simp[z5i]
 · show Pm (((pendingOf st).setIfInBounds i (R1.flatten.length,X.length+Y.length,p1)).eraseIdxIfInBounds (i+1)).toList _ 0;rw[pl];exact Pm.app e4 ⟨by rw[z9q],zl.symm,by rw[z9q,zl,<-z74];exact e5⟩
 · rw[el,e2];simp only[z84,List.flatten_cons,z42,zl];omega
 · rcases z5x.mp hr with q | q
   · exact er r (by rw[e2];exact z6k _ q)
   · rcases z5p.mp q with rfl | q
     · exact⟨pz,by omega⟩
     · exact er r (by rw[e2];simp[q])
 · show(((pendingOf st).setIfInBounds i (R1.flatten.length,X.length+Y.length,p1)).eraseIdxIfInBounds (i+1)).size+1=_;rw[<-Array.length_toList,pl,<-Array.length_toList,e1];simp only[z42,List.length_cons];omega
end
section
variable {prog:Program}{w:World}{A:Around}{E:zVP}{s:Shared}{blt:Keyed->Keyed->Bool}{U:Keyed->Prop}{kd:SortKind}{st:SortSt}{T:List Keyed}
theorem zt4(C:Cmp prog w A E s kd U blt){a:Array Keyed}{lo n:Nat}(h:Asc blt a lo (lo+n))(hn:lo+n<=a.size):((a.toList.drop lo).take n).Pairwise (le blt):=by
 have e:∀{i} (h:i<a.toList.length),a.toList[i]=ix a i:=fun {i} h=>by rw[Array.length_toList]at h;unfold ix;rw[z56 h];simp
 rw[z6t];intro i j hi hj hij;rw[z5m,z5w,Array.length_toList]at hi hj;rw[z7f,z7f,z7g,z7g,e,e];exact C.asy _ _ (h _ _ (by omega) (by omega) (by omega))
theorem zlj{a a':Array Keyed}{lo:Nat}(h:Sam lo a a')(hl:lo<=a.size):a'.toList.take lo=a.toList.take lo:=by
 have hs:=h.size;apply List.ext_getElem?;intro i;rw[z99,z99];split
 · rename_i hi;rw[z6e,z6e,zko (by omega),zko (by omega),h.ne i hi]
 · rfl
theorem RI.sam{lo:Nat}{rest:List Keyed}{a':Array Keyed}(R:RI blt kd T st lo rest)(h:Sam lo (arrOf st) a'):RI blt kd T (setArr st a') lo (a'.toList.drop lo):=by
 obtain⟨rs,ea,ep,el,er⟩:=R.ex;have hl:lo<=(arrOf st).size:=by rw[<-Array.length_toList,ea,z42,el];omega
 refine⟨R.k,R.f,h.pm.trans R.pm,rs,?_,ep,el,er⟩;have e1:a'.toList.take lo=rs.flatten:=by rw[zlj h hl,ea,el,qau]
 show a'.toList=_;rw[<-e1,z6a]
theorem RI.push{lo n:Nat}{a':Array Keyed}(R:RI blt kd T st lo ((arrOf st).toList.drop lo))(hs:lo+n<=(arrOf st).size)(n0:0<n)(hp:(((arrOf st).toList.drop lo).take n).Pairwise (le blt)):RI blt kd T (setPending st ((pendingOf st).push (lo,n,0))) (lo+n) ((arrOf st).toList.drop (lo+n)):=by
 obtain⟨rs,ea,ep,el,er⟩:=R.ex;have ln:(((arrOf st).toList.drop lo).take n).length=n:=by rw[z5m,z5w,Array.length_toList];omega
 refine⟨R.k,R.f,R.pm,rs++[((arrOf st).toList.drop lo).take n],?_,?_,?_,fun r hr=>?_⟩
 · show(arrOf st).toList=_;rw[z84,z9h,z5i,<-z9o,z6a];exact ea
 · show Pm ((pendingOf st).push (lo,n,0)).toList _ 0;rw[z8x];exact Pm.app ep ⟨by rw[z9q];exact el,ln.symm,trivial⟩
 · rw[z84,z9h,z42,ln,<-el]
 · rcases z5x.mp hr with q | q
   · exact er r q
   · rw[z5g.mp q];exact⟨hp,by omega⟩
theorem RI.pow{lo k pw:Nat}{rest:List Keyed}(R:RI blt kd T st lo rest):RI blt kd T (setPending st ((pendingOf st).modify k fun(x:Nat×Nat×Nat)=>(x.1,x.2.1,pw))) lo rest:=by obtain⟨rs,ea,ep,el,er⟩:=R.ex;refine⟨R.k,R.f,R.pm,rs,ea,?_,el,er⟩;show Pm ((pendingOf st).modify k _).toList rs 0;rw[Array.toList_modify];exact Pm.pow pw ep
theorem RI.small{lo:Nat}{rest:List Keyed}(R:RI blt kd T st lo rest):(pendingOf st).size<=lo:=by
 obtain⟨rs,ea,ep,el,er⟩:=R.ex;rw[<-Array.length_toList,ep.len,el];clear ea ep el
 induction rs with
 |nil=>simp
 | cons r rs ih=>
   have:=ih fun x hx=>er x (z46 _ hx);have:=(er r (z5d ..)).2;rw[List.length_cons,List.flatten_cons,z42];omega
theorem RI.fin(R:RI blt kd T st T.length [])(hp:(pendingOf st).size<=1):(arrOf st).toList.Pairwise (le blt):=by
 obtain⟨rs,ea,ep,el,er⟩:=R.ex;rw[<-Array.length_toList,ep.len]at hp;rw[ea,z50]
 match rs,hp,er with
 | [],_,_=>exact List.Pairwise.nil
 | [r],_,er=>rw[z9h];exact(er r (z5d ..)).1
theorem RI.rest{lo:Nat}{rest:List Keyed}(R:RI blt kd T st lo rest):(arrOf st).toList.drop lo=rest:=by obtain⟨rs,ea,ep,el,er⟩:=R.ex;rw[ea,el,qag]
theorem zju{n:Nat}(h:1<n):n-2+1<n:=by omega
theorem zfq(C:Cmp prog w A E s kd U blt)(hk:kindOf st=kd)(hf:failedOf st=none)(hp:pendingOf st=#[])(uT:∀x∈(arrOf st).toList,U x)(hd:(arrOf st).toList.Pairwise fun x y=>blt x y=true\/blt y x=true){Q:Unit->SortSt->Prop}
   (h:∀st',(arrOf st').toList.Perm (arrOf st).toList->failedOf st'=none->(arrOf st').toList.Pairwise (le blt)->Q () st'):wpS (model prog w) A E s sortRuns' Q st:=by
 have tl:(arrOf st).toList.length=(arrOf st).size:=Array.length_toList;rw[sortRuns'_eq];refine z5a (z91 ?_);dsimp only;generalize hT:(arrOf st).toList=T at *;generalize hz:(arrOf st).size=sz at *;generalize minRun' sz sz 0=mr;have R0:RI blt kd T st 0 ((arrOf st).toList.drop 0):=⟨hk,hf,by rw[hT],[],by rw[z8z];rfl,by rw[hp];trivial,rfl,fun r hr=>by cases hr⟩
 refine z5a (z65 (z6v
   (I:=fun x c st'=>∃lo,c=(none,lo)/\lo<=sz/\(x<=lo\/lo=sz)/\RI blt kd T st' lo ((arrOf st').toList.drop lo))
   (Q:=fun c st'=>c=(none,sz)/\RI blt kd T st' sz ((arrOf st').toList.drop sz)) ?step ?fin ⟨0,rfl,z54 _,.inl (z44 _),R0⟩) ?post)
 case fin=>
   rintro c st' ⟨lo,rfl,l1,l2,R⟩;have:lo=sz:=by omega
   subst this;exact⟨rfl,R⟩
 case step=>
   rintro x c st' _ hx ⟨lo,rfl,l1,l2,R⟩;dsimp only;by_cases e0:lo ≥ sz
   · rw[z5s e0];cases z8b l1 e0;exact z5k ⟨rfl,R⟩
   · rw[z5y e0];have xl:x<=lo:=l2.resolve_right fun q=>e0 (q▸z44 _);clear hx l2;have zs:(arrOf st').size=sz:=by rw[<-tl,<-Array.length_toList];exact R.pm.length_eq
     have u':∀x∈(arrOf st').toList,U x:=fun x hx=>uT x (R.pm.mem_iff.mp hx);have d':(arrOf st').toList.Pairwise fun x y=>blt x y=true\/blt y x=true:=(R.pm.pairwise_iff (fun {x y} q=>q.symm)).mpr hd;refine z5a (zfs C R.k u' d' (nrem:=sz-lo) (by rw[zs];exact z83 l1) (qak (Nat.lt_of_not_le e0)) fun n a1 n1 n2 sm ac=>?_);dsimp only;have za:=sm.size;have R1:=R.sam sm;by_cases e1:n<mr
     · rw[z5s e1];refine z5a (zbb ?_);have m0:0<min (sz-lo) mr:=Nat.le_min.mpr ⟨z5u n1 n2,z5u n1 (z6y e1)⟩;have m1:lo+min (sz-lo) mr<=sz:=Nat.add_le_of_le_sub' l1 (qaq ..);refine z5a (zdk (st:=setArr st' a1) (n:=min (sz-lo) mr) (ok:=n) C R.k (fun x hx=>u' x (sm.pm.mem_iff.mp hx)) (Dis.of d' sm) (by show lo+min (sz-lo) mr<=a1.size;rw[za,zs];exact m1) n1 (Nat.le_min.mpr ⟨n2,z6y e1⟩) ac fun a2 s2 c2=>?_);simp only[z7r,z5e,z6i];have RR:=R.sam (sm.trans s2);have hp:=zt4 C c2 (show lo+min (sz-lo) mr<=a2.size from by rw[(sm.trans s2).size,zs];exact m1);have last:∀{st2:SortSt},RI blt kd T st2 lo (a2.toList.drop lo)->RI blt kd T (setPending st2 ((pendingOf st2).push (lo,min (sz-lo) mr,0))) (lo+min (sz-lo) mr) ((arrOf (setPending st2 ((pendingOf st2).push (lo,min (sz-lo) mr,0)))).toList.drop (lo+min (sz-lo) mr)):=fun {st2} R2=>by
         have e:=R2.rest;have z2:(arrOf st2).size=sz:=by rw[<-tl,<-Array.length_toList];exact R2.pm.length_eq
         have R3:RI blt kd T st2 lo ((arrOf st2).toList.drop lo):=by rw[e];exact R2
         exact R3.push (a':=#[]) (by rw[z2];exact m1) m0 (by rw[e];exact hp)
       refine z5a (z91 ?_);split
       · rename_i s1 n1 q heq;refine z5a (z65 (z6v (I:=fun x c st2=>c.1=none/\RI blt kd T st2 lo (a2.toList.drop lo)) (Q:=fun c st2=>c.1=none/\RI blt kd T st2 lo (a2.toList.drop lo)) ?_ (fun c st2 hh=>hh) ⟨rfl,RR⟩) ?_)
         · rintro x c st2 _ _ ⟨_,R2⟩;refine z5a (z91 ?_);by_cases g:(pendingOf st2).size>1
           · rw[z5s g];have gi:(pendingOf st2).size-2<(pendingOf st2).size:=Nat.lt_of_succ_lt (zju g);rw[z56 gi];dsimp only;split
             · exact z5k ⟨rfl,R2⟩
             · refine z5a (z65 (zce C uT R2 (zju g)) fun b st3 hb=>?_);obtain⟨rfl,R3,_⟩:=hb;simp only[z7r,z5e,z6i];exact z5k ⟨rfl,R3⟩
           · rw[z5y g];exact z5k ⟨rfl,R2⟩
         · rintro c st2 ⟨hc,R2⟩;rw[hc];dsimp only;refine z5a (z8j ?_);refine z5a (z8j ?_);exact z5k ⟨_,rfl,m1,.inl (qah xl m0),last (st2:=setPending st2 ((pendingOf st2).modify ((pendingOf st2).size-1) fun x=>(x.fst,x.2.fst,power' sz (2*s1+n1) (2*s1+n1+n1+min (sz-lo) mr) sz))) R2.pow⟩
       · refine z5a (z8j ?_);exact z5k ⟨_,rfl,m1,.inl (qah xl m0),last RR⟩
     · rw[z5y e1];have m0:0<n:=n1;have m1:lo+n<=sz:=Nat.add_le_of_le_sub' l1 n2;have RR:=R.sam sm;have hp:=zt4 C ac (show lo+n<=a1.size from by rw[za,zs];exact m1);have last:∀{st2:SortSt},RI blt kd T st2 lo (a1.toList.drop lo)->RI blt kd T (setPending st2 ((pendingOf st2).push (lo,n,0))) (lo+n) ((arrOf (setPending st2 ((pendingOf st2).push (lo,n,0)))).toList.drop (lo+n)):=fun {st2} R2=>by
         have e:=R2.rest;have z2:(arrOf st2).size=sz:=by rw[<-tl,<-Array.length_toList];exact R2.pm.length_eq
         have R3:RI blt kd T st2 lo ((arrOf st2).toList.drop lo):=by rw[e];exact R2
         exact R3.push (a':=#[]) (by rw[z2];exact m1) m0 (by rw[e];exact hp)
       refine z5a (z91 ?_);split
       · rename_i s1 n1 q heq;refine z5a (z65 (z6v (I:=fun x c st2=>c.1=none/\RI blt kd T st2 lo (a1.toList.drop lo)) (Q:=fun c st2=>c.1=none/\RI blt kd T st2 lo (a1.toList.drop lo)) ?_ (fun c st2 hh=>hh) ⟨rfl,RR⟩) ?_)
         · rintro x c st2 _ _ ⟨_,R2⟩;refine z5a (z91 ?_);by_cases g:(pendingOf st2).size>1
           · rw[z5s g];have gi:(pendingOf st2).size-2<(pendingOf st2).size:=Nat.lt_of_succ_lt (zju g);rw[z56 gi];dsimp only;split
             · exact z5k ⟨rfl,R2⟩
             · refine z5a (z65 (zce C uT R2 (zju g)) fun b st3 hb=>?_);obtain⟨rfl,R3,_⟩:=hb;simp only[z7r,z5e,z6i];exact z5k ⟨rfl,R3⟩
           · rw[z5y g];exact z5k ⟨rfl,R2⟩
         · rintro c st2 ⟨hc,R2⟩;rw[hc];dsimp only;refine z5a (z8j ?_);refine z5a (z8j ?_);exact z5k ⟨_,rfl,m1,.inl (qah xl m0),last (st2:=setPending st2 ((pendingOf st2).modify ((pendingOf st2).size-1) fun x=>(x.fst,x.2.fst,power' sz (2*s1+n1) (2*s1+n1+n1+n) sz))) R2.pow⟩
       · refine z5a (z8j ?_);exact z5k ⟨_,rfl,m1,.inl (qah xl m0),last RR⟩
 case post=>
   rintro c st' ⟨rfl,R⟩;dsimp only;have e:(arrOf st').toList.drop sz=[]:=z64 (by rw[R.pm.length_eq,tl];exact z44 _);rw[e]at R;have sm:=R.small;refine z5a (z65 (z6v (I:=fun x c st2=>c.1=none/\RI blt kd T st2 sz []/\((pendingOf st2).size+x<=sz+1\/(pendingOf st2).size<=1)) (Q:=fun c st2=>c.1=none/\RI blt kd T st2 sz []/\(pendingOf st2).size<=1) ?_ ?_ ⟨rfl,R,.inl (by omega)⟩) ?_)
   · rintro x c st2 _ hx ⟨_,R2,p2⟩;refine z5a (z91 ?_);by_cases g:(pendingOf st2).size<=1
     · rw[z5s g];exact z5k ⟨rfl,R2,g⟩
     · rw[z5y g];refine z5a (z65 (zce C uT R2 ?_) fun b st3 hb=>?_)
       · have any:∀(q:Bool),(if q=true then (pendingOf st2).size-2-1 else (pendingOf st2).size-2)+1<(pendingOf st2).size:=fun q=>by cases q<;>simp<;>omega
         exact any _
       · obtain⟨rfl,R3,z3⟩:=hb;simp only[z7r,z5e,z6i];exact z5k ⟨rfl,R3,by omega⟩
   · rintro c st2 ⟨hc,R2,p2⟩;refine⟨hc,R2,?_⟩;rcases p2 with p2 | p2
     · have:max 0 sz=sz:=by omega
       omega
     · exact p2
   · rintro c st2 ⟨hc,R2,p2⟩;have R3:RI blt kd T st2 T.length []:=by rw[tl];exact R2
     have:=h st2 R2.pm R2.f (R3.fin p2);rw[hc];exact z5k this
end
def nums(z:Str):List Int:=z.cps.toList.map Int.ofNat
theorem map_lt:∀(x y:List Nat),(x.map Int.ofNat<y.map Int.ofNat)↔x<y
 | [],[]=>by simp
 | [],_::_=>by simp
 |_::_,[]=>by simp
 | a::x,b::y=>by
   rw[z5j,z5j,z6n,z6n,map_lt x y];constructor
   · rintro(h | ⟨h,h'⟩)
     · exact .inl (qar.mp h)
     · exact .inr ⟨Int.ofNat.inj h,h'⟩
   · rintro(h | ⟨h,h'⟩)
     · exact .inl (qar.mpr h)
     · exact .inr ⟨z7a Int.ofNat h,h'⟩
def bk(kc:Keyed->List Int)(x y:Keyed):Bool:=decide (kc x<kc y)
section
variable {prog:Program}{w:World}{A:Around}{E:zVP}{s:Shared}{kd:SortKind}{U:Keyed->Prop}{kc:Keyed->List Int}
theorem zk8(h:∀x y,U x->U y->∀(E':zVP) (Q:Bool->Shared->Prop),Q (bk kc x y) s->wpAny (model prog w) A (keyLt' kd x.1 y.1) Q E' s):Cmp prog w A E s kd U (bk kc) where
 lt:=fun x y hx hy st Q hk hq=>by rw[lt'_eq];refine z5a (z91 ?_);rw[hk];refine z5a (wpS_lift (z9v ?_));refine h x y hx hy _ _ ?_;exact⟨rfl,z5k hq⟩
 asy:=fun x y hx=>by simp only[bk,decide_eq_true_eq,z8e]at *;exact List.lt_asymm hx
 tr:=fun x y z h1 h2=>by simp only[bk,z8e]at *;exact z62.mpr (List.le_trans (z62.mp h1) (z62.mp h2))
theorem zlz{a b:Int}{t u:Tok}{Q:Bool->Shared->Prop}(h:Q (decide (a<b)) s):wpAny (model prog w) A (oneLt' false (.int a t) (.int b u)) Q E s:=by rw[oneLt'_eq];simp only[z5e,z6i];refine z43 (wpAny_richCompare_same (op:=.Lt) (typeIs_int s a t) (typeIs_int s b u) slot_int_lt (call_int_lt ⟨by simp,?_⟩));exact z6r h
theorem zly{a b:Str}{t u:Tok}{Q:Bool->Shared->Prop}(h:Q (decide (a.cps.toList<b.cps.toList)) s):wpAny (model prog w) A (oneLt' false (.str a t) (.str b u)) Q E s:=by rw[oneLt'_eq];simp only[z5e,z6i];refine z43 (wpAny_richCompare_same (op:=.Lt) (typeIs_str s a t) (typeIs_str s b u) slot_str_lt (call_str_lt ⟨by simp,?_⟩));exact z6r h
theorem cmp_int(hU:∀x,U x->∃n t,x.1=.int n t/\kc x=[n]):Cmp prog w A E s oneType' U (bk kc):=zk8 fun x y hx hy E' Q hq=>by
 obtain⟨n,t,e,k⟩:=hU x hx;obtain⟨m,u,e',k'⟩:=hU y hy;rw[e,e',keyLt'_oneType];refine oneLt_int ?_;have:bk kc x y=decide (n<m):=by unfold bk;rw[k,k',z6q,z6n];simp
 rw[<-this];exact hq
theorem cmp_str(hU:∀x,U x->∃z t,x.1=.str z t/\kc x=nums z):Cmp prog w A E s oneType' U (bk kc):=zk8 fun x y hx hy E' Q hq=>by
 obtain⟨n,t,e,k⟩:=hU x hx;obtain⟨m,u,e',k'⟩:=hU y hy;rw[e,e',keyLt'_oneType];refine oneLt_str ?_;have:bk kc x y=decide (n.cps.toList<m.cps.toList):=by unfold bk;rw[k,k',z6q];exact map_lt _ _
 rw[<-this];exact hq
theorem zl4(fl:Bool)(x y:Value):keyLt' (tuples' fl) x y=(do
   let xs <-Builtin.List.listItems x;let ys <-Builtin.List.listItems y
   for ((p,q),i)in (xs.toList.zip ys.toList).zipIdx do
     if !(<-eqBool p q)then return <-oneLt' (fl&&i==0) p q
   return xs.size<ys.size):=rfl
theorem zfe{p q:Addr}{o o':Obj}{n n':Nat}{a b:Int}{t u:Tok}{v v':Value}{Q:Bool->Shared->Prop}(ho:s.heap.get? p=some o)(hd:o.data=.seq #[.int a t,v] n)(ho':s.heap.get? q=some o')(hd':o'.data=.seq #[.int b u,v'] n')
   {eq lt:Bool} (he:∀Q:Bool->Shared->Prop,Q eq s->wpAny (model prog w) A (eqBool v v') Q E s) (hl:∀Q:Bool->Shared->Prop,Q lt s->wpAny (model prog w) A (oneLt' false v v') Q E s) (h:Q (if a=b then !eq&&lt else decide (a<b)) s):wpAny (model prog w) A (keyLt' (tuples' true) (.ref p) (.ref q)) Q E s:=by
 rw[zl4];refine z43 (qaa ho hd ?_);refine z43 (qaa ho' hd' ?_);have e0:((#[Value.int a t,v].toList.zip #[Value.int b u,v'].toList).zipIdx)=[((Value.int a t,Value.int b u),0),((v,v'),1)]:=rfl;rw[e0,z8n];simp only[bind_assoc];refine z43 (wpAny_eqBool_int ?_);by_cases ab:a=b
 · rw[z5s ab]at h;have e1:(a==b)=true:=by simpa using ab
   rw[e1];simp only[z7r,z5e,z6i,pure_bind];rw[z8n];simp only[bind_assoc];refine z43 (he _ ?_);cases eq
   · simp only[qat,z61,bind_assoc,pure_bind,Bool.true_and]at h ⊢;exact z43 (hl _ (z5n h))
   · simp only[z7r,z5e,z6i,pure_bind,List.forIn_nil,qad]at h ⊢;exact z5n h
 · rw[z5y ab]at h;have e1:(a==b)=false:=by simpa using ab
   rw[e1];simp only[qat,z61,bind_assoc,pure_bind];exact z43 (oneLt_int (z5n h))
theorem cmp_ii(hU:∀x,U x->∃p o n a t b u,x.1=.ref p/\s.heap.get? p=some o/\o.data=.seq #[.int a t,.int b u] n/\kc x=[a,b]):Cmp prog w A E s (tuples' true) U (bk kc):=zk8 fun x y hx hy E' Q hq=>by
 obtain⟨p,o,n,a,t,b,u,e,ho,hd,k⟩:=hU x hx;obtain⟨p',o',n',a',t',b',u',e',ho',hd',k'⟩:=hU y hy;rw[e,e'];refine zfe ho hd ho' hd' (eq:=b==b') (lt:=decide (b<b')) (fun Q h=>wpAny_eqBool_int h) (fun Q h=>zlz h) ?_;have:bk kc x y=(if a=a' then !(b==b')&&decide (b<b')else decide (a<a')):=by
   unfold bk;rw[k,k',<-Bool.decide_coe (if a=a' then _ else _),z6q,z6n,z6n];by_cases h1:a=a'
   · rw[z5s h1];subst h1;simp;omega
   · rw[z5y h1];simp[h1]
 rw[<-this];exact hq
theorem cmp_is(hU:∀x,U x->∃p o n a t b u,x.1=.ref p/\s.heap.get? p=some o/\o.data=.seq #[.int a t,.str b u] n/\kc x=a::nums b):Cmp prog w A E s (tuples' true) U (bk kc):=zk8 fun x y hx hy E' Q hq=>by
 obtain⟨p,o,n,a,t,b,u,e,ho,hd,k⟩:=hU x hx;obtain⟨p',o',n',a',t',b',u',e',ho',hd',k'⟩:=hU y hy;rw[e,e'];refine zfe ho hd ho' hd' (eq:=decide (b=b')) (lt:=decide (b.cps.toList<b'.cps.toList)) (fun Q h=>wpAny_eqBool_str h) (fun Q h=>zly h) ?_;have:bk kc x y=(if a=a' then !(decide (b=b'))&&decide (b.cps.toList<b'.cps.toList)else decide (a<a')):=by
   unfold bk;rw[k,k',<-Bool.decide_coe (if a=a' then _ else _),z6q,z6n];by_cases h1:a=a'
   · rw[z5s h1];subst h1;have:(nums b<nums b')↔b.cps.toList<b'.cps.toList:=map_lt _ _;simp[this];rintro h2 rfl;exact z80 _ h2
   · rw[z5y h1];simp[h1]
 rw[<-this];exact hq
end
end Srt
namespace Srt
open PySem PyProof.Rows
open Builtin.List (listItems listUpdate)
theorem kk1:((("key":Str) != ("key":Str))&&(("key":Str) != ("reverse":Str)))=false:=by decide +kernel
theorem kk2{v:Value}:List.lookup ("key":Str) [(("key":Str),v)]=some v:=by simp[List.lookup]
theorem kk3{v:Value}:List.lookup ("reverse":Str) [(("key":Str),v)]=none:=by
 have:(("reverse":Str)==("key":Str))=false:=by decide +kernel
 simp[List.lookup,this]
def keysLoop(a:Addr)(items:Array Value)(kf keyStore:Value):Sem PUnit :=
 forIn items PUnit.unit fun x __s=>do
   let __do_lift <-(call kf [x]).attempt
   match __do_lift with
   | Except.ok k=>do
     listUpdate keyStore fun x=>x.push k
     pure (ForInStep.yield PUnit.unit)
   | Except.error e=>do
     rule "list.sort.key-raised"
     let made <-listItems keyStore
     listUpdate keyStore fun x=>#[]
     letGo made.toList.reverse [e]
     listUpdate (Value.ref a) fun x=>items
     throw (α:=Unit) e
     pure (ForInStep.yield PUnit.unit)
theorem zf7 (a:Addr) (kf:Value) (hn:(kf != Value.none)=true):Builtin.«list.sort» ⟨[.ref a],[("key",kf)]⟩=(do
   let items <-listItems (.ref a)
   listUpdate (.ref a) fun _=>#[]
   let before <-seqEpoch a
   let held <-newTuple items.toList
   let keyStore <-newList []
   holding [held,keyStore] do
     rule "list.sort.key"
     keysLoop a items kf keyStore
     let keys <-listItems keyStore
     let kind <-if items.size<2 then pure general' else keyKind' keys
     let((),s) <-(if items.size<2 then pure ()else sortRuns').run (SortSt.mk' kind (keys.zip items) #[] 7 none)
     let sorted:=(arrOf s).map (·.2)
     listUpdate keyStore fun _=>#[]
     letGo ((arrOf s).map (·.1)).toList (failedOf s).toList
     let touched:=(<-seqEpoch a) != before
     listUpdate (.ref a) fun _=>sorted
     if let some e:=failedOf s then rule "list.sort.comparison-raised";throw e
     if touched then rule "list.sort.modified";raiseError "ValueError" "list modified during sort"
     ret .none):=by
 unfold Builtin.«list.sort»;have n2:¬ (0+(0+1)>2):=by decide
 simp only[List.length_nil,List.length_cons,List.isEmpty_nil,kk2,kk3,Option.getD_some,hn,z5y n2,z8n,List.forIn_nil,kk1,pure_bind,bind_assoc,z61,z6i,z5e,z7r];rfl
section
variable {prog:Program}{w:World}{A:Around}{E:zVP}{s:Shared}
def askHeap(h:Heap)(a:Addr)(vs:List Value):Heap:=((h.update a (Obj.mapSeq fun _=>#[])).push (seqObj "tuple" vs.toArray 0)).push (seqObj "list" #[] 0)
structure Keyd (prog:Program) (w:World) (A:Around) (E:zVP) (a k:Addr) (e1:Nat) (vs:List Value) (P:Fin->Shared->Prop) (s2:Shared):Prop where
 ex:∃(keys:List Value) (m:Nat) (kd:SortKind) (U:Keyed->Prop) (kc:Keyed->List Int),s2.heap.get? k=some (seqObj "list" keys.toArray m)/\s2.heap.get? a=some (seqObj "list" #[] e1)/\keys.length=vs.length /\
   (2<=vs.length->wpAny (model prog w) A (keyKind' keys.toArray) (fun kd' s'=>s'=s2/\kd'=kd) E s2)/\Cmp prog w A E s2 kd U (bk kc)/\(∀x∈keys.zip vs,U x)/\(keys.zip vs).Pairwise (fun x y=>kc x≠kc y) /\
   ∀out:List Keyed,out.Perm (keys.zip vs)->out.Pairwise (fun x y=>¬ kc y<kc x)->P (.done (.ret .none)) { s2 with heap:=(s2.heap.update k (Obj.mapSeq fun _=>#[])).update a (Obj.mapSeq fun _=>(out.map (·.2)).toArray) }
theorem zdu{a:Addr}{vs:List Value}{n:Nat}{kf:Value}{P:Fin->Shared->Prop}(hn:(kf != Value.none)=true)(ho:s.heap.get? a=some (seqObj "list" vs.toArray n))(hl:vs.length<=100000)
   (h:∀e1,(askHeap s.heap a vs).get? a=some (seqObj "list" #[] e1)->wpAny (model prog w) A (keysLoop a vs.toArray kf (.ref (s.heap.objs.size+1))) (fun _ s2=>Keyd prog w A E a (s.heap.objs.size+1) e1 vs P s2) E { s with heap:=askHeap s.heap a vs }) :
   wpAny (model prog w) A (Builtin.«list.sort» ⟨[.ref a],[("key",kf)]⟩) P E s:=by
 rw[zf7 a kf hn];have ha:a<s.heap.objs.size:=z5l ho;refine z43 (qaa ho rfl ?_);refine z43 (listUpdate_at ho rfl ?_);obtain⟨e1,ho1⟩:∃e1,(s.heap.update a (Obj.mapSeq fun _=>#[])).get? a=some (seqObj "list" #[] e1):=⟨_,get?_update_seq ho (fun _=>#[])⟩
 refine z43 (seqEpoch_at ho1 rfl ?_);refine z43 (wpAny_newTuple ?_);refine z43 (wpAny_newList ?_);refine wpAny_holding ?_;have ho6:(askHeap s.heap a vs).get? a=some (seqObj "list" #[] e1):=by unfold askHeap;rw[Heap.get?_push_ne _ _ _ (by rw[qal,z8h];exact z5q (z8w ha)),Heap.get?_push_ne _ _ _ (by rw[z8h];exact z5q ha)];exact ho1
 have hk:((s.heap.update a (Obj.mapSeq fun _=>#[])).push (seqObj "tuple" vs.toArray 0)).objs.size=s.heap.objs.size+1:=by rw[qal,z8h]
 dsimp only;rw[hk];refine z43 (wpAny_rule ?_);refine z43 (z7c (h e1 ho6) (fun _ s2 hs2=>?_) fun _ _ e=>e);obtain⟨keys,m,kd,U,kc,gk,ga,lk,hkk,C,hU,hd,fin⟩:=hs2.ex;have ka:a≠s.heap.objs.size+1:=z5q (z8w ha);refine z43 (qaa gk rfl ?_);have vsz:vs.toArray.size=vs.length:=by simp
 have zl:(keys.toArray.zip vs.toArray).toList=keys.zip vs:=by simp
 have sz2:(keys.zip vs).length=vs.length:=by rw[List.length_zip,lk,Nat.min_self]
 have done:∀st:SortSt,failedOf st=none->(arrOf st).toList.Perm (keys.zip vs)->(arrOf st).toList.Pairwise (fun x y=>¬ kc y<kc x)->wpAny (model prog w) A (do
     listUpdate (.ref (s.heap.objs.size+1)) fun _=>#[]
     letGo ((arrOf st).map (·.1)).toList (failedOf st).toList
     let touched:=(<-seqEpoch a) != e1
     listUpdate (.ref a) fun _=>(arrOf st).map (·.2)
     if let some e:=failedOf st then rule "list.sort.comparison-raised";throw e
     if touched then rule "list.sort.modified";raiseError "ValueError" "list modified during sort"
     ret .none) P E s2:=by
   intro st hf hp hs;refine z43 (listUpdate_at gk rfl ?_);refine z43 (wpAny_letGo ?_);have ga2:(s2.heap.update (s.heap.objs.size+1) (Obj.mapSeq fun _=>#[])).get? a=some (seqObj "list" #[] e1):=by rw[z7h _ _ _ _ ka];exact ga
   refine z43 (seqEpoch_at ga2 rfl ?_);refine z43 (listUpdate_at ga2 rfl ?_ (hsz2:=by
     show((arrOf st).map (·.2)).size<=_;rw[Array.size_map,<-Array.length_toList,hp.length_eq,sz2,z60];omega))
   rw[hf];simp only[bne_self_eq_false,z5e,z6i];have:=fin (arrOf st).toList hp hs;have e:((arrOf st).toList.map (·.2)).toArray=(arrOf st).map (·.2):=by rw[<-Array.toList_map,Array.toArray_toList]
   rw[e]at this;exact z5n this
 by_cases h2:vs.toArray.size<2
 · rw[z5s h2,z5s h2];refine z43 (z5n ?_);rw[StateT.run_pure];refine z43 (z5n ?_);refine done (SortSt.mk' general' (keys.toArray.zip vs.toArray) #[] 7 none) rfl (by show(keys.toArray.zip vs.toArray).toList.Perm _;rw[zl]) ?_;show(keys.toArray.zip vs.toArray).toList.Pairwise _;rw[zl]
   match hz:keys.zip vs,sz2 with
   | [],_=>exact List.Pairwise.nil
   | [x],_=>exact z7s _ _
   |x::y::r,e=>rw[vsz]at h2;simp at e;omega
 · rw[z5y h2,z5y h2];refine z43 (z7c (hkk (by rw[vsz]at h2;omega)) (fun kd' s' hs'=>?_) fun _ _ e=>e);obtain⟨rfl,rfl⟩:=hs';refine z43 (z7c (zfq (st:=SortSt.mk' kd' (keys.toArray.zip vs.toArray) #[] 7 none) C rfl rfl rfl (fun x hx=>hU x (by rw[<-zl];exact hx)) ?_ (Q:=fun _ st'=>(arrOf st').toList.Perm (keys.toArray.zip vs.toArray).toList/\failedOf st'=none/\(arrOf st').toList.Pairwise (le (bk kc))) fun st' a1 a2 a3=>⟨a1,a2,a3⟩) ?_ fun _ _ e=>e)
   · show(keys.toArray.zip vs.toArray).toList.Pairwise _;rw[zl];refine hd.imp fun {x y} hxy=>?_;simp only[bk,decide_eq_true_eq];by_cases q:kc x<kc y
     · exact .inl q
     · right
       by_cases q2:kc y<kc x
       · exact q2
       · exact absurd (z9u (z62.mp q2) (z62.mp q)) hxy
   · rintro⟨⟨⟩,st'⟩ s3 ⟨rfl,hp,hf,hs⟩;refine done st' hf (by rw[zl]at hp;exact hp) (hs.imp fun {x y} q=>?_);simpa [le,bk] using q
end
theorem zes(a k:Value):argsOk "sorted" ⟨[a],[(("key":Str),k)]⟩:=by unfold argsOk;kernel_rfl
theorem zcb(a k:Value):argsOk "list.sort" ⟨[a],[(("key":Str),k)]⟩:=by unfold argsOk;kernel_rfl
section
variable {prog:Program}{w:World}{A:Around}{E:zVP}{s:Shared}
def colHeap(h:Heap)(vs:List Value):Heap:=((h.push (seqObj "list" #[] 0)).update h.objs.size (Obj.mapSeq (·++vs.toArray))).push (seqObj "list" vs.toArray 0)
theorem col_size(h:Heap)(vs:List Value):(colHeap h vs).objs.size=h.objs.size+2:=by unfold colHeap;rw[qal,z8h,qal]
theorem sorted_key{l:Addr}{vs:List Value}{kf:Value}{Q:zVP}(hl:s.heap.IsList l vs.toArray)(hn:(kf != Value.none)=true)(hv:vs.length<=100000)
   (h:∀e1,(askHeap (colHeap s.heap vs) (s.heap.objs.size+1) vs).get? (s.heap.objs.size+1)=some (seqObj "list" #[] e1) ->
     wpAny (model prog w) A.in1.in1 (keysLoop (s.heap.objs.size+1) vs.toArray kf (.ref (s.heap.objs.size+3))) (fun _ s2=>Keyd prog w A.in1.in1 E (s.heap.objs.size+1) (s.heap.objs.size+3) e1 vs (fun fin s'=>fin=.done (.ret .none)->Q (.ref (s.heap.objs.size+1)) s') s2) E { s with heap:=askHeap (colHeap s.heap vs) (s.heap.objs.size+1) vs }) :
   wpAny (model prog w) A (call (.builtin "sorted") [.ref l] [(("key":Str),kf)]) Q E s:=by
 refine call_function_entry_kw kind_sorted plain_sorted entry_sorted (zes _ _) ?_;unfold Builtin.«sorted»;refine z43 (m:=checkCount "sorted" 1 1 _) (z5n ?_);have hz:=z60;refine z43 (collect_list hl ?_ (by omega));refine z43 (wpAny_newList ?_);have hsz:((s.heap.push (seqObj "list" #[] 0)).update s.heap.objs.size (Obj.mapSeq (·++vs.toArray))).objs.size=s.heap.objs.size+1:=by rw[z8h,qal]
 have hoL:(colHeap s.heap vs).get? (s.heap.objs.size+1)=some (seqObj "list" vs.toArray 0):=by unfold colHeap;rw[<-hsz];exact z53 _ rfl
 show wpAny _ _ _ _ _ { s with heap:=colHeap s.heap vs };rw[hsz];have cs:(colHeap s.heap vs).objs.size+1=s.heap.objs.size+3:=by rw[col_size]
 refine z43 (wpAny_holding (wpAny_call_entry_kw slot_list_sort ⟨_,hoL,rfl⟩ entry_list_sort (z7c (zdu (s:={ s with heap:=colHeap s.heap vs }) (P:=fun fin s'=>fin=.done (.ret .none)/\Q (.ref (s.heap.objs.size+1)) s') hn hoL hv fun e1 he=>?_) (fun fin s' hf=>⟨.none,hf.1,z5n ⟨_,rfl,hf.2⟩⟩) fun _ _ e=>e) (zcb _ _)));show wpAny _ _ (keysLoop _ _ _ (.ref ((colHeap s.heap vs).objs.size+1))) _ _ _;rw[cs];refine z7c (h e1 he) (fun _ s2 k2=>?_) fun _ _ e=>e;obtain⟨keys,m,kd,U,kc,b1,b2,b3,b4,b5,b6,b7,b8⟩:=k2.ex;exact⟨keys,m,kd,U,kc,b1,b2,b3,b4,b5,b6,b7,fun out o1 o2=>⟨rfl,b8 out o1 o2 rfl⟩⟩
end
theorem zc3(v:Value):firstOfTuple' v=(do
 if(<-typeOf v) != .type "tuple" then return none
 return(<-listItems v)[0]?):=rfl
section
variable {prog:Program}{w:World}{A:Around}{E:zVP}{s:Shared}
def z26(s:Shared)(v:Value):Prop:=∃p o n a t e,v=.ref p/\s.heap.get? p=some o/\o.cls=.type "tuple"/\o.data=.seq #[.int a t,e] n
theorem zo2{v:Value}(h:z26 s v){Q:Option Value->Shared->Prop}(hq:∀a t,Q (some (.int a t)) s):wpAny (model prog w) A (firstOfTuple' v) Q E s:=by
 obtain⟨p,o,n,a,t,e,rfl,ho,hc,hd⟩:=h;rw[zc3];refine z43 (wpAny_typeOf (T:="tuple") ⟨o,ho,hc⟩ ?_);have:(Value.type "tuple" != Value.type "tuple")=false:=by rfl
 rw[this];simp only[z5e,z6i];refine z43 (qaa ho hd ?_);exact z5n (hq a t)
theorem zbm:∀{vs:List Value},(∀v∈vs,z26 s v)->∀{Q:List (Option Value)->Shared->Prop},(∀fs:List Value,(∀f∈fs,∃a t,f=.int a t)->fs.length=vs.length->Q (fs.map some) s)->wpAny (model prog w) A (vs.mapM firstOfTuple') Q E s
 | [],_,Q,h=>by rw[List.mapM_nil];exact z5n (h [] (fun f hf=>by cases hf) rfl)
 | v::vs,hv,Q,h=>by
   rw[List.mapM_cons];refine z43 (zo2 (hv v (z5d ..)) fun a t=>?_);refine z43 (zbm (fun u hu=>hv u (z46 _ hu)) fun fs hf hl=>?_);refine z5n (h (.int a t::fs) (fun f hf'=>?_) (by simp[hl]));rcases z5p.mp hf' with rfl | hf'
   · exact⟨a,t,rfl⟩
   · exact hf f hf'
theorem zb3:∀{fs:List Value},(∀f∈fs,∃a t,f=.int a t)->fs.mapM typeOf=(pure (fs.map fun _=>Value.type "int"):Sem (List Value))
 | [],_=>by simp
 | f::fs,h=>by obtain⟨a,t,rfl⟩:=h f (z5d ..);rw[List.mapM_cons,zb3 fun u hu=>h u (z46 _ hu)];show(pure (Value.type "int") >>= fun b=>pure _ >>= fun bs=>pure (b::bs))=_;simp
theorem keyKind_tup{keys:List Value}(h0:keys≠[])(hf:∀v∈keys,z26 s v):wpAny (model prog w) A (keyKind' keys.toArray) (fun kd s'=>s'=s/\kd=tuples' true) E s:=by
 rw[keyKind'_eq,List.mapM_toArray];simp only[map_eq_pure_bind,bind_assoc,pure_bind];refine z43 (zbm hf fun fs h1 h2=>?_);have e1:(fs.map some).toArray.all (·.isSome)=true:=by simp
 rw[z5s e1];refine z43 (wpAny_rule ?_);have e2:(fs.map some).toArray.filterMap id=fs.toArray:=by simp
 rw[e2,oneTypeOnly'_eq,List.mapM_toArray,zb3 h1];cases fs with
 |nil=>exact absurd (List.length_eq_zero_iff.mp h2.symm) h0
 | cons f fs=>
   simp only[map_pure,pure_bind,z5j];have hall:((Value.type "int"::List.map (fun _=>Value.type "int") fs).toArray.all fun x=>x==Value.type "int")=true:=by rw[<-z5j (f:=fun _=>Value.type "int") (a:=f)];simp only[List.all_toArray,List.all_map,z6d];intro _ _;rfl
   have g0:(Value.type "int"::List.map (fun _=>Value.type "int") fs).toArray[0]? = some (Value.type "int"):=by simp
   rw[g0];simp only[hall,z61,pure_bind];exact z5n ⟨rfl,rfl⟩
theorem keyKind_int{keys:List Value}(h2:2<=keys.length)(hf:∀v∈keys,∃a t,v=.int a t):wpAny (model prog w) A (keyKind' keys.toArray) (fun kd s'=>s'=s/\kd=oneType') E s:=by
 match keys,h2 with
 | v₁::v₂::vs,_=>
   have:∀(l:List Value),(∀v∈l,∃a t,v=.int a t)->∃ns,IntsAre l ns:=by
     intro l
     induction l with
     |nil=>exact fun _=>⟨[],.nil⟩
     | cons v l ih=>
       intro h;obtain⟨a,t,rfl⟩:=h v (z5d ..);obtain⟨ns,hn⟩:=ih fun u hu=>h u (z46 _ hu);exact⟨a::ns,.cons a t hn⟩
   obtain⟨ns,hn⟩:=this _ hf;rw[keyKind_ints hn];exact z5n ⟨rfl,rfl⟩
theorem keyKind_str{keys:List Value}(h2:2<=keys.length)(hf:∀v∈keys,∃a t,v=.str a t):wpAny (model prog w) A (keyKind' keys.toArray) (fun kd s'=>s'=s/\kd=oneType') E s:=by
 match keys,h2 with
 | v₁::v₂::vs,_=>
   rw[keyKind_strs (strsAre_map _ hf)];exact z5n ⟨rfl,rfl⟩
end
end Srt
namespace F
open PySem L2 PySem.Spec PySem.Calls PyProof.Rows PySem.W
open Builtin.List (listItems listUpdate)
def zre{α:Type}(c:α->List Int)(x:α):List α->List α
 | []=>[x]
 |y::l=>if c y<c x then y::zre c x l else x::y::l
def j9{α:Type}(c:α->List Int):List α->List α
 | []=>[]
 |x::l=>zre c x (j9 c l)
section
variable {α β:Type}{c:α->List Int}{c':β->List Int}
theorem zd5(x:α):∀l:List α,(zre c x l).Perm (x::l)
 | []=>z8k _
 | y::l=>by
   unfold zre;split
   · exact((zd5 x l).cons y).trans (List.Perm.swap x y l)
   · exact z8k _
theorem xf:∀l:List α,(j9 c l).Perm l
 | []=>z8k _
 |x::l=>(zd5 x _).trans ((xf l).cons x)
theorem zor(x:α):∀l:List α,l.Pairwise (fun a b=>¬ c b<c a)->(zre c x l).Pairwise (fun a b=>¬ c b<c a)
 | [],_=>z7s _ _
 | y::l,h=>by
   obtain⟨h1,h2⟩:=z63.mp h;unfold zre;split
   · rename_i hy;refine z63.mpr ⟨fun z hz=>?_,zor x l h2⟩;rcases z5p.mp ((zd5 x l).mem_iff.mp hz)with rfl | hz
     · exact List.lt_asymm hy
     · exact h1 z hz
   · rename_i hy;refine z63.mpr ⟨fun z hz=>?_,h⟩;rcases z5p.mp hz with rfl | hz
     · exact hy
     · exact z62.mpr (List.le_trans (z62.mp hy) (z62.mp (h1 z hz)))
theorem zd3:∀l:List α,(j9 c l).Pairwise (fun a b=>¬ c b<c a)
 | []=>List.Pairwise.nil
 |x::l=>zor x _ (zd3 l)
theorem zks(f:α->β)(h:∀a,c' (f a)=c a)(x:α):∀l:List α,zre c' (f x) (l.map f)=(zre c x l).map f
 | []=>rfl
 | y::l=>by
   rw[z5j];unfold zre;rw[h,h];split
   · rw[z5j,zks f h x l]
   · rfl
theorem zbf(f:α->β)(h:∀a,c' (f a)=c a):∀l:List α,j9 c' (l.map f)=(j9 c l).map f
 | []=>rfl
 | x::l=>by rw[z5j];unfold j9;rw[zbf f h l,zks f h]
theorem zii{l out:List α}(hp:out.Perm l)(hs:out.Pairwise (fun a b=>¬ c b<c a))(hd:l.Pairwise (fun a b=>c a≠c b)):out=j9 c l:=by
 have hd2:∀a b,a∈l->b∈l->c a=c b->a=b:=by
   clear hp hs
   induction l with
   |nil=>intro a b ha;cases ha
   | cons x l ih=>
     obtain⟨h1,h2⟩:=z63.mp hd;intro a b ha hb e;rcases z5p.mp ha with ea | ma
     · rcases z5p.mp hb with eb | mb
       · rw[ea,eb]
       · rw[ea]at e;exact absurd e (h1 b mb)
     · rcases z5p.mp hb with eb | mb
       · rw[eb]at e;exact absurd e.symm (h1 a ma)
       · exact ih h2 a b ma mb e
 refine List.Perm.eq_of_pairwise (le:=fun a b=>¬ c b<c a) (fun a b ha hb h1 h2=>?_) hs (zd3 l) (hp.trans (xf l).symm);exact hd2 a b (hp.mem_iff.mp ha) ((xf l).mem_iff.mp hb) (z9u (z62.mp h1) (z62.mp h2))
end
def zf9:D->List Int
 | .int n=>[n]
 | .str z=>Srt.nums z
 | .tup [.int a,.int b]=>[a,b]
 | .tup [.int a,.str z]=>a::Srt.nums z
 |_=>[]
def x5:D->Nat
 | .int _=>0
 | .str _=>1
 | .tup [.int _,.int _]=>2
 | .tup [.int _,.str _]=>3
 |_=>4
theorem jx{d:D}(h:x5 d<4):(∃n,d=.int n)\/(∃z,d=.str z)\/(∃a b,d=.tup [.int a,.int b])\/(∃a z,d=.tup [.int a,.str z]):=by
 unfold x5 at h;split at h
 · exact .inl ⟨_,rfl⟩
 · exact .inr (.inl ⟨_,rfl⟩)
 · exact .inr (.inr (.inl ⟨_,_,rfl⟩))
 · exact .inr (.inr (.inr ⟨_,_,rfl⟩))
 · exact absurd h (by decide)
def zwm:Value->List Int
 | .int n _=>[n]
 | .str z _=>Srt.nums z
 |_=>[]
def zc5(h:Heap):Value->List Int
 | .ref p=>(match h.get? p with
   | some o=>(match o.data with
     | .seq its _=>its.toList.flatMap zwm
     |_=>[])
   |none=>[])
 |v=>zwm v
def zfp(h:Heap):Nat->Value->List Int->Prop
 |0,u,c=>∃n t,u=.int n t/\c=[n]
 |1,u,c=>∃z t,u=.str z t/\c=Srt.nums z
 |2,u,c=>∃p o n a t b t',u=.ref p/\h.get? p=some o/\o.cls=.type "tuple"/\o.data=.seq #[.int a t,.int b t'] n/\c=[a,b]
 |3,u,c=>∃p o n a t b t',u=.ref p/\h.get? p=some o/\o.cls=.type "tuple"/\o.data=.seq #[.int a t,.str b t'] n/\c=a::Srt.nums b
 |_,_,_=>False
theorem zne{h:Heap}{n:Nat}{u:Value}{c:List Int}(q:zfp h n u c):zc5 h u=c:=by
 match n,q with
 |0,q=>obtain⟨n,t,e,f⟩:=q;subst e f;rfl
 |1,q=>obtain⟨n,t,e,f⟩:=q;subst e f;rfl
 | 2,q=>
   obtain⟨p,o,n,a,t,b,t',e,ho,_,hd,f⟩:=q;subst e f;simp only[zc5,ho,hd];rfl
 | 3,q=>
   obtain⟨p,o,n,a,t,b,t',e,ho,_,hd,f⟩:=q;subst e f;simp[zc5,ho,hd,zwm]
 |n+4,q=>exact False.elim q
section
variable {X:Cx}{pins:zAO}{σ:L2.St}{H:Hp}{s:Shared}{ρ:List Addr}
theorem zqi{d:D}{v:V}{u:Value}(I:Inv X pins σ H s)(hk:x5 d<4)(r:Rep X.K X.mg ρ H d v)(q:RelV v u):zfp s.heap (x5 d) u (zf9 d):=by
 rcases jx hk with⟨n,rfl⟩ | ⟨z,rfl⟩ | ⟨a,b,rfl⟩ | ⟨a,z,rfl⟩
 · unfold Rep at r;subst r;obtain⟨t,rfl⟩:=q;exact⟨n,t,rfl,rfl⟩
 · unfold Rep at r;subst r;obtain⟨t,rfl⟩:=q;exact⟨z,t,rfl,rfl⟩
 · unfold Rep at r;obtain⟨p,vs,rfl,ht,rl⟩:=r;obtain rfl:u=Value.ref p:=q;simp only[RepL,Rep]at rl;obtain⟨v1,r1,rfl,rfl,v2,r2,rfl,rfl,rfl⟩:=rl;obtain⟨its,rv,⟨o,e,c,n,dd⟩,_⟩:=I.tuple ht.sq;cases rv with
   | cons q1 rv=>
     cases rv with
     | cons q2 rv=>
       cases rv;obtain⟨t1,rfl⟩:=q1;obtain⟨t2,rfl⟩:=q2;exact⟨p,o,n,a,t1,b,t2,rfl,e,c,dd,rfl⟩
 · unfold Rep at r;obtain⟨p,vs,rfl,ht,rl⟩:=r;obtain rfl:u=Value.ref p:=q;simp only[RepL,Rep]at rl;obtain⟨v1,r1,rfl,rfl,v2,r2,rfl,rfl,rfl⟩:=rl;obtain⟨its,rv,⟨o,e,c,n,dd⟩,_⟩:=I.tuple ht.sq;cases rv with
   | cons q1 rv=>
     cases rv with
     | cons q2 rv=>
       cases rv;obtain⟨t1,rfl⟩:=q1;obtain⟨t2,rfl⟩:=q2;exact⟨p,o,n,a,t1,z,t2,rfl,e,c,dd,rfl⟩
theorem zsu(I:Inv X pins σ H s){n:Nat}(hn:n<4):∀{kd:List D}{ws:List V}{ks:List Value},RepL X.K X.mg ρ H kd ws->Vals ws ks->(∀d∈kd,x5 d=n)->(∀v∈ks,zfp s.heap n v (zc5 s.heap v))/\ks.map (zc5 s.heap)=kd.map zf9
 | [],_,_,r,q,_=>by unfold RepL at r;subst r;cases q;exact⟨fun v hv=>(by cases hv),rfl⟩
 | d::kd,_,_,r,q,hk=>by
   unfold RepL at r;obtain⟨v,vs,rfl,r1,r2⟩:=r;cases q with
   | cons q1 q2=>
     rename_i u us;obtain⟨h1,h2⟩:=zsu I hn r2 q2 fun d hd=>hk d (z46 _ hd);have e:=hk d z5d;have sh:=zqi I (by rw[e];exact hn) r1 q1;rw[e]at sh;have ev:=zne sh;refine⟨fun v hv=>?_,by rw[z5j,z5j,h2,ev]⟩;rcases z5p.mp hv with z | z
     · rw[z,ev];exact sh
     · exact h1 v z
end
section
variable {prog:Program}{w:World}{A:Around}{E:zVP}{s:Shared}{U:Keyed->Prop}{kc:Keyed->List Int}
theorem znf{n:Nat}(hn:n<4)(hU:∀x,U x->zfp s.heap n x.1 (kc x)):∃kd,Srt.Cmp prog w A E s kd U (Srt.bk kc)/\∀keys:List Value,2<=keys.length->(∀v∈keys,∃c,zfp s.heap n v c)->wpAny (model prog w) A (keyKind' keys.toArray) (fun kd' s'=>s'=s/\kd'=kd) E s:=by
 match n,hn,hU with
 |0,_,hU=>exact⟨_,Srt.cmp_int hU,fun keys h2 hf=>Srt.keyKind_int h2 fun v hv=>let⟨c,a,t,e,_⟩:=hf v hv;⟨a,t,e⟩⟩
 |1,_,hU=>exact⟨_,Srt.cmp_str hU,fun keys h2 hf=>Srt.keyKind_str h2 fun v hv=>let⟨c,a,t,e,_⟩:=hf v hv;⟨a,t,e⟩⟩
 |2,_,hU=>exact⟨_,Srt.cmp_ii fun x hx=>let⟨p,o,n,a,t,b,u,e,ho,_,hd,k⟩:=hU x hx;⟨p,o,n,a,t,b,u,e,ho,hd,k⟩,fun keys h2 hf=>Srt.keyKind_tup (fun z=>by rw[z]at h2;exact absurd h2 (by decide)) fun v hv=>let⟨c,p,o,n,a,t,b,u,e,ho,hc,hd,_⟩:=hf v hv;⟨p,o,n,a,t,.int b u,e,ho,hc,hd⟩⟩
 |3,_,hU=>exact⟨_,Srt.cmp_is fun x hx=>let⟨p,o,n,a,t,b,u,e,ho,_,hd,k⟩:=hU x hx;⟨p,o,n,a,t,b,u,e,ho,hd,k⟩,fun keys h2 hf=>Srt.keyKind_tup (fun z=>by rw[z]at h2;exact absurd h2 (by decide)) fun v hv=>let⟨c,p,o,n,a,t,b,u,e,ho,hc,hd,_⟩:=hf v hv;⟨p,o,n,a,t,.str b u,e,ho,hc,hd⟩⟩
end
section
variable {X:Cx}{pins:zAO}{σ:L2.St}{H:Hp}{s:Shared}{ρ:List Addr}{k:Nat}{t:LT}{g:G}{cl:zLA}{is:List Nat}{kv:List D}{ev:Ev}{a c:Addr}{pm ct:Value}{S S':Sto}
theorem zk9{A:Around}{ds:List D}{d':D}{vs:List V}{us:List Value}{Q:VK}{E:zVP}(cal:CCal X.prog X.w X.K X.mg X.base k t g)(hn:∀b∈cl.map (·.2),H b=none)(isc:∀b∈cl.map (·.2),∃o v,s.heap.get? b=some o/\o.data=.cell v)(nodup:(cl.map (·.2)).Nodup)
   (nst:∀b∈cl.map (·.2),b∉frs X.stack) (nb:∀b∈cl.map (·.2),X.base.get? b=none) {cs:List V} (hcs:Cells ρ (trk H s.heap cl) t.caps cs cl) (rk:RepL X.K X.mg ρ H kv cs)
   (hr:Room k A) (env0:∀{H':Hp},Env0 X.prog X.w X.K X.mg X.base X.A X.stack s H'->Env0 X.prog X.w X.K X.mg X.base A X.stack s H')
   (I:Inv X pins σ H s) (hS:StOk X.K X.mg ρ H S) (na:a∉ρ) (nc:c∉ρ) (hA:H a=some (.ext (zje t cl a c pm ct))) (hC:H c=some (.ext (yw c t.qual)))
   (rd:RepL X.K X.mg ρ H ds vs) (rv:Vals vs us) (hlen:ds.length=t.params.args.length) (hno:(noCL ds&&noCL kv&&noCS S)=true) (hg:g (ds++kv) S=some (d',S')) (hno':(noC d'&&noCS S')=true)
   (kk:∀v ρ' H',Ext ρ H ρ' H'->StOk X.K X.mg ρ' H' S'->Rep X.K X.mg ρ' H' d' v->Q v H') :
   wpAny (model X.prog X.w) A (call (.ref a) us) (EP X pins σ Q) E s:=by
 obtain⟨ps,F,hb⟩:=cal.ex;rw[z6l]at hno';obtain⟨n1,n2⟩:=hno';have E2:Ext ρ H ρ (trk H s.heap cl):=⟨fun _ _ e=>e,fun b o h n=>by
   unfold trk;rw[qz (fun z=>by rw[hn b z]at h;cases h)];exact h,fun _ z n=>absurd z n⟩
 have hS2:StOk X.K X.mg ρ (trk H s.heap cl) S:=hS.on hn;have cin:CellsIn (trk H s.heap cl) cl:=fun b hb=>by obtain⟨o,v,h1,_⟩:=isc b hb;exact⟨o,by unfold trk;rw[zbk hb,h1];rfl⟩
 have hok0:HOk X.prog X.w (trk H s.heap cl) s.heap:=fun b u e=>by
   unfold trk at e;by_cases z:b∈cl.map (·.2)
   · obtain⟨o,v,h1,_⟩:=isc b z;rw[zbk z,h1]at e;cases e;exact⟨h1,⟨o,h1⟩⟩
   · rw[qz z]at e;refine(I.hok b u e).stay (fun _ _ _ q=>q) (fun d q=>?_) fun d xs q=>?_
     · unfold trk;rw[qz (fun y=>by rw[hn d y]at q;cases q)];exact q
     · unfold trk;rw[qz (fun y=>by rw[hn d y]at q;cases q)];exact q
 have e0:Env0 X.prog X.w X.K X.mg X.base X.A X.stack s (trk H s.heap cl):=by
   have e:=I.env0;refine⟨e.frames,e.mod,fun b o h=>⟨(e.bs b o h).1,?_⟩,e.bsz,e.funs,fun b hb=>?_,hok0,e.bare⟩
   · unfold trk;rw[qz];exact(e.bs b o h).2;intro z;rw[nb b z]at h;cases h
   · unfold trk;rw[qz];exact e.frf b hb;exact fun z=>nst b z hb
 have hsp:zm9 X.K X.mg t a c pm ct cl g vs (trk H s.heap cl) (fun v H'=>CellsIn H' cl->Q v (zbv H' cl)) E0 :=
   ⟨ρ,ds,S,d',S',cs,kv,rd.mono E2,hS2,E2.keep _ _ hA na,E2.keep _ _ hC nc,nodup,hcs,rk.mono E2,hno,hg,hlen,fun v ρ' H' E' hS' r' ci=>by
     refine kk v ρ' (zbv H' cl) ⟨E'.pre,fun b o hb nb=>?_,fun b hb nb=>?_⟩ (hS'.off ci n2) (r'.off ci n1)
     · have z:b∉cl.map (·.2):=fun z=>by rw[hn b z]at hb;cases hb
       rw[jv z];exact E'.keep b o (E2.keep b o hb nb) nb
     · have:=E'.new b hb nb;by_cases z:b∈cl.map (·.2)
       · exact hn b z
       · unfold trk at this;rw[qz z]at this;exact this⟩
 have hl:(us++[]).length=ps.length:=by rw[z50,<-rv.length];exact(F a c pm ct cl).len _ _ _ _ hsp
 have hbt:=hb c pm ct cl s us I.kIn hl;rw[z50]at hbt;refine z9x (z86 ((F a c pm ct cl).run A X.stack s (trk H s.heap cl) ⟨us,[]⟩ us _ _ E0 hr (env0 e0) hbt rv hsp) fun r s' hq=>?_);cases r with
 |error e=>exact hq.elim
 | ok fl=>
   cases fl with
   | ret u=>
     obtain⟨v,H',os,bare,un,hok,rv,q⟩:=hq;have ci:CellsIn H' cl:=fun b hb=>let⟨o,z⟩:=cin b hb;⟨o,un.frzs b o _ z⟩;obtain⟨hh,gn,dr,tt,os'⟩:=s';obtain rfl:os'=s.os:=os;exact⟨v,zbv H' cl,I.call (h':=hh) (g':=gn) (d':=dr) (t':=tt) (ch:=[]) (zsl hn un (fun b hb=>let⟨o,_,z,_⟩:=isc b hb;⟨o,z⟩) (fun b o w z=>(hok b _ z).1)) (zi2 hok ci) bare (fun b z=>absurd z (by simp)),rv,q ci⟩
   |next=>exact False.elim hq
   |brk=>exact False.elim hq
   |cont=>exact False.elim hq
theorem CapsOk.nst(C:CapsOk X t cl is)(I:Inv X pins σ H s):∀b∈cl.map (·.2),b∉frs X.stack:=fun b hb z=>by
 obtain⟨p,hp,rfl⟩:=z72.mp hb;rcases z5p.mp (I.stkSub _ z)with y | y
 · exact I.cne _ _ (C.look p hp) y
 · obtain⟨_,o',h3,_⟩:=I.ok.funs.mem y;have:=I.ok.cab p.1 p.2 (C.fn _ (C.names▸z6h hp)) (C.look p hp);exact absurd (z5l h3) (z8i.mpr this)
theorem CapsOk.nb(C:CapsOk X t cl is)(I:Inv X pins σ H s):∀b∈cl.map (·.2),X.base.get? b=none:=fun b hb=>by obtain⟨p,hp,rfl⟩:=z72.mp hb;have:=I.ok.cab p.1 p.2 (C.fn _ (C.names▸z6h hp)) (C.look p hp);exact z77 (z5u I.ok.bsz this)
def zi0(g:G)(n:Nat)(kv:List D):List D->Sto->Option (List D×Sto)
 | [],S=>some ([],S)
 |d::ds,S=>if(noCL [d]&&noCL kv&&noCS S)=true/\n=1 then (g ([d]++kv) S).bind fun p=>if(noC p.1&&noCS p.2)=true then (zi0 g n kv ds p.2).map fun q=>(p.1::q.1,q.2)else none else none
def zld(a:Addr)(items:Array Value)(kf keyStore x:Value):Sem (ForInStep PUnit):=do
 let __do_lift <-(call kf [x]).attempt
 match __do_lift with
 | Except.ok k=>do
   listUpdate keyStore fun x=>x.push k
   pure (ForInStep.yield PUnit.unit)
 | Except.error e=>do
   rule "list.sort.key-raised"
   let made <-listItems keyStore
   listUpdate keyStore fun x=>#[]
   letGo made.toList.reverse [e]
   listUpdate (Value.ref a) fun x=>items
   throw (α:=Unit) e
   pure (ForInStep.yield PUnit.unit)
theorem zf8(a:Addr)(items:List Value)(kf keyStore:Value):Srt.keysLoop a items.toArray kf keyStore=forIn items PUnit.unit fun x _=>zld a items.toArray kf keyStore x:=by unfold Srt.keysLoop;rw[List.forIn_toArray];rfl
theorem zhg{ks aL:Addr}{E:zVP}(cal:CCal X.prog X.w X.K X.mg X.base k t g)(C:CapsOk X t cl is)(hr:Room k X.A.in1.in1)(hkv:za6 ev is=some kv)
   (hL:ks≠X.env.locals) (h1:ks∈X.ex\/X.s₀.heap.objs.size<=ks) (h2:∀x c,X.env.cells.lookup x=some c->c≠ks) (h3:∀p∈X.pn++pins,p.1≠ks) (hf:ks∉X.fs) (items:Array Value) {R:Shared->Prop} :
   ∀(ds:List D) (us:List Value) (vs:List V) (kd accD:List D) (accV:List V) (acc:List Value) (m:Nat) (s:Shared) (H:Hp) (ρ:List Addr) (S S':Sto),
     EnvR X.K X.mg ρ H ev σ->StOk X.K X.mg ρ H S->RepL X.K X.mg ρ H ds vs->Vals vs us->RepL X.K X.mg ρ H accD accV->Vals accV acc->a∉ρ->c∉ρ->H a=some (.ext (zje t cl a c pm ct))->H c=some (.ext (yw c t.qual))->zi0 g t.params.args.length kv ds S=some (kd,S') ->
     Inv X pins σ H s->s.heap.get? ks=some (seqObj "list" acc.toArray m)->H ks=none->acc.length+us.length<=100000 ->
     (∀(keysV:List V) (keys:List Value) (m:Nat) (s':Shared) (H':Hp) (ρ':List Addr),Ext ρ H ρ' H'->StOk X.K X.mg ρ' H' S'->RepL X.K X.mg ρ' H' (accD++kd) keysV->Vals keysV keys->keys.length=acc.length+us.length->Inv X pins σ H' s'->s'.heap.get? ks=some (seqObj "list" keys.toArray m)->H' ks=none->R s') ->
     wpAny (model X.prog X.w) X.A.in1.in1 (forIn us PUnit.unit fun x _=>zld aL items (.ref a) (.ref ks) x) (fun _ s'=>R s') E s
 | [],us,vs,kd,accD,accV,acc,m,s,H,ρ,S,S',hE,hS,rd,rv,ra,va,na,nc,hA,hC,hk,I,gk,nk,hl,fin=>by unfold RepL at rd;subst rd;cases rv;cases hk;rw[List.forIn_nil];exact z5n (fin accV acc m s H ρ (Ext.refl _ _) hS (by rw[z50];exact ra) va (by simp) I gk nk)
 | d::ds,us,vs,kd,accD,accV,acc,m,s,H,ρ,S,S',hE,hS,rd,rv,ra,va,na,nc,hA,hC,hk,I,gk,nk,hl,fin=>by
   unfold RepL at rd;obtain⟨v,vs,rfl,rd1,rd2⟩:=rd;cases rv with
   | cons rv0 rv1=>
     rename_i u us;unfold zi0 at hk;split at hk
     · rename_i hno;obtain⟨hno,hn1⟩:=hno;obtain⟨⟨d',S1⟩,hg,hk⟩:=zy hk;dsimp only at hk;split at hk
       · rename_i hno';obtain⟨⟨kd',S2⟩,hk1,hk2⟩:=zaq hk;cases hk2;rw[z8n];unfold zld;simp only[bind_assoc];have Ik:Inv X (pins++[(ks,seqObj "list" acc.toArray m)]) σ H s:=I.pins_of fun p hp=>by
           rcases z5x.mp hp with q | q
           · exact I.pin p (z5c _ q)
           · rw[z5g.mp q];exact⟨gk,nk,hL,hf,fun v e=>by cases e⟩
         obtain⟨cs,hcs,rk⟩:=zek C Ik hE hS cl is kv (fun _ h=>h) (by
           rw[C.at_,<-C.names,z8o];rfl) hkv
         rw[C.names]at hcs;refine z43 (z9v (thn (zk9 (A:=X.A.in1.in1) (Q:=fun v H'=>∃ρ',Ext ρ H ρ' H'/\StOk X.K X.mg ρ' H' S1/\Rep X.K X.mg ρ' H' d' v) cal (C.hn Ik) (C.isc Ik) (C.nodup Ik) (C.nst Ik) (C.nb Ik) hcs rk hr (fun e=>e.in1.in1) Ik hS na nc hA hC (RepL.cons rd1 RepL.nil) (.cons rv0 .nil) (by rw[hn1];rfl) hno hg hno' fun v ρ' H' E' hS' r'=>⟨ρ',E',hS',r'⟩) fun q s' hq=>?_));obtain⟨v',H1,I1,rv,ρ1,E1,hS1,r1⟩:=hq;obtain⟨gk1,nk1,_⟩:=I1.pin (ks,seqObj "list" acc.toArray m) (z5c _ (z5c _ (z5g.mpr rfl)));have I2:Inv X pins σ H1 s':=I1.unpinned;dsimp only;refine z43 (z43 (listUpdate_at (f:=fun x=>x.push q) gk1 rfl ?_ (hsz2:=by
           show(acc.toArray.push q).size<=_;rw[z6c,z5f,z60];rw[List.length_cons]at hl;omega)))
         refine z5n ?_;show wpAny (model X.prog X.w) X.A.in1.in1 (forIn us PUnit.unit fun x _=>zld aL items (.ref a) (.ref ks) x) (fun _ s'=>R s') E _;have keep:∀b o,b≠ks->s'.heap.get? b=some o->(s'.heap.update ks (Obj.mapSeq fun x=>x.push q)).get? b=some o:=fun b o nb e=>by rw[z7h _ _ _ _ nb];exact e
         have I3:=I2.turned (t':=s'.toks) keep nk1 hL h1 h2 h3;obtain⟨m2,gk2⟩:∃m2,(s'.heap.update ks (Obj.mapSeq fun x=>x.push q)).get? ks=some (seqObj "list" (acc++[q]).toArray m2):=by
           have e:=get?_update_seq gk1 (fun x=>x.push q);have e2:acc.toArray.push q=(acc++[q]).toArray:=by simp
           rw[e2]at e;exact⟨_,e⟩
         refine zhg cal C hr hkv hL h1 h2 h3 hf items ds us vs kd' (accD++[d']) (accV++[v']) (acc++[q]) m2 _ H1 ρ1 S1 S2 (hE.mono E1) hS1 (rd2.mono E1) rv1 ((ra.mono E1).append (RepL.cons r1 RepL.nil)) (va.append (.cons rv .nil)) (E1.out hA na) (E1.out hC nc) (E1.keep _ _ hA na) (E1.keep _ _ hC nc) hk1 I3 gk2 nk1 (by rw[z42];rw[List.length_cons]at hl;simp;omega) fun keysV keys m3 s3 H3 ρ3 c0 c1 c2 c3 c4 c5 c6 c7=>?_;refine fin keysV keys m3 s3 H3 ρ3 (E1.trans c0) c1 ?_ c3 (by rw[c4,z42,List.length_cons];simp;omega) c5 c6 c7;rw[z5i]at c2;exact c2
       · cases hk
     · cases hk
end
def kn(ks:List D):Nat:=x5 (ks.headD (.int 0))
def zna(ks ds:List D):Option (List D):=if kn ks<4/\(∀d∈ks,x5 d=kn ks)/\(ks.map zf9).Pairwise (·≠·)then some ((j9 (fun p:List Int×D=>p.1) ((ks.map zf9).zip ds)).map (·.2))else none
def zhq(f:E)(g:G)(j:Nat)(y:Str)(t:LT)(is:List Nat):E:=fun ev S=>(f ev S).bind fun p=>(z1x p.2 p.1).bind fun ds=>match p.2[j]? with
 |some (.tab y' u)=>if y'=y/\u=t.qual/\ds.length<=100000 then (za6 ev is).bind fun kv=>(zi0 g t.params.args.length kv ds p.2).bind fun q=>(zna q.1 ds).map fun r=>(.lst r,q.2)else none
 |_=>none
theorem zxm{K mg ρ H S x ds v}(hS:StOk K mg ρ H S)(r:Rep K mg ρ H x v)(e:z1x S x=some ds):∃l vs,v=.ref l/\SqL K H l vs/\RepL K mg ρ H ds vs:=by
 cases x with
 | lst xs=>
   cases e;unfold Rep at r;obtain⟨p,vs,rfl,t,rl⟩:=r;exact⟨p,vs,rfl,t.sq,rl⟩
 | obj i=>
   unfold Rep at r;obtain⟨a,rfl,ha⟩:=r;have e:(match S[i]? with | some (.lst ds)=>some ds | _=>none)=some ds:=e;split at e
   · rename_i ds' hd;cases e;obtain⟨b,hb,vs,h1,h2⟩:=hS.adr hd;rw[ha]at hb;cases hb;exact⟨a,vs,rfl,.inl (.inl h1),h2⟩
   · cases e
 |_=>cases e
theorem zrz{h:Heap}{vs:List Value}{b:Addr}{o:Obj}(e:h.get? b=some o):(Srt.colHeap h vs).get? b=some o:=by unfold Srt.colHeap;refine z48 _ ?_;rw[z7h _ _ _ _ (z5q (z5l e))];exact z48 _ e
theorem zsc{h:Heap}{a:Addr}{vs:List Value}{b:Addr}{o:Obj}(ne:b≠a)(e:h.get? b=some o):(Srt.askHeap h a vs).get? b=some o:=by unfold Srt.askHeap;refine z48 _ (z48 _ ?_);rw[z7h _ _ _ _ ne];exact e
theorem zp1{h:Heap}{a:Addr}{vs:List Value}:(Srt.askHeap h a vs).get? (h.objs.size+1)=some (seqObj "list" ([]:List Value).toArray 0):=by
 unfold Srt.askHeap;have:((h.update a (Obj.mapSeq fun _=>#[])).push (seqObj "tuple" vs.toArray 0)).objs.size=h.objs.size+1:=by rw[qal,z8h]
 rw[<-this];exact z53 _ rfl
theorem zw2{α β γ δ:Type}:∀(ks:List α) (is:List β) (vs:List γ) (ds:List δ),ks.length=is.length->is.length=vs.length->vs.length=ds.length->(ks.zip (is.zip (vs.zip ds))).map (fun z=>(z.1,z.2.1))=ks.zip is
 | [],_,_,_,_,_,_=>by simp
 |k::ks,[],_,_,h,_,_=>by cases h
 |k::ks,i::is,[],_,_,h,_=>by cases h
 |k::ks,i::is,v::vs,[],_,_,h=>by cases h
 | k::ks,i::is,v::vs,d::ds,h1,h2,h3=>by simp only[List.zip_cons_cons,z5j];rw[zw2 ks is vs ds (z9r h1) (z9r h2) (z9r h3)]
theorem zw1{α β γ δ ε:Type}(f:α->ε):∀(ks:List α) (is:List β) (vs:List γ) (ds:List δ),ks.length=is.length->is.length=vs.length->vs.length=ds.length->(ks.zip (is.zip (vs.zip ds))).map (fun z=>(f z.1,z.2.2.2))=(ks.map f).zip ds
 | [],_,_,_,_,_,_=>by simp
 |k::ks,[],_,_,h,_,_=>by cases h
 |k::ks,i::is,[],_,_,h,_=>by cases h
 |k::ks,i::is,v::vs,[],_,_,h=>by cases h
 | k::ks,i::is,v::vs,d::ds,h1,h2,h3=>by simp only[List.zip_cons_cons,z5j];rw[zw1 f ks is vs ds (z9r h1) (z9r h2) (z9r h3)]
theorem zmu{K mg ρ H}:∀{ds:List D}{vs:List V}{us:List Value},RepL K mg ρ H ds vs->Vals vs us->∀z∈us.zip (vs.zip ds),RelV z.2.1 z.1/\Rep K mg ρ H z.2.2 z.2.1
 | [],_,_,r,q,z,hz=>by unfold RepL at r;subst r;cases q;cases hz
 | d::ds,_,_,r,q,z,hz=>by
   unfold RepL at r;obtain⟨v,vs,rfl,r1,r2⟩:=r;cases q with
   | cons q1 q2=>
     rcases z5p.mp hz with rfl | hz
     · exact⟨q1,r1⟩
     · exact zmu r2 q2 z hz
theorem zjt{α:Type}{f:α->V}{g:α->Value}:∀{l:List α},(∀z∈l,RelV (f z) (g z))->Vals (l.map f) (l.map g)
 | [],_=>.nil
 |z::l,h=>.cons (h z z5d) (zjt fun y hy=>h y (z46 _ hy))
theorem zj6{K mg ρ H}{α:Type}{f:α->D}{g:α->V}:∀{l:List α},(∀z∈l,Rep K mg ρ H (f z) (g z))->RepL K mg ρ H (l.map f) (l.map g)
 | [],_=>RepL.nil
 |z::l,h=>RepL.cons (h z z5d) (zj6 fun y hy=>h y (z46 _ hy))
theorem zjk:bootBuiltins "sorted"=some (.builtin "sorted"):=by with_unfolding_all rfl
section
variable {X:Cx}{k j:Nat}{y:Str}{g:G}{f:E}{t:LT}{cl:zLA}{is:List Nat}{e le:Expr}{p pos kp:Pos}
theorem zro(cal:CCal X.prog X.w X.K X.mg X.base k t g)(C:CapsOk X t cl is)(hr:Room (k+2) X.A)(he:FE X e f)(hl:PE X le (z3b X.K X.mg j y t cl))(hm:X.mg "sorted"=none)(hg:Gl X "sorted":=by rfl)
   (hs:starEach [e] X.env=(false,eval e X.env)::starEach [] X.env:=by exact z9 rfl):FE X (.Call (.Name "sorted" p) [e] [⟨some "key",le,kp⟩] pos) (zhq f g j y t is):=by
 intro pins s σ H Q I h;obtain⟨ρ,ev,S,d,S',hE,hS,hf,kk⟩:=h;unfold zhq at hf;obtain⟨⟨x,S1⟩,q1,hf1⟩:=zy hf;clear hf;obtain⟨ds,q2,hf0⟩:=zy hf1;clear hf1;dsimp only at hf0;split at hf0
 · rename_i y' u hj;split at hf0
   · rename_i hyu;obtain⟨rfl,rfl,hlen⟩:=hyu;obtain⟨kv,q3,hf⟩:=zy hf0;obtain⟨⟨kd,S2⟩,q4,hf⟩:=zy hf;obtain⟨r,q5,hf⟩:=zaq hf;cases hf;refine z6w (zdy I hg hm zjk ?_ (by decide) (by decide));have hb0:backTo pos (starEach [e] X.env)=(false,eval e X.env)::backTo pos (starEach [] X.env):=by rw[hs];rfl
     refine callWith_kw ?_ hb0 (by rw[hb0];rfl);refine thn (zb he ze hs pos pins s σ H (fun vs H1=>∃ρ1 v,vs=[v]/\Ext ρ H ρ1 H1/\StOk X.K X.mg ρ1 H1 S1/\Rep X.K X.mg ρ1 H1 x v) I ⟨ρ,ev,S,[x],S1,hE,hS,by unfold aC;rw[q1];rfl,fun vs ρ1 H1 E1 hS1 r1=>?_⟩) fun us s1 ⟨vs,H1,I1,rv,ρ1,v,ev1,E1,hS1,r1⟩=>?_
     · unfold RepL at r1;obtain⟨v,r',rfl,h1,h2⟩:=r1;unfold RepL at h2;subst h2;exact⟨ρ1,v,rfl,E1,hS1,h1⟩
     · subst ev1;cases rv with
       | @cons _ uu _ _ rv0 rv1=>
         cases rv1;refine kws_cons (thn (hl pins s1 σ H1 (fun v H2=>∃a c pm ct,v=.ref a/\Ext ρ1 H1 ρ1 H2/\StOk X.K X.mg ρ1 H2 S1/\a∉ρ1/\c∉ρ1/\H2 a=some (.ext (zje t cl a c pm ct))/\H2 c=some (.ext (yw c t.qual))) I1 ⟨ρ1,S1,hS1,hj,fun a c pm ct H' E' hS' na nc h1 h2=>⟨a,c,pm,ct,rfl,E',hS',na,nc,h1,h2⟩⟩) fun kfv s2 ⟨vk,H2,I2,rk,a,c,pm,ct,ek,E2,hS2,na,nc,hA,hC⟩=>kws_nil ?_);subst ek;obtain rfl:kfv=Value.ref a:=rk;show wpAny _ _ (call (.builtin "sorted") [uu] [(("key":Str),.ref a)]) _ _ _;obtain⟨l,vs,ev2,sq,rl⟩:=zxm hS2 (r1.mono E2) q2;subst ev2;obtain rfl:uu=Value.ref l:=rv0;obtain⟨its,rvs,pl,hz⟩:=I2.list sq;have l1:vs.length=its.length:=rvs.length;have l2:ds.length=vs.length:=rl.length;refine Srt.sorted_key pl.isList rfl (by omega) fun e1 he1=>?_;have szc:(Srt.colHeap s2.heap its).objs.size+1=s2.heap.objs.size+3:=by rw[Srt.col_size]
         have keep:∀b o,s2.heap.get? b=some o->(Srt.askHeap (Srt.colHeap s2.heap its) (s2.heap.objs.size+1) its).get? b=some o:=fun b o e=>zsc (z5q (z8w (z5l e))) (zrz e);have gks:(Srt.askHeap (Srt.colHeap s2.heap its) (s2.heap.objs.size+1) its).get? (s2.heap.objs.size+3)=some (seqObj "list" ([]:List Value).toArray 0):=by rw[<-szc];exact zp1
         have I3:Inv X pins σ H2 { s2 with heap:=Srt.askHeap (Srt.colHeap s2.heap its) (s2.heap.objs.size+1) its }:=I2.kept (t':=s2.toks) keep;have fr:∀n,H2 (s2.heap.objs.size+n)=none:=fun n=>I2.hok.fresh (z5h _ _);have nl:∀n,s2.heap.objs.size+n≠X.env.locals:=fun n z=>absurd I2.lt (by rw[<-z];exact z8i.mpr (z5h _ _));have ncell:∀n x c,X.env.cells.lookup x=some c->c≠s2.heap.objs.size+n:=fun n x c e z=>by obtain⟨v,o,ho,_⟩:=I2.cell x c e;have:=z5l ho;rw[z]at this;exact absurd this (z8i.mpr (z5h _ _))
         have npin:∀n,∀p∈X.pn++pins,p.1≠s2.heap.objs.size+n:=fun n p hp z=>by have:=z5l (I2.pin p hp).1;rw[z]at this;exact absurd this (z8i.mpr (z5h _ _))
         have I4:Inv X (pins++[(s2.heap.objs.size+1,seqObj "list" #[] e1)]) σ H2 { s2 with heap:=Srt.askHeap (Srt.colHeap s2.heap its) (s2.heap.objs.size+1) its }:=I3.pins_of fun p hp=>by
           rcases z5x.mp hp with q | q
           · exact I3.pin p (z5c _ q)
           · rw[z5g.mp q];exact⟨he1,fr 1,nl 1,I2.nofs (z5h _ _),fun v e=>by cases e⟩
         rw[zf8];refine zhg cal C hr.in1.in1 q3 (nl 3) (.inr (z5u I2.sz (z5h _ _))) (ncell 3) (fun p hp=>?_) (I2.nofs (z5h _ _)) _ ds its vs kd [] [] [] 0 _ H2 ρ1 S1 S2 ((hE.mono E1).mono E2) hS2 rl rvs RepL.nil .nil na nc hA hC q4 I4 gks (fr 3) (by simp;omega) fun keysV keys m s5 H5 ρ5 E5 hS5 rk vk lk I5 gk nk=>?_
         · rw[<-z5i]at hp;rcases z5x.mp hp with q | q
           · exact npin 3 p q
           · rw[z5g.mp q];show s2.heap.objs.size+1≠s2.heap.objs.size+3;omega
         · obtain⟨ga,na5,_⟩:=I5.pin (s2.heap.objs.size+1,seqObj "list" #[] e1) (z5c _ (z5c _ (z5g.mpr rfl)));rw[List.nil_append]at rk;have lk:keys.length=its.length:=by simpa using lk
           unfold zna at q5;split at q5
           · rename_i hc;cases q5;obtain⟨hn4,hkn,hpw⟩:=hc;obtain⟨sh,em⟩:=zsu I5 hn4 rk vk hkn;have hU:∀x:Keyed,x∈keys.zip its->zfp s5.heap (kn kd) x.1 (zc5 s5.heap x.1):=fun x hx=>sh _ (z7w (a:=x.1) (b:=x.2) hx).1;obtain⟨kdd,hcmp,hkk⟩:=znf (prog:=X.prog) (w:=X.w) (A:=X.A.in1.in1) (E:=X.xe) (U:=fun x=>x∈keys.zip its) (kc:=fun x=>zc5 s5.heap x.1) hn4 hU;have pwk:(keys.zip its).Pairwise (fun x y=>zc5 s5.heap x.1≠zc5 s5.heap y.1):=by
               rw[<-em,z9l]at hpw;have:((keys.zip its).map (·.1)).Pairwise (fun a b=>zc5 s5.heap a≠zc5 s5.heap b):=by rw[List.map_fst_zip (by omega)];exact hpw
               rw[z9l]at this;exact this
             refine⟨keys,m,kdd,fun x=>x∈keys.zip its,fun x=>zc5 s5.heap x.1,gk,ga,lk,fun h2=>hkk keys (by omega) fun v hv=>⟨_,sh v hv⟩,hcmp,fun x hx=>hx,pwk,fun out ho hs _=>?_⟩;have eo:=zii (c:=fun x:Keyed=>zc5 s5.heap x.1) ho hs pwk;have m1:=zbf (c:=fun z:Value×Value×V×D=>zc5 s5.heap z.1) (c':=fun x:Keyed=>zc5 s5.heap x.1) (fun z=>(z.1,z.2.1)) (fun _=>rfl) (keys.zip (its.zip (vs.zip ds)));have m2:=zbf (c:=fun z:Value×Value×V×D=>zc5 s5.heap z.1) (c':=fun p:List Int×D=>p.1) (fun z=>(zc5 s5.heap z.1,z.2.2.2)) (fun _=>rfl) (keys.zip (its.zip (vs.zip ds)));rw[zw2 keys its vs ds lk l1.symm l2.symm]at m1;rw[zw1 (zc5 s5.heap) keys its vs ds lk l1.symm l2.symm,em]at m2;rw[m1]at eo;have zr:∀z∈j9 (fun z:Value×Value×V×D=>zc5 s5.heap z.1) (keys.zip (its.zip (vs.zip ds))),RelV z.2.2.1 z.2.1/\Rep X.K X.mg ρ5 H5 z.2.2.2 z.2.2.1:=fun z hz=>
               zmu (rl.mono E5) rvs z.2 (z7w (a:=z.1) (b:=z.2) ((xf _).mem_iff.mp hz)).2
             have e2:out.map (·.2)=(j9 (fun z:Value×Value×V×D=>zc5 s5.heap z.1) (keys.zip (its.zip (vs.zip ds)))).map (fun z=>z.2.1):=by rw[eo,z8o];rfl
             have e3:(j9 (fun p:List Int×D=>p.1) ((kd.map zf9).zip ds)).map (·.2)=(j9 (fun z:Value×Value×V×D=>zc5 s5.heap z.1) (keys.zip (its.zip (vs.zip ds)))).map (fun z=>z.2.2.2):=by rw[m2,z8o];rfl
             have rvals:Vals ((j9 (fun z:Value×Value×V×D=>zc5 s5.heap z.1) (keys.zip (its.zip (vs.zip ds)))).map (fun z=>z.2.2.1)) (out.map (·.2)):=by rw[e2];exact zjt fun z hz=>(zr z hz).1
             have rreps:RepL X.K X.mg ρ5 H5 ((j9 (fun p:List Int×D=>p.1) ((kd.map zf9).zip ds)).map (·.2)) ((j9 (fun z:Value×Value×V×D=>zc5 s5.heap z.1) (keys.zip (its.zip (vs.zip ds)))).map (fun z=>z.2.2.1)):=by rw[e3];exact zj6 fun z hz=>(zr z hz).2
             have lo:(out.map (·.2)).length=its.length:=by rw[z7j,ho.length_eq,List.length_zip,lk,Nat.min_self]
             have szl:((j9 (fun z:Value×Value×V×D=>zc5 s5.heap z.1) (keys.zip (its.zip (vs.zip ds)))).map (fun z=>z.2.2.1)).length<=sizeLine:=by rw[rvals.length,lo];omega
             have I6:=I5.turned (t':=s5.toks) (it:=s2.heap.objs.size+3) (h':=s5.heap.update (s2.heap.objs.size+3) (Obj.mapSeq fun _=>#[])) (fun b o nb e=>by rw[z7h _ _ _ _ nb];exact e) nk (nl 3) (.inr (z5u I2.sz (z5h _ _))) (ncell 3) (fun p hp=>by
               rw[<-z5i]at hp;rcases z5x.mp hp with q | q
               · exact npin 3 p q
               · rw[z5g.mp q];show s2.heap.objs.size+1≠s2.heap.objs.size+3;omega)
             have ga6:(s5.heap.update (s2.heap.objs.size+3) (Obj.mapSeq fun _=>#[])).get? (s2.heap.objs.size+1)=some (seqObj "list" #[] e1):=by rw[z7h _ _ _ _ (z5q (z7x (by decide) _))];exact ga
             have I7:=(Inv.unpinned I6).turned (t':=s5.toks) (it:=s2.heap.objs.size+1) (h':=(s5.heap.update (s2.heap.objs.size+3) (Obj.mapSeq fun _=>#[])).update (s2.heap.objs.size+1) (Obj.mapSeq fun _=>(out.map (·.2)).toArray)) (fun b o nb e=>by rw[z7h _ _ _ _ nb];exact e) na5 (nl 1) (.inr (z5u I2.sz (z5h _ _))) (ncell 1) (npin 1);have ga7:=get?_update_seq ga6 (fun _=>(out.map (·.2)).toArray);have I8:=Inv.track I7 na5 ga7 rvals szl (.inr (z5u I2.sz (z5h _ _))) (nl 1) (ncell 1) (npin 1);exact⟨.ref (s2.heap.objs.size+1),_,I8,rfl,kk _ ρ5 _ (((E1.trans E2).trans E5).trans (jh hS5 _ na5)) (hS5.new _ na5) (Rep.lst (s:=hS5) na5 rreps)⟩
           · cases q5
   · cases hf0
 · cases hf0
end
end F
namespace F
open PySem L2 PySem.Spec PySem.Calls PyProof.Rows PySem.W
def isInt:D->Bool
 | .int _=>true
 |_=>false
def zfo(kv:List D):Bool:=kv.all isInt
def CellI(h:Heap):zLA->List D->Prop
 | [],[]=>True
 |p::cl,d::kv=>(∃(o:Obj) (n:Int) (tk:Tok),d=.int n/\h.get? p.2=some o/\o.data=.cell (some (.int n tk)))/\CellI h cl kv
 |_,_=>False
structure ForC (X:Cx) (t:LT) (cl:zLA) (kv:List D):Prop where
 names:cl.map (·.1)=t.caps
 nd:(cl.map (·.2)).Nodup
 vals:CellI X.s₀.heap cl kv
 hn:∀b∈cl.map (·.2),X.H₀ b=none
 nex:∀b∈cl.map (·.2),b∉X.ex
 nfs:∀b∈cl.map (·.2),b∉X.fs
 nst:∀b∈cl.map (·.2),b∉frs X.stack
 nb:∀b∈cl.map (·.2),X.base.get? b=none
theorem CellI.at_{h:Heap}:∀{cl:zLA}{kv:List D},CellI h cl kv->∀b∈cl.map (·.2),∃o n tk,h.get? b=some o/\o.data=.cell (some (.int n tk))
 | [],[],_,b,hb=>by cases hb
 | p::cl,d::kv,q,b,hb=>by
   rw[z5j]at hb;rcases z5p.mp hb with rfl | hb
   · obtain⟨⟨o,n,tk,_,h1,h2⟩,_⟩:=q;exact⟨o,n,tk,h1,h2⟩
   · exact CellI.at_ q.2 b hb
 | [],_::_,q,_,_=>q.elim
 |_::_,[],q,_,_=>q.elim
section
variable {X:Cx}{pins:zAO}{σ:L2.St}{H:Hp}{s:Shared}{t:LT}{cl:zLA}{is:List Nat}{kv:List D}{ρ:List Addr}{ev:Ev}{S:Sto}
theorem zlc(C:CapsOk X t cl is)(I:Inv X pins σ H s)(hE:EnvR X.K X.mg ρ H ev σ) :
   ∀(cl':zLA) (js:List Nat) (vs:List D),(∀p∈cl',p∈cl)->js.map (fun i=>X.N[i]?)=cl'.map (fun p=>some p.1)->za6 ev js=some vs->zfo vs=true->CellI s.heap cl' vs
 | [],[],vs,_,_,h,_=>by cases h;trivial
 | [],_::_,_,_,e,_,_=>by cases e
 |_::_,[],_,_,e,_,_=>by cases e
 | p::cl',i::js,vs,hm,e,h,hi=>by
   rw[z5j,z5j]at e;obtain⟨e1,e2⟩:=qam e;unfold za6 at h;split at h
   · rename_i d hd;obtain⟨vs',hv,h⟩:=zaq h;subst h;unfold zfo at hi;rw[List.all_cons,z6l]at hi;obtain⟨v,hσ,rd⟩:=hE.at_ i d hd;obtain⟨m,hns,hl⟩:=I.loc;have hp:=hm p z5d;have hpm:p.1∈t.caps:=C.names▸z6h hp;have kd:=C.kind _ hpm;obtain⟨u,ru,lk⟩:=hl i p.1 v e1 hσ (.inr (.inl kd));refine⟨?_,zlc C I hE cl' js vs' (fun q hq=>hm q (z46 _ hq)) e2 hv hi.2⟩;rcases lk with⟨k1,_⟩ | ⟨_,c,z1,o,z2,z3⟩
     · have:X.env.scope.names.lookup p.1=some .local:=k1;rw[kd]at this;cases this
     · rw[C.look p hp]at z1;cases z1;cases d with
       | int n=>
         unfold Rep at rd;subst rd;obtain⟨tk,rfl⟩:=ru;exact⟨o,n,tk,rfl,z2,z3⟩
       |_=>exact absurd hi.1 z6m
   · cases h
theorem zv3{scope:Scope}{x:Str}{N':List Str}{C:Addr}{fp:List Addr}(CO:CapsOk X t cl is)(hint:zfo kv=true)(I:Inv X pins σ H s)(hE:EnvR X.K X.mg ρ H ev σ)(hkv:za6 ev is=some kv)(f2:∀b∈fp,zmr X pins H b):ForC (jw X (x::N') scope s H C fp) t cl kv :=
 ⟨CO.names,CO.nodup I,zlc CO I hE cl is kv (fun _ h=>h) (by rw[CO.at_,<-CO.names,z8o];rfl) hkv hint,CO.hn I,fun b hb z=>by
   obtain⟨p,hp,rfl⟩:=z72.mp hb;exact(f2 _ z).2.2.2.2.1 p.1 p.2 (CO.look p hp) rfl,CO.nst I,CO.nst I,CO.nb I⟩
theorem zhv{h:Heap}:∀{cl:zLA}{kv:List D}{cl0:zLA},CellI h cl kv->(∀p∈cl,p∈cl0)->(∀b∈cl0.map (·.2),H b=none)->StOk X.K X.mg ρ H S->∃us,Cells ρ (trk H h cl0) (cl.map (·.1)) us cl/\RepL X.K X.mg ρ H kv us
 | [],[],_,_,_,_,_=>⟨[],trivial,RepL.nil⟩
 | p::cl,d::kv,cl0,q,hm,hn,hS=>by obtain⟨⟨o,n,tk,rfl,h1,h2⟩,q2⟩:=q;obtain⟨us,c1,r1⟩:=zhv q2 (fun z hz=>hm z (z46 _ hz)) hn hS;have hb:p.2∈cl0.map (·.2):=z6h (hm p z5d);exact⟨.int n::us,⟨rfl,hS.fresh (hn _ hb),⟨o,.int n tk,by unfold trk;rw[zbk hb,h1];rfl,h2,⟨tk,rfl⟩⟩,c1⟩,RepL.cons rfl r1⟩
 | [],_::_,_,q,_,_,_=>q.elim
 |_::_,[],_,q,_,_,_=>q.elim
end
open Classical in
def zpk(is:List Nat)(kv:List D)(f:E):E:=fun ev S=>if za6 ev is=some kv then f ev S else none
theorem zfk{is:List Nat}{kv:List D}{f:E}{ev:Ev}{S:Sto}{r:D×Sto}(h:zpk is kv f ev S=some r):za6 ev is=some kv/\f ev S=some r:=by
 unfold zpk at h;split at h
 · rename_i e;exact⟨e,h⟩
 · cases h
theorem zrx{is:List Nat}{kv:List D}{f:E}{ev:Ev}{S:Sto}(h:za6 ev is=some kv):zpk is kv f ev S=f ev S:=by unfold zpk;rw[z5s h]
def zma(is:List Nat)(F:List D->E):E:=fun ev S=>(za6 ev is).bind fun kv=>if zfo kv=true then F kv ev S else none
section
variable {X:Cx}{is:List Nat}{F:List D->E}{e:Expr}{st:Stmt}{iy:Nat}
theorem zv1(h:∀kv,zfo kv=true->FS X st (qp iy (zpk is kv (F kv)))):FS X st (qp iy (zma is F)):=fun pins s σ H Q I h'=>by
 obtain⟨ρ,ev,S,o,S',hE,hS,hf,k⟩:=h';obtain⟨p,hf,h2⟩:=zaq hf;obtain⟨kv,q,hf⟩:=zy hf;split at hf
 · rename_i hi;exact h kv hi pins s σ H Q I ⟨ρ,ev,S,o,S',hE,hS,by unfold qp;rw[zrx q,hf];exact z7a some h2,k⟩
 · cases hf
end
open Classical in
def zfm(g:G)(q:Nat)(t:LT)(cl:zLA)(kv:List D)(a:As):E:=fun ev S=>match ev[q]? with
 |some (some (.lam t'))=>if t'={ t with cl:=cl }then (a ev S).bind fun p=>if(noCL p.1&&noCL kv&&noCS p.2)=true/\p.1.length=t.params.args.length then (g (p.1++kv) p.2).bind fun r=>if(noC r.1&&noCS r.2)=true then some r else none else none else none
 |_=>none
section
variable {X:Cx}{k q:Nat}{x:Str}{g:G}{a:As}{t:LT}{cl:zLA}{kv:List D}{e:Expr}{es:List Expr}{p pos:Pos}
theorem zrr(cal:CCal X.prog X.w X.K X.mg X.base k t g)(fc:ForC X t cl kv)(hr:Room k X.A)(hf:FE X (.Name x p) (eV q))(ha:FA X (e::es) a)
   (ht:eval (.Call (.Name x p) (e::es) [] pos) X.env=(eval (.Name x p) X.env >>= fun v=>callWith pos v [] (backTo pos (starEach (e::es) X.env)) (backToKw pos (keywordEach [] X.env))):=by rfl)
   (he:starEach (e::es) X.env=(false,eval e X.env)::starEach es X.env:=by exact z9 rfl) (hpl:(backTo pos (starEach es X.env)).any (·.1)=false:=by exact qx rfl) :
   FE X (.Call (.Name x p) (e::es) [] pos) (zfm g q t cl kv a):=by
 intro pins s σ H Q I h;obtain⟨ρ,ev,S,d,S',hE,hS,hf',kk⟩:=h;unfold zfm at hf';split at hf'
 · rename_i t' hq;split at hf'
   · rename_i htt;subst htt;obtain⟨⟨ds,S2⟩,q2,hf'⟩:=zy hf';dsimp only at hf';split at hf'
     · rename_i hno;obtain⟨hno,hlen⟩:=hno;obtain⟨⟨d1,S3⟩,q3,hf'⟩:=zy hf';dsimp only at hf';split at hf'
       · rename_i hno';cases hf';rw[ht];refine z43 (thn (hf pins s σ H (fun v H1=>∃ρ1 a0,v=.ref a0/\Ext ρ H ρ1 H1/\StOk X.K X.mg ρ1 H1 S/\LamAt ρ1 H1 { t with cl:=cl } a0) I ⟨ρ,ev,S,.lam { t with cl:=cl },S,hE,hS,by simp[eV,hq],fun v ρ1 H1 E1 hS1 r1=>?_⟩) fun u s1 ⟨v,H1,I1,rv,ρ1,a0,ev1,E1,hS1,L1⟩=>?_)
         · unfold Rep at r1;obtain⟨b,rfl,L⟩:=r1;exact⟨ρ1,b,rfl,E1,hS1,L⟩
         · subst ev1;obtain rfl:u=Value.ref a0:=rv;obtain⟨n0,c,pm,ct,nc,hA,hC⟩:=L1;have hA:H1 a0=some (.ext (zje t cl a0 c pm ct)):=hA;have hC:H1 c=some (.ext (yw c t.qual)):=hC;have at_:∀{H':Hp}{s':Shared},Inv X pins σ H' s'->H' a0=some (.ext (zje t cl a0 c pm ct))->FnAt a0 s'.heap:=fun J e=>⟨_,_,_,_,(J.hok a0 _ e).1⟩
           refine callWith_F (at_ I1 hA) (thn (ha pos pins s1 σ H1 (fun vs H2=>∃ρ2,Ext ρ1 H1 ρ2 H2/\StOk X.K X.mg ρ2 H2 S2/\RepL X.K X.mg ρ2 H2 ds vs) I1 ⟨ρ1,ev,S,ds,S2,hE.mono E1,hS1,q2,fun vs ρ2 H2 E2 hS2 r2=>⟨ρ2,E2,hS2,r2⟩⟩) fun us s2 ⟨vs,H2,I2,r,ρ2,E2,hS2,r2⟩=>⟨at_ I2 (E2.keep _ _ hA n0),?_⟩) he hpl;have cb:∀b∈cl.map (·.2),∃o n tk,s2.heap.get? b=some o/\o.data=.cell (some (.int n tk))/\H2 b=none:=fun b hb=>by obtain⟨o,n,tk,z1,z2⟩:=fc.vals.at_ b hb;exact⟨o,n,tk,I2.base.keep b o z1 (fc.hn b hb) (fc.nfs b hb) (fc.nex b hb),z2,I2.base.free b o z1 (fc.hn b hb) (fc.nex b hb)⟩
           have ci2:∀{cl':zLA}{kv':List D},(∀p∈cl',p∈cl)->CellI X.s₀.heap cl' kv'->CellI s2.heap cl' kv':=fun {cl'}=>by
             induction cl' with
             | nil=>
               intro kv' _ h;cases kv' with
               |nil=>trivial
               |cons _ _=>exact h.elim
             | cons p cl' ih=>
               intro kv' hm h;cases kv' with
               |nil=>exact h.elim
               | cons d kv'=>
                 obtain⟨⟨o,n,tk,z0,z1,z2⟩,z3⟩:=h;have hb:p.2∈cl.map (·.2):=z6h (hm p z5d);exact⟨⟨o,n,tk,z0,I2.base.keep p.2 o z1 (fc.hn _ hb) (fc.nfs _ hb) (fc.nex _ hb),z2⟩,ih (fun z hz=>hm z (z46 _ hz)) z3⟩
           have hn2:∀b∈cl.map (·.2),H2 b=none:=fun b hb=>let⟨_,_,_,_,_,z⟩:=cb b hb;z;obtain⟨cs,hcs,rk⟩:=zhv (X:=X) (cl0:=cl) (ci2 (fun _ h=>h) fc.vals) (fun _ h=>h) hn2 hS2;rw[fc.names]at hcs;exact zk9 (A:=X.A) cal hn2 (fun b hb=>let⟨o,n,tk,z1,z2,_⟩:=cb b hb;⟨o,_,z1,z2⟩) fc.nd fc.nst fc.nb hcs rk hr (fun e=>e) I2 hS2 (E2.out hA n0) (E2.out hC nc) (E2.keep _ _ hA n0) (E2.keep _ _ hC nc) r2 r hlen hno q3 hno' fun v ρ' H' E' hS' r'=>kk v ρ' H' ((E1.trans E2).trans E') hS' r'
       · cases hf'
     · cases hf'
   · cases hf'
 · cases hf'
end
end F
namespace F
open PySem L2 PySem.Spec PyProof.Rows
def RA(X:Cx)(es:List Expr)(r:R):Prop:=∀(pos:Pos) (pins:zAO) (s:Shared) (σ:L2.St) (H:Hp) (E:XK) (Q:List Value->Shared->Prop),XE X pins σ E->Inv X pins σ H s->tR X.K X.mg r σ H E->wpAny (model X.prog X.w) X.A (spliced (backTo pos (starEach es X.env))) Q X.xe s
def zls(f:E)(r:R):R:=fun ev S=>(f ev S).bind fun p=>r ev p.2
section
variable {X:Cx}{k:Nat}{x:Str}{g:G}{e:Expr}{es:List Expr}{f:E}{r:R}{p pos:Pos}
theorem zuw(he:RE X e r)(hst:starEach (e::es) X.env=(false,eval e X.env)::starEach es X.env:=by exact z9 rfl):RA X (e::es) r:=by intro pos pins s σ H E Q hx I t;rw[hst];show wpAny _ _ (spliced ((false,eval e X.env)::backTo pos (starEach es X.env))) _ _ s;exact z98 (he pins s σ H E _ hx I t)
theorem zno(he:FE X e f)(hr:RA X es r)(hst:starEach (e::es) X.env=(false,eval e X.env)::starEach es X.env:=by exact z9 rfl):RA X (e::es) (zls f r):=by intro pos pins s σ H E Q hx I t;rw[hst];show wpAny _ _ (spliced ((false,eval e X.env)::backTo pos (starEach es X.env))) _ _ s;obtain⟨ρ,ev,S,c,S',hE,hS,hf,C,hC,kk⟩:=t;obtain⟨⟨y,S1⟩,q1,hf⟩:=zy hf;exact z98 (thn (he pins s σ H (fun v H1=>tR X.K X.mg r σ H1 E) I ⟨ρ,ev,S,y,S1,hE,hS,q1,fun v ρ1 H1 E1 hS1 r1=>⟨ρ1,ev,S1,c,S',hE.mono E1,hS1,hf,C,hC,fun e ρ' H' E' hS'=>kk e ρ' H' (E1.trans E') hS'⟩⟩) fun v s1 ⟨_,H1,I1,_,t1⟩=>hr pos pins s1 σ H1 E _ hx I1 t1)
theorem zqu(cal:Cal X.prog X.w X.K X.mg X.base k x g)(hr:RA X (e::es) r)(hg:Gl X x:=by rfl)(hdb:(x==("__debug__":Str))=false:=by decide)
   (he:starEach (e::es) X.env=(false,eval e X.env)::starEach es X.env:=by exact z9 rfl) (hpl:(backTo pos (starEach es X.env)).any (·.1)=false:=by exact qx rfl) :
   RE X (.Call (.Name x p) (e::es) [] pos) r:=by
 obtain⟨f,fd,ps,ds,dvs,dds,gg,F,hm,hk,hb,hd,hdd,hgg⟩:=cal.ex;intro pins s σ H E Q hx I t;refine z6w (zax I hg hm ?_ hdb);exact z7l (h₀:=X.base) I.ok.mod.kin hk (hr pos pins s σ H E _ hx I t) he hpl
end
end F
namespace F
open PySem L2 PySem.Spec PySem.Calls PyProof.Rows PySem.W
abbrev Src:=Ev->Sto->Option ((List D×Option Nat)×Sto)
def okG(us:List D):Option Nat->Sto->Prop
 |none,_=>True
 |some a,S=>S[a]? = some (.lst us)
def zbs(us:List D)(o:Option Nat)(c:B)(g:E)(fr:Ev):List D->Sto->Option (List D×Sto):=match o with
 |none=>zme c g fr
 |some a=>yn a us c g fr
section
variable {us:List D}{o:Option Nat}{c:B}{g:E}{fr:Ev}
theorem zry{ds:List D}{S:Sto}{r:List D×Sto}(h:zbs us o c g fr ds S=some r):okG us o S:=by
 cases o with
 |none=>trivial
 |some a=>exact zpq h
theorem zpp{S:Sto}(h:okG us o S):zbs us o c g fr [] S=some ([],S):=by
 cases o with
 |none=>rfl
 |some a=>exact zfn (c:=c) (g:=g) (fr:=fr) h
theorem zmd{d:D}{ds:List D}{S:Sto}(h:okG us o S):zbs us o c g fr (d::ds) S=(c (some d::fr) S).bind fun p=>if p.1=true then (g (some d::fr) p.2).bind fun q=>(zbs us o c g fr ds q.2).bind fun r=>some (q.1::r.1,r.2)else zbs us o c g fr ds p.2:=by
 cases o with
 |none=>rfl
 |some a=>exact zej h
end
def zsi(K:Frag)(mg:zMg)(J:It)(us:List D)(o:Option Nat)(ρ1:List Addr)(H1:Hp):Prop:=∀ρ' H' S',Ext ρ1 H1 ρ' H'->StOk K mg ρ' H' S'->okG us o S' ->
 (∀i d,us[i]? = some d->J.go i H'/\∀xv H5,J.yld i H' xv H5->H5=H'/\Rep K mg ρ' H' d xv)/\∀i,us.length<=i->J.stop i H'
def wiS(X:Cx)(f:Src):TI:=fun σ H R=>∃ρ ev S us o S1,EnvR X.K X.mg ρ H ev σ/\StOk X.K X.mg ρ H S/\f ev S=some ((us,o),S1)/\∀J ρ1 H1,Ext ρ H ρ1 H1->StOk X.K X.mg ρ1 H1 S1->zsi X.K X.mg J us o ρ1 H1->(∀pins σ s,Inv X pins σ H1 s->us.length<=sizeLine)->R J H1
def zw0(X:Cx)(tg l:Expr)(f:Src):Prop:=PI X tg l (wiS X f)
def z0v(X X':Cx)(us:List D)(o:Option Nat)(cn:B)(g:E)(fre:Ev)(t:L2.St)(fp:List Addr)(tn:Nat->Heap->Prop)(Dl:Addr)(ρ1:List Addr)(H2:Hp)(ds:List D)(Sf:Sto)(m:Nat)(st:Shared):Prop :=
 ∃(i:Nat) (ρ':List Addr) (H':Hp) (ys:List V) (its:List Value) (acc rest:List D) (Si:Sto) (w:Option V),m=us.length-i/\i<=us.length/\Inv X' [] (w::t) H' st/\tn i st.heap/\(∀b∈fp,H' b=none)/\H' Dl=none/\st.heap.PlainList Dl (List.toArray its)/\Vals ys its /\
   Ext ρ1 H2 ρ' H'/\StOk X.K X.mg ρ' H' Si/\RepL X.K X.mg ρ' H' acc ys/\acc.length<=i/\zbs us o cn g fre (us.drop i) Si=some (rest,Sf)/\ds=acc++rest
section
variable {X:Cx}{pins:zAO}{σ:L2.St}{H H2:Hp}{s s2:Shared}{scope:Scope}{x:Str}{N':List Str}{fr:List Nat}{fp:List Addr}{ρ ρ1:List Addr}{ds us:List D}{S S1 S2:Sto}{o:Option Nat}
def Fin(X:Cx)(s2:Shared)(H2:Hp)(fp:List Addr)(ρ1:List Addr)(ds:List D)(S2:Sto)(use:Option (Value->Sem Unit))(Q:zVP):Prop :=
 ∀(Dl C:Addr) (s4:Shared) (H':Hp) (ρ':List Addr) (mm:zMg) (ys:List V) (its:List Value) (nn:Nat),s2.heap.objs.size<=Dl->Dl<=C->Dl≠C->s4.heap.Ns C mm->H' C=none->Un (frs X.stack) fp H2 H' s2.heap s4.heap->HOk X.prog X.w H' s4.heap->s4.os=s2.os->AllBare s4.gens ->
   s4.heap.get? Dl=some { cls:=.type "list",data:=.seq (List.toArray its) nn }->H' Dl=none->Vals ys its->RepL X.K X.mg ρ' H' ds ys->ys.length<=sizeLine->Ext ρ1 H2 ρ' H'->StOk X.K X.mg ρ' H' S2->compPost (model X.prog X.w) X.A X.xe use Q (.ref Dl) C (.ok .next) s4
theorem zht{elt l:Expr}{ifs:List Expr}{px pos:Pos}{g:E}{cn:B}{ev:Ev}{J:It}{it:Addr}{tn:Nat->Heap->Prop}{use:Option (Value->Sem Unit)}{Q:zVP}(c:CompOk X scope x N' fr)(hc:X.calm=true)
   (hif:∀C,FT (jw X (x::N') scope s2 H2 C fp) ifs cn) (helt:∀C,FE (jw X (x::N') scope s2 H2 C fp) elt g)
   (I2:Inv X pins σ H2 s2) (T:Turn X.prog X.w X.K (.Name x px) J fp it tn) (st2:tn 0 s2.heap) (f2:∀b∈fp,zmr X pins H2 b) (hE1:EnvR X.K X.mg ρ1 H2 ev σ) (hS1:StOk X.K X.mg ρ1 H2 S1) (src:zsi X.K X.mg J us o ρ1 H2) (hz0:us.length<=sizeLine)
   (q2:zbs us o cn g (fr.map (zh8 ev)) us S1=some (ds,S2)) (fin:Fin X s2 H2 fp ρ1 ds S2 use Q) :
   wpAny (model X.prog X.w) X.A (newList []) (fun acc s₃=>wpAny (model X.prog X.w) X.A (newFunctionEnv scope X.env.globals (zhu X.env.cells scope.names []) [] X.env.qual none .none (some X.env)) (fun cenv s₄=>
       codeAny (model X.prog X.w) X.A (.compStart (.ListComp elt [⟨.Name x px,l,ifs,0⟩] scope pos) 0 (.ref it) acc { cenv with scope:=relabel scope X.env }) (compPost (model X.prog X.w) X.A X.xe use Q acc cenv.locals) s₄) X.xe s₃) X.xe s2:=by
 have hcell:∀y∈scope.names,y.2≠.cell:=fun y hy=>(c.chk y hy).1;refine z8s (wpAny_newFunctionEnv hcell (by intro y hy;simp at hy) (fun h₁ hns₁ hsb₁=>?_) c.kind);dsimp only at hns₁ hsb₁ ⊢;generalize hH2:s2.heap.push { cls:=.type "list",dict:=none,data:=.seq ([]:List Value).toArray }=G2 at hns₁ hsb₁ ⊢;have hC:G2.objs.size=s2.heap.objs.size+1:=by rw[<-hH2,qaf]
 have hDC:s2.heap.objs.size≠G2.objs.size:=by rw[hC];exact z5q (z9s _)
 have hCle:s2.heap.objs.size<=G2.objs.size:=by rw[hC];exact z9i _
 have old:∀b o,s2.heap.get? b=some o->h₁.get? b=some o:=fun b o e=>hsb₁.extBut b o (by rw[hC];exact z5q (z8w (z5l e))) (z48 _ (hH2▸z48 _ e));have hacc:h₁.PlainList s2.heap.objs.size #[]:=⟨_,hsb₁.extBut _ _ hDC (z48 _ (hH2▸z53 _ rfl))⟩
 generalize hDl:s2.heap.objs.size=Dl at hDC hCle hacc;generalize hCC:G2.objs.size=C at hDC hCle hns₁ hsb₁ hC ⊢;have hfl:∀b∈fp,b<Dl:=fun b hb=>by obtain⟨o,e,_⟩:=T.obj 0 _ st2 b hb;rw[<-hDl];exact z5l e
 have hHD:H2 Dl=none:=I2.hok.fresh (by rw[hDl];exact z44 _);have hDfs:Dl∉frs X.stack:=fun z=>by
   have z':=I2.stkFree Dl z;rcases z5p.mp (I2.stkSub Dl z)with e | e
   · have:=I2.lt;rw[hDl,<-e]at this;exact z69 _ this
   · exact I2.nofs (by rw[hDl];exact z44 _) e
 generalize hX':jw X (x::N') scope s2 H2 C fp=X';have I3:Inv X' [] (none::fr.map (zgx σ)) H2 { s2 with heap:=h₁,toks:=s2.toks+([]:List (Str×Value)).length }:=hX'▸c.start I2 f2 (by rw[hDl];exact hfl) (by rw[hDl];exact hCle) old hns₁;have hEf:EnvR X.K X.mg ρ1 H2 (none::fr.map (zh8 ev)) (none::fr.map (zgx σ)):=by
   refine⟨by simp,fun i d q=>?_⟩;cases i with
   |zero=>simp at q
   | succ i=>
     have q:(fr.map (zh8 ev))[i]? = some (some d):=by simpa using q
     rw[z6s]at q;cases ej:fr[i]? with
     |none=>rw[ej]at q;cases q
     | some jj=>
       rw[ej]at q;have q:zh8 ev jj=some d:=by simpa using q
       have hv:ev[jj]? = some (some d):=by
         unfold zh8 at q;split at q
         · rename_i o ho;rw[ho,q]
         · cases q
       obtain⟨v,e1,r⟩:=hE1.at_ jj d hv;refine⟨v,?_,r⟩;show(fr.map (zgx σ))[i]? = some (some v);rw[z6s,ej];show some (zgx σ jj)=_;unfold zgx;rw[e1]
 have eA:X'.A=X.A:=by rw[<-hX'];rfl
 have eP:X'.prog=X.prog:=by rw[<-hX'];rfl
 have eW:X'.w=X.w:=by rw[<-hX'];rfl
 have eK:X'.K=X.K:=by rw[<-hX'];rfl
 have eM:X'.mg=X.mg:=by rw[<-hX'];rfl
 have eEx:X'.ex=fp:=by rw[<-hX'];rfl
 have eS0:X'.s₀=s2:=by rw[<-hX'];rfl
 have eH0:X'.H₀=H2:=by rw[<-hX'];rfl
 have eFs:X'.fs=frs X.stack:=by rw[<-hX'];rfl
 have eL:X'.env.locals=C:=by rw[<-hX'];rfl
 have ePn:X'.pn=[]:=by rw[<-hX'];rfl
 have eEnv:X'.env=compEnvC scope (zhu X.env.cells scope.names []) C X.env:=by rw[<-hX'];rfl
 have eCalm:X'.calm=true:=by rw[<-hX'];exact hc
 have eXe:X'.xe=fun _ _=>False:=by rw[<-hX'];rfl
 have pgx:PG X' (.Name x px) (zhm 0):=by rw[<-hX'];exact zis c.nd rfl (.inl (lookup_relabel_local c.hx)) (.inr (lookup_relabel_local c.hx))
 have fel:FE X' elt g:=hX'▸helt C;have ftl:FT X' ifs cn:=hX'▸hif C;have cellLt:∀y a,X'.env.cells.lookup y=some a->a<Dl:=fun y a e=>by rw[eEnv]at e;obtain⟨v,q⟩:=I2.cell y a (zdh (fun _ _ h=>by cases h) y a e);rw[<-hDl];exact q.lt
 have stat:∀{H':Hp}{pl:zAO},(∀b∈fp,H' b=none)->(∀p∈pl,∀b∈fp,p.1≠b)->∀b∈fp,zmr X' pl H' b:=fun {H' pl} hn hp b hb=>
   ⟨hn b hb,by rw[eL];exact z5q (z45 (hfl b hb) hCle),by rw[eFs];intro z;rcases z5p.mp (I2.stkSub b z)with e | e;exact(f2 b hb).2.1 e;exact(f2 b hb).2.2.1 e,.inl (by rw[eEx];exact hb),fun y a e=>by
     rw[eEnv]at e;exact(f2 b hb).2.2.2.2.1 y a (zdh (fun _ _ h=>by cases h) y a e),fun p hpp=>hp p (by rw[ePn]at hpp;simpa using hpp) b hb⟩
 have loop:∀s₃:Shared,s₃={ s2 with heap:=h₁,toks:=s2.toks+([]:List (Str×Value)).length } ->
     codeAny (model X.prog X.w) X.A (.compLoop (.ListComp elt [⟨.Name x px,l,ifs,0⟩] scope pos) 0 (.ref it) (.ref Dl) (compEnvC scope (zhu X.env.cells scope.names []) C X.env))
       (compPost (model X.prog X.w) X.A X.xe use Q (.ref Dl) C) s₃:=by
   rintro s₃ rfl;refine codeAny_compLoop_tests (z0v X X' us o cn g (fr.map (zh8 ev)) (fr.map (zgx σ)) fp tn Dl ρ1 H2 ds S2) ?_ (us.length-0)
     ⟨0,ρ1,H2,[],[],[],ds,S1,none,rfl,z54 _,I3,T.keep _ _ _ st2 (fun b hb o e=>old b o e),fun b hb=>(f2 b hb).1,hHD,hacc,.nil,Ext.refl _ _,hS1,RepL.nil,z44 _,q2,rfl⟩
   intro m st hI;generalize notedBy (model X.prog X.w) X.A (compEnvC scope (zhu X.env.cells scope.names []) C X.env) (fun e s'=>compPost (model X.prog X.w) X.A X.xe use Q (.ref Dl) C (.error e) s')=EE;obtain⟨i,ρ',H',ys,its,acc,rest,Si,w,rfl,hi,I',tni,hfp',hD',⟨nn,hpl⟩,rv,E',hSi,ra,hal,hcl,hds⟩:=hI;have Ip:Inv X' [(Dl,{ cls:=.type "list",data:=.seq (List.toArray its) nn })] (w::fr.map (zgx σ)) H' st:=I'.pins_of fun p hp=>by rw[z5g.mp hp];exact⟨hpl,hD',by rw[eL];exact hDC,by rw[eFs];exact hDfs,fun v z=>by cases z⟩
   have hnp:∀p∈[(Dl,({ cls:=.type "list",data:=.seq (List.toArray its) nn }:Obj))],∀b∈fp,p.1≠b:=fun p hp b hb=>by rw[z5g.mp hp];exact z7q (z5q (hfl b hb))
   have gk:=zry hcl;obtain⟨srcI,srcE⟩:=src ρ' H' Si E' hSi gk;by_cases hlt:i<us.length
   · rw[z7i hlt,zmd gk]at hcl;obtain⟨⟨ok,Sc⟩,qc,hcl⟩:=zy hcl;obtain⟨go,yl⟩:=srcI i _ (z49 hlt);have ti:=T.item X' eP eW eK eCalm i [(Dl,{ cls:=.type "list",data:=.seq (List.toArray its) nn })] st (w::fr.map (zgx σ)) H' EE Ip (stat hfp' hnp) tni go;rw[eA]at ti;refine thn ti fun r s4 ⟨u,hr,h4⟩=>?_;subst hr;dsimp only;show wpAny (model X.prog X.w) X.A (letOwnedTupleGo (.Name x px) (.ref it) u >>= fun _=>assign (.Name x px) (compEnvC scope (zhu X.env.cells scope.names []) C X.env) u) _ _ _;refine z43 (thn h4 fun _ s5 ⟨xv,H5,I5,r5,y5,tn5,fp5⟩=>?_);obtain⟨eH5,rx0⟩:=yl _ _ y5;subst eH5;have I5':=I5.pinned (stat fp5 hnp) (T.obj _ _ tn5);have as5:=pgx _ s5 _ H5 _ u (fun σ' H'=>H'=H5/\σ'=(w::fr.map (zgx σ)).set 0 (some xv)) I5' r5 ⟨rfl,rfl⟩;rw[eP,eW,eA,eEnv,eXe]at as5;refine z7c as5 (fun _ s6 ⟨σ6,H6,I6,eH6,eσ6⟩=>?_) (fun _ _ z=>False.elim z);subst eH6 eσ6;have hE6:EnvR X.K X.mg ρ' H6 (some us[i]::fr.map (zh8 ev)) (some xv::fr.map (zgx σ)):=(hEf.mono E').set (i:=0) rx0;have tc6:=zzw ftl (Q:=fun b H7=>b=ok/\∃ρ7,Ext ρ' H6 ρ7 H7/\StOk X.K X.mg ρ7 H7 Sc) I6 ⟨ρ',_,Si,ok,Sc,by rw[eK,eM];exact hE6,by rw[eK,eM];exact hSi,qc,fun ρ7 H7 E7 hS7=>⟨rfl,ρ7,E7,by rw[eK,eM]at hS7;exact hS7⟩⟩;rw[eP,eW,eA,eEnv,eXe]at tc6;refine z7c tc6 (fun ok' s6 ⟨H6,I6,eok,ρ6,E6,hS6⟩=>?_) (fun _ _ z=>False.elim z);subst eok;have hE6:=hE6.mono E6;have hpin6:=I6.pin (Dl,{ cls:=.type "list",data:=.seq (List.toArray its) nn }) (z5c _ (z6k _ (z5g.mpr rfl)));cases ok' with
     | false=>
       have hcl:zbs us o cn g (fr.map (zh8 ev)) (us.drop (i+1)) Sc=some (rest,S2):=hcl;rw[z5y z6m];have I8:Inv X' [] (some xv::fr.map (zgx σ)) H6 s6:=I6.pins_of fun p hp=>by cases hp
       have tn8:tn (i+1) s6.heap:=T.keep _ _ _ tn5 fun b hb o e=>(I6.pin (b,o) (z5c _ (z5c _ (kl hb e)))).1;refine⟨us.length-(i+1),by omega,i+1,ρ6,H6,ys,its,acc,rest,Sc,_,rfl,by omega,I8,tn8,fun b hb=>?_,hpin6.2.1,⟨nn,hpin6.1⟩,rv,E'.trans E6,hS6,ra.mono E6,by omega,hcl,hds⟩;obtain⟨o,e,dd⟩:=T.obj _ _ tn5 b hb;exact(I6.pin (b,o) (z5c _ (z5c _ (kl hb e)))).2.1
     | true=>
       rw[z5s rfl];have hcl:(g (some us[i]::fr.map (zh8 ev)) Sc).bind (fun q=>(zbs us o cn g (fr.map (zh8 ev)) (us.drop (i+1)) q.2).bind fun r=>some (q.1::r.1,r.2))=some (rest,S2):=hcl;obtain⟨⟨yv,Sn⟩,qe,hcl⟩:=zy hcl;obtain⟨⟨rest',Se⟩,qr,hcl⟩:=zy hcl;cases hcl;have el6:=fel _ s6 _ H6 (fun v H7=>∃ρ7,Ext ρ6 H6 ρ7 H7/\StOk X.K X.mg ρ7 H7 Sn/\Rep X.K X.mg ρ7 H7 yv v) I6 ⟨ρ6,_,Sc,yv,Sn,by rw[eK,eM];exact hE6,by rw[eK,eM];exact hS6,qe,fun v ρ7 H7 E7 hS7 r7=>⟨ρ7,E7,by rw[eK,eM]at hS7;exact hS7,by rw[eK,eM]at r7;exact r7⟩⟩;rw[eP,eW,eA,eEnv,eXe]at el6;refine z7c el6 (fun u7 s7 ⟨v7,H7,I7,r7,ρ7,E7,hS7,rp7⟩=>?_) (fun _ _ z=>False.elim z);have hpin:=I7.pin (Dl,{ cls:=.type "list",data:=.seq (List.toArray its) nn }) (z5c _ (z6k _ (z5g.mpr rfl)));have hvl:=rv.length;have hral:=ra.length;refine wpAny_list_append_plain ⟨nn,hpin.1⟩ (fun h8 hp8 hsb8=>?_) (by rw[z5f];omega);have I8:Inv X' [] (some xv::fr.map (zgx σ)) H7 { s7 with heap:=h8 }:=by
         have I7':Inv X' [] (some xv::fr.map (zgx σ)) H7 s7:=I7.pins_of fun p hp=>by cases hp
         exact I7'.turned (it:=Dl) (t':=s7.toks) (fun b o hb e=>(hsb8.2 b hb).trans e) hpin.2.1 (by rw[eL];exact hDC) (.inr (by rw[eS0,hDl];exact z44 _)) (fun y a e=>z5q (cellLt y a e)) (fun p hp=>by rw[ePn]at hp;cases hp)
       have tn8:tn (i+1) h8:=T.keep _ _ _ tn5 fun b hb o e=>by have:=(I7.pin (b,o) (z5c _ (z5c _ (kl hb e)))).1;exact(hsb8.2 b (z5q (hfl b hb))).trans this
       refine⟨us.length-(i+1),by omega,i+1,ρ7,H7,ys++[v7],its++[u7],acc++[yv],rest',Sn,_,rfl,by omega,I8,tn8,fun b hb=>?_,hpin.2.1,?_,rv.append (.cons r7 .nil),(E'.trans E6).trans E7,hS7,((ra.mono E6).mono E7).append (RepL.cons rp7 RepL.nil),by simp;omega,qr,by simp[hds]⟩
       · obtain⟨o,e,dd⟩:=T.obj _ _ tn5 b hb;exact(I7.pin (b,o) (z5c _ (z5c _ (kl hb e)))).2.1
       · rw[show(its++[u7]).toArray=its.toArray.push u7 by simp];exact hp8
   · have ei:i=us.length:=by omega
     have td:=T.done X' eP eW eK eCalm i [(Dl,{ cls:=.type "list",data:=.seq (List.toArray its) nn })] st (w::fr.map (zgx σ)) H' EE Ip (stat hfp' hnp) tni (srcE i (by omega));rw[eA]at td;refine thn td fun r s4 ⟨hr,I4⟩=>?_;subst hr;dsimp only;rw[List.drop_eq_nil_of_le (by omega),zpp gk]at hcl;cases hcl;rw[z50]at hds;subst hds;obtain⟨mm,hns,_⟩:=id I4.loc;rw[eL]at hns;have hpin:=I4.pin (Dl,{ cls:=.type "list",data:=.seq (List.toArray its) nn }) (z5c _ (z5g.mpr rfl));have hHC:H' C=none:=by have:=I4.free;rw[eL]at this;exact this
     have bs:=I4.base;rw[eFs,eEx,eH0,eS0]at bs;have hok4:=I4.hok;rw[eP,eW]at hok4;have os4:=I4.os;rw[eS0]at os4;have hvl:=rv.length;have hral:=ra.length;exact fin Dl C s4 H' ρ' mm ys its nn (by rw[hDl];exact z44 _) hCle hDC hns hHC bs hok4 os4 I4.bare hpin.1 hD' rv ra (by omega) E' hSi
 exact codeAny_compStart_list (loop _ rfl) (T.self X.A 0 _ _ _ (T.keep _ _ _ st2 (fun b hb o e=>old b o e)) (loop _ rfl))
theorem zwe(I2:Inv X pins σ H2 s2)(f2:∀b∈fp,zmr X pins H2 b){Q:VK}(kk:∀l ys ρ' H',Ext ρ1 H2 ρ' H'->StOk X.K X.mg ρ' H' S2->H' l=none->RepL X.K X.mg ρ' H' ds ys->Q (.ref l) (upd H' l (.lst ys))):Fin X s2 H2 fp ρ1 ds S2 none (EP X pins σ Q):=by
 intro Dl C s4 H' ρ' mm ys its nn hDl2 hCle hDC hns hHC bs hok4 os4 bare4 hpin hD' rv ra hz E' hSi;refine⟨mm,hns,fun h' hs'=>?_⟩;have nC:∀b o,s2.heap.get? b=some o->b≠C:=fun b o e z=>by have:=z5l e;rw[z]at this;exact z69 _ (z45 this (z5u hDl2 hCle))
 have un:Un (frs X.stack) fp H2 H' s2.heap h' :=
   ⟨fun b o e n h1 h2=>(hs'.2 b (nC b o e)).trans (bs.keep b o e n h1 h2),fun b o e n h1 h2=>by
     obtain⟨sl,q⟩:=bs.slot b o e n h1 h2;exact⟨sl,(hs'.2 b (nC b o e)).trans q⟩,bs.free,fun b o e h2=>by
     obtain⟨o',q⟩:=bs.there b o e h2;exact⟨o',(hs'.2 b (nC b o e)).trans q⟩,bs.tups,bs.frzs,bs.tbls⟩
 have I9:Inv X pins σ H' { s4 with heap:=h' }:=I2.call' (s':={ s4 with heap:=h' }) os4 un (zik hok4 hs' hHC) bare4 fun b hb=>by obtain⟨_,a1,a2,a3,a4,a5⟩:=f2 b hb;exact⟨a3,a1,a4,a5⟩
 have I10:Inv X pins σ (upd H' Dl (.lst ys)) { s4 with heap:=h' }:=Inv.track (its:=its) (n:=nn) I9 hD' ((hs'.2 Dl hDC).trans hpin) rv hz (.inr (z5u I2.sz hDl2)) (z7q (z5q (z45 I2.lt hDl2)))
   (fun y a e=>by
     obtain⟨v,q⟩:=I2.cell y a e;exact z5q (z45 q.lt hDl2)) (fun q hq=>z5q (z45 (z5l (I2.pin q hq).1) hDl2))
 exact⟨.ref Dl,upd H' Dl (.lst ys),I10,rfl,kk Dl ys ρ' H' E' hSi hD' ra⟩
theorem zwf{iy:Nat}{yy:Str}{py:Pos}{EN:Ends}(I2:Inv X pins σ H2 s2)(f2:∀b∈fp,zmr X pins H2 b)(hN:X.N.Nodup)(hiy:X.N[iy]? = some yy)(hyy:Loc X.env.scope yy)(hfy:X.fn yy=true\/X.env.scope.names.lookup yy=some .local)
   (kk:∀l ys ρ' H',Ext ρ1 H2 ρ' H'->StOk X.K X.mg ρ' H' S2->H' l=none->RepL X.K X.mg ρ' H' ds ys->EN.nx (σ.set iy (some (.ref l))) (upd H' l (.lst ys))):Fin X s2 H2 fp ρ1 ds S2 (some (assign (.Name yy py) X.env)) (fun _ s'=>SP X pins EN .next s'):=by
 intro Dl C s4 H' ρ' mm ys its nn hDl2 hCle hDC hns hHC bs hok4 os4 bare4 hpin hD' rv ra hz E' hSi;have I9:Inv X pins σ H' s4:=I2.call' (s':=s4) os4 bs hok4 bare4 fun b hb=>by obtain⟨_,a1,a2,a3,a4,a5⟩:=f2 b hb;exact⟨a3,a1,a4,a5⟩
 have cl2:∀y a,X.env.cells.lookup y=some a->a<Dl:=fun y a e=>by obtain⟨v,q⟩:=I2.cell y a e;exact z45 q.lt hDl2
 have pl2:∀q∈X.pn++pins,q.1<Dl:=fun q hq=>z45 (z5l (I2.pin q hq).1) hDl2;have ll2:X.env.locals<Dl:=z45 I2.lt hDl2;have I10:Inv X pins σ (upd H' Dl (.lst ys)) s4:=Inv.track (its:=its) (n:=nn) I9 hD' hpin rv hz (.inr (z5u I2.sz hDl2)) (z7q (z5q ll2))
   (fun y a e=>z5q (cl2 y a e)) (fun q hq=>z5q (pl2 q hq))
 refine wpAny_assign_Name (zg5 I10 hN hiy hyy (v:=.ref Dl) rfl (fun s5 I5 ⟨aa,sb,ha⟩=>?_) hfy);have hCa:C≠aa:=by
   rcases ha with rfl | ha
   · exact z7q (z5q (z45 ll2 hCle))
   · exact z7q (z5q (z45 (cl2 _ _ ha) hCle))
 refine⟨mm,hns.sameBut sb hCa,fun h' hs'=>?_⟩;have hnC:upd H' Dl (.lst ys) C=none:=by rw[qd (z7q hDC)];exact hHC
 have I6:=I5.turned (it:=C) (t':=s5.toks) (h':=h') (fun b o hb e=>(hs'.2 b hb).trans e) hnC (z7q (z5q (z45 ll2 hCle))) (.inr (z5u I2.sz (z5u hDl2 hCle)))
   (fun y a e=>z5q (z45 (cl2 y a e) hCle)) (fun q hq=>z5q (z45 (pl2 q hq) hCle))
 exact⟨_,_,I6,kk Dl ys ρ' H' E' hSi hD' ra⟩
end
def zj1(f:E):Src:=fun ev S=>(f ev S).bind fun p=>match p.1 with
 | .lst us=>some ((us,none),p.2)
 | .tup us=>some ((us,none),p.2)
 | .obj a=>(match p.2[a]? with
   |some (.lst us)=>some ((us,some a),p.2)
   |_=>none)
 |_=>none
section
variable {X:Cx}{tg l:Expr}{f:E}
theorem zqf(hl:FE X l f):zw0 X tg l (zj1 f):=by
 intro pins s σ H R I h;obtain⟨ρ,ev,S,us,o,S1,hE,hS,hf,k⟩:=h;obtain⟨⟨y,S2⟩,q1,hf⟩:=zy hf;cases y with
 | lst us'=>
   cases hf;refine zir hl pins s σ H R I ⟨ρ,ev,S,.lst us,S2,hE,hS,q1,fun v ρ1 H1 E1 hS1 r1=>?_⟩;obtain⟨p,vs,rfl,t1,rL⟩:=r1.refL;refine⟨p,rfl,⟨vs,t1.sq⟩,k _ ρ1 H1 E1 hS1 (fun ρ' H' S' E' hS' _=>⟨fun i d hd=>?_,fun i hi=>⟨vs,(t1.mono E').sq,by rw[<-rL.length];exact hi⟩⟩) fun _ _ _ J=>by obtain⟨_,_,_,z⟩:=J.list t1.sq;rw[rL.length];exact z⟩;obtain⟨xv,ex,rx⟩:=(rL.mono E').get hd;exact⟨⟨vs,xv,(t1.mono E').sq,ex⟩,fun u H5 ⟨e,y⟩=>⟨e,by have:=y vs (t1.mono E').sq;rw[ex]at this;cases this;exact rx⟩⟩
 | tup us'=>
   cases hf;refine zyc hl pins s σ H R I ⟨ρ,ev,S,.tup us,S2,hE,hS,q1,fun v ρ1 H1 E1 hS1 r1=>?_⟩;obtain⟨p,vs,rfl,t1,rL⟩:=r1.refT;refine⟨p,rfl,⟨vs,t1.sq⟩,k _ ρ1 H1 E1 hS1 (fun ρ' H' S' E' hS' _=>⟨fun i d hd=>?_,fun i hi=>⟨vs,(t1.mono E').sq,by rw[<-rL.length];exact hi⟩⟩) fun _ _ _ J=>by obtain⟨_,_,_,z⟩:=J.tuple t1.sq;rw[rL.length];exact z⟩;obtain⟨xv,ex,rx⟩:=(rL.mono E').get hd;exact⟨⟨vs,xv,(t1.mono E').sq,ex⟩,fun u H5 ⟨e,y⟩=>⟨e,by have:=y vs (t1.mono E').sq;rw[ex]at this;cases this;exact rx⟩⟩
 | obj a=>
   dsimp only at hf;split at hf
   · rename_i us' hau;cases hf;refine zir hl pins s σ H R I ⟨ρ,ev,S,.obj a,S1,hE,hS,q1,fun v ρ1 H1 E1 hS1 r1=>?_⟩;unfold Rep at r1;obtain⟨p,rfl,hp⟩:=r1;obtain⟨vs,h1,r⟩:=hS1.ob _ _ p hau hp;refine⟨p,rfl,⟨vs,SqL.of h1⟩,k _ ρ1 H1 E1 hS1 (fun ρ' H' S' E' hS' ok=>?_) fun _ _ _ J=>by obtain⟨_,_,_,z⟩:=J.list (SqL.of h1);rw[r.length];exact z⟩;obtain⟨vs',h1',r'⟩:=hS'.ob _ _ p ok (E'.pre _ _ hp);refine⟨fun i d hd=>?_,fun i hi=>⟨vs',SqL.of h1',by rw[<-r'.length];exact hi⟩⟩;obtain⟨xv,ex,rx⟩:=r'.get hd;exact⟨⟨vs',xv,SqL.of h1',ex⟩,fun u H5 ⟨e,y⟩=>⟨e,by have:=y vs' (SqL.of h1');rw[ex]at this;cases this;exact rx⟩⟩
   · cases hf
 |_=>cases hf
end
open Classical in
def eGd(p:Ev->Prop)(f:E):E:=fun ev S=>if p ev then f ev S else none
theorem zk4{p:Ev->Prop}{f:E}{ev:Ev}{S:Sto}{r:D×Sto}(h:eGd p f ev S=some r):p ev/\f ev S=some r:=by
 unfold eGd at h;split at h
 · rename_i e;exact⟨e,h⟩
 · cases h
theorem ztu{p:Ev->Prop}{f:E}{ev:Ev}{S:Sto}(h:p ev):eGd p f ev S=f ev S:=by unfold eGd;rw[z5s h]
def xw(fr:List Nat)(f:Src)(c:B)(g:E):E:=fun ev S=>(f ev S).bind fun p=>(zbs p.1.1 p.1.2 c g (fr.map (zh8 ev)) p.1.1 p.2).map fun q=>(.lst q.1,q.2)
def zpj(fr:List Nat)(f:Src)(c:B)(g:E):E:=fun ev S=>(f ev S).bind fun p=>(zbs p.1.1 p.1.2 c g (fr.map (zh8 ev)) p.1.1 p.2).map fun q=>(.obj q.2.length,q.2++[.lst q.1])
section
variable {X:Cx}{scope:Scope}{x:Str}{N':List Str}{fr:List Nat}{elt l:Expr}{ifs:List Expr}{px pos py spos:Pos}{yy:Str}{f:Src}{g:E}{cn:B}{p:Ev->Prop}{iy:Nat}
def Blk(X:Cx)(x:Str)(N':List Str)(scope:Scope)(p:Ev->Prop)(P:Cx->Prop):Prop:=∀{pins σ H s ρ ev fp C},Inv X pins σ H s->EnvR X.K X.mg ρ H ev σ->p ev->(∀b∈fp,zmr X pins H b)->P (jw X (x::N') scope s H C fp)
theorem zsw{K:Frag}{mg:zMg}{ρ:List Addr}{H:Hp}{S:Sto}{l:Addr}{ys:List V}{ds:List D}(hS:StOk K mg ρ H S)(hn:H l=none)(ra:RepL K mg ρ H ds ys):Ext ρ H (ρ++[l]) (upd H l (.lst ys))/\StOk K mg (ρ++[l]) (upd H l (.lst ys)) (S++[.lst ds])/\Rep K mg (ρ++[l]) (upd H l (.lst ys)) (.obj S.length) (.ref l):=by have ea:=zco hS (.lst ys) hn;refine⟨ea,hS.add hn ⟨ys,qo,ra.mono ea⟩,?_⟩;unfold Rep;refine⟨l,rfl,?_⟩;rw[z5t (by rw[hS.len]<;>exact z44 _),hS.len];simp
theorem zz8{P:Cx->Prop}(c:CompOk X scope x N' fr)(src:zw0 X (.Name x px) l f)(hb:Blk X x N' scope p P)(hif:∀s₀ H₀ C ex,P (jw X (x::N') scope s₀ H₀ C ex)->FT (jw X (x::N') scope s₀ H₀ C ex) ifs cn)(helt:∀s₀ H₀ C ex,P (jw X (x::N') scope s₀ H₀ C ex)->FE (jw X (x::N') scope s₀ H₀ C ex) elt g)
   (hc:X.calm=true:=by rfl) (hs:∀v,foldedSetIterable l X.env v=pure v:=by intro _;rfl) (new:Bool):FE X (.ListComp elt [⟨.Name x px,l,ifs,0⟩] scope pos) (eGd p (if new then zpj fr f cn g else xw fr f cn g)):=by
 intro pins s σ H Q I h;obtain⟨ρ,ev,S,d,S',hE,hS,hf,k⟩:=h;obtain⟨hp,hf⟩:=zk4 hf;obtain⟨⟨us,o⟩,S1,ds,S2,q1,q2,hd⟩:∃(w:List D×Option Nat) (S1:Sto) (ds:List D) (S2:Sto),f ev S=some (w,S1)/\zbs w.1 w.2 cn g (fr.map (zh8 ev)) w.1 S1=some (ds,S2)/\(if new then (d,S')=(.obj S2.length,S2++[.lst ds])else (d,S')=(.lst ds,S2)):=by
   cases new
   · obtain⟨⟨w,S1⟩,q1,hf⟩:=zy hf;obtain⟨⟨ds,S2⟩,q2,hf⟩:=zaq hf;exact⟨w,S1,ds,S2,q1,q2,hf.symm⟩
   · obtain⟨⟨w,S1⟩,q1,hf⟩:=zy hf;obtain⟨⟨ds,S2⟩,q2,hf⟩:=zaq hf;exact⟨w,S1,ds,S2,q1,q2,hf.symm⟩
 rw[eval_ListComp];refine wpAny_comprehension_free (use:=none) rfl hs (zb9 fun p hp e=>I.ok.has p.1 (.inl ((c.chk p hp).2.1 e))) c.kind (fun y hy e=>(c.chk y hy).2.2 e) ?_;refine thn (src pins s σ H (fun J H1=>∃ρ1,Ext ρ H ρ1 H1/\StOk X.K X.mg ρ1 H1 S1/\zsi X.K X.mg J us o ρ1 H1/\(∀pins σ s,Inv X pins σ H1 s->us.length<=sizeLine)) I ⟨ρ,ev,S,us,o,S1,hE,hS,q1,fun J ρ1 H1 E1 hS1 sk hz=>⟨ρ1,E1,hS1,sk,hz⟩⟩) fun v s1 h1=>thn h1 fun itv s2 h2=>?_;obtain⟨it,fp,tn,J,H2,e,I2,T,st2,f2,ρ1,E1,hS1,sk,hz⟩:=h2;subst e;have hE1:=hE.mono E1;refine zht c hc (fun C=>hif _ _ _ _ (hb I2 hE1 hp f2)) (fun C=>helt _ _ _ _ (hb I2 hE1 hp f2)) I2 T st2 f2 hE1 hS1 sk (hz _ _ _ I2) q2 (zwe I2 f2 fun l ys ρ' H' E' hS' hn ra=>?_);cases new
 · cases hd;exact k _ ρ' _ (E1.trans (E'.trans (jh hS' _ hn))) (hS'.new _ hn) (Rep.lst (s:=hS') hn ra)
 · cases hd;obtain⟨ea,sa,rr⟩:=zsw hS' hn ra;exact k _ _ _ (E1.trans (E'.trans ea)) sa rr
theorem zz9{P:Cx->Prop}(new:Bool)(c:CompOk X scope x N' fr)(src:zw0 X (.Name x px) l f)(hb:Blk X x N' scope p P)(hif:∀s₀ H₀ C ex,P (jw X (x::N') scope s₀ H₀ C ex)->FT (jw X (x::N') scope s₀ H₀ C ex) ifs cn)(helt:∀s₀ H₀ C ex,P (jw X (x::N') scope s₀ H₀ C ex)->FE (jw X (x::N') scope s₀ H₀ C ex) elt g)(hN:X.N.Nodup)
   (hsw:swapsWith (.ListComp elt [⟨.Name x px,l,ifs,0⟩] scope pos) (some (.Name yy py)) spos.line X.env=pure true:=by rfl)
   (hiy:X.N[iy]? = some yy:=by rfl) (hyy:Loc X.env.scope yy:=by first | exact Or.inl rfl | exact Or.inr rfl) (hfy:X.fn yy=true\/X.env.scope.names.lookup yy=some .local:=by first | exact .inl rfl | exact .inr rfl | assumption)
   (hc:X.calm=true:=by rfl) (hs:∀v,foldedSetIterable l X.env v=pure v:=by intro _;rfl) :
   FS X (.Assign [.Name yy py] (.ListComp elt [⟨.Name x px,l,ifs,0⟩] scope pos) spos) (qp iy (eGd p (if new then zpj fr f cn g else xw fr f cn g))):=by
 intro pins s σ H EN I h;obtain⟨ρ,ev,S,oo,S',hE,hS,hf,k⟩:=h;obtain⟨⟨d,SS⟩,hf1,hf0⟩:=zaq hf;clear hf;cases hf0;obtain⟨hp,hf⟩:=zk4 hf1;clear hf1;obtain⟨⟨us,o⟩,S1,ds,S2,q1,q2,hd⟩:∃(w:List D×Option Nat) (S1:Sto) (ds:List D) (S2:Sto),f ev S=some (w,S1)/\zbs w.1 w.2 cn g (fr.map (zh8 ev)) w.1 S1=some (ds,S2)/\(if new then (d,SS)=(.obj S2.length,S2++[.lst ds])else (d,SS)=(.lst ds,S2)):=by
   cases new
   · obtain⟨⟨w,S1⟩,q1,hf⟩:=zy hf;obtain⟨⟨ds,S2⟩,q2,hf⟩:=zaq hf;exact⟨w,S1,ds,S2,q1,q2,hf.symm⟩
   · obtain⟨⟨w,S1⟩,q1,hf⟩:=zy hf;obtain⟨⟨ds,S2⟩,q2,hf⟩:=zaq hf;exact⟨w,S1,ds,S2,q1,q2,hf.symm⟩
 rw[exec_Assign_Name_used _ _ _ _ hsw];refine z43 (wpAny_standAt (z43 ?_));show wpAny _ X.A (do let _ <-comprehension (.ListComp elt [⟨.Name x px,l,ifs,0⟩] scope pos) scope X.env _ (newList []) false (eval l X.env) (some (assign (.Name yy py) X.env))) _ _ s;refine z43 (z7c (wpAny_comprehension_free (use:=some (assign (.Name yy py) X.env)) (Q:=fun _ s'=>SP X pins EN .next s') rfl hs (zb9 fun p hp e=>I.ok.has p.1 (.inl ((c.chk p hp).2.1 e))) c.kind (fun y hy e=>(c.chk y hy).2.2 e) ?_) (fun _ s' hq=>z5n (z5n hq)) fun _ _ e=>e);refine thn (src pins s σ H (fun J H1=>∃ρ1,Ext ρ H ρ1 H1/\StOk X.K X.mg ρ1 H1 S1/\zsi X.K X.mg J us o ρ1 H1/\(∀pins σ s,Inv X pins σ H1 s->us.length<=sizeLine)) I ⟨ρ,ev,S,us,o,S1,hE,hS,q1,fun J ρ1 H1 E1 hS1 sk hz=>⟨ρ1,E1,hS1,sk,hz⟩⟩) fun v s1 h1=>thn h1 fun itv s2 h2=>?_;obtain⟨it,fp,tn,J,H2,e,I2,T,st2,f2,ρ1,E1,hS1,sk,hz⟩:=h2;subst e;have hE1:=hE.mono E1;refine zht c hc (fun C=>hif _ _ _ _ (hb I2 hE1 hp f2)) (fun C=>helt _ _ _ _ (hb I2 hE1 hp f2)) I2 T st2 f2 hE1 hS1 sk (hz _ _ _ I2) q2 (zwf I2 f2 hN hiy hyy hfy fun l ys ρ' H' E' hS' hn ra=>?_);cases new
 · cases hd;have ext:=E1.trans (E'.trans (jh hS' (.lst ys) hn));exact k _ ρ' _ ext (hS'.new _ hn) ((hE.mono ext).set (Rep.lst (s:=hS') hn ra) iy)
 · cases hd;obtain⟨ea,sa,rr⟩:=zsw hS' hn ra;have ext:=E1.trans (E'.trans ea);exact k _ _ _ ext sa ((hE.mono ext).set rr iy)
end
section
variable {X:Cx}{scope:Scope}{x:Str}{N':List Str}{fr:List Nat}{elt l:Expr}{ifs:List Expr}{px pos py spos:Pos}{yy:Str}{f:Src}{g:E}{cn:B}{iy:Nat}
theorem zz7{e:Expr}{f f':E}(h:FE X e f)(m:∀ev S r,f' ev S=some r->f ev S=some r):FE X e f':=fun pins s σ H Q I ⟨ρ,ev,S,d,S',hE,hS,hf,k⟩=>h pins s σ H Q I ⟨ρ,ev,S,d,S',hE,hS,m _ _ _ hf,k⟩
theorem zzz{st:Stmt}{f f':E}(h:FS X st (qp iy f))(m:∀ev S r,f' ev S=some r->f ev S=some r):FS X st (qp iy f'):=fun pins s σ H Q I ⟨ρ,ev,S,d,S',hE,hS,hf,k⟩=>h pins s σ H Q I ⟨ρ,ev,S,d,S',hE,hS,by
 obtain⟨r,h1,h2⟩:=zaq hf;unfold qp;rw[m _ _ _ h1];exact z7a some h2,k⟩
theorem z2t(new:Bool)(c:CompOk X scope x N' fr)(src:zw0 X (.Name x px) l f)(hif:∀s₀ H₀ C ex,FT (jw X (x::N') scope s₀ H₀ C ex) ifs cn)(helt:∀s₀ H₀ C ex,FE (jw X (x::N') scope s₀ H₀ C ex) elt g)
   (hc:X.calm=true:=by rfl) (hs:∀v,foldedSetIterable l X.env v=pure v:=by intro _;rfl):FE X (.ListComp elt [⟨.Name x px,l,ifs,0⟩] scope pos) (if new then zpj fr f cn g else xw fr f cn g) :=
 zz7 (zz8 (p:=fun _=>True) (P:=fun _=>True) c src (fun _ _ _ _=>trivial) (fun _ _ _ _ _=>hif _ _ _ _) (fun _ _ _ _ _=>helt _ _ _ _) hc hs new) fun _ _ _ h=>(ztu trivial).trans h
theorem zv6(c:CompOk X scope x N' fr)(src:zw0 X (.Name x px) l f)(hif:∀s₀ H₀ C ex,FT (jw X (x::N') scope s₀ H₀ C ex) ifs cn)(helt:∀s₀ H₀ C ex,FE (jw X (x::N') scope s₀ H₀ C ex) elt g)
   (hc:X.calm=true:=by rfl) (hs:∀v,foldedSetIterable l X.env v=pure v:=by intro _;rfl):FE X (.ListComp elt [⟨.Name x px,l,ifs,0⟩] scope pos) (xw fr f cn g):=z2t false c src hif helt hc hs
theorem z2r(iy:Nat){t:LT}{cl:zLA}{is:List Nat}{cn:List D->B}(c:CompOk X scope x N' fr)(src:zw0 X (.Name x px) l f)(CO:CapsOk X t cl is)(hif:∀kv s₀ H₀ C ex,ForC (jw X (x::N') scope s₀ H₀ C ex) t cl kv->FT (jw X (x::N') scope s₀ H₀ C ex) ifs (cn kv))(helt:∀s₀ H₀ C ex,FE (jw X (x::N') scope s₀ H₀ C ex) elt g)(hN:X.N.Nodup)
   (hsw:swapsWith (.ListComp elt [⟨.Name x px,l,ifs,0⟩] scope pos) (some (.Name yy py)) spos.line X.env=pure true:=by rfl)
   (hiy:X.N[iy]? = some yy:=by rfl) (hyy:Loc X.env.scope yy:=by first | exact Or.inl rfl | exact Or.inr rfl) (hfy:X.fn yy=true\/X.env.scope.names.lookup yy=some .local:=by first | exact .inl rfl | exact .inr rfl | assumption)
   (hc:X.calm=true:=by rfl) (hs:∀v,foldedSetIterable l X.env v=pure v:=by intro _;rfl):FS X (.Assign [.Name yy py] (.ListComp elt [⟨.Name x px,l,ifs,0⟩] scope pos) spos) (qp iy (zma is fun kv=>xw fr f (cn kv) g)) :=
 zv1 fun kv hi=>zzz (zz9 (p:=fun ev=>za6 ev is=some kv) (P:=fun Y=>ForC Y t cl kv) false c src (fun I hE hp f2=>zv3 CO hi I hE hp f2) (fun _ _ _ _ q=>hif _ _ _ _ _ q) (fun _ _ _ _ _=>helt _ _ _ _) hN hsw hiy hyy hfy hc hs) fun _ _ _ h=>(ztu (zfk h).1).trans (zfk h).2
end
end F
namespace Mt
open PySem L2 F
def isI:D->Option Int
 | .int i=>some i
 |_=>none
def isS:D->Option Str
 | .str i=>some i
 |_=>none
def isP:D->Option (Int×Int)
 | .tup [.int a,.int b]=>some (a,b)
 |_=>none
def ad(k:Nat)(x y:D):D:=match k with
 |1=>(match isI x,isI y with | some i,some j=>.int (i+j) | _,_=>.non)
 |2=>(match isS x,isS y with | some i,some j=>.str (i++j) | _,_=>.non)
 |3=>(match isP x,isP y with | some p,some q=>.tup [.int (p.1*q.1%1000003),.int ((p.2*q.1+q.2)%1000003)] | _,_=>.non)
 |4=>(match isI x,isI y with | some i,some j=>.int (if j>i then j else i) | _,_=>.non)
 |_=>.non
theorem zm8(a b c:Str):a++b++c=a++(b++c):=by show Str.mk ((a.cps++b.cps)++c.cps)=Str.mk (a.cps++(b.cps++c.cps));rw[Array.append_assoc]
theorem str_len(a b:Str):(a++b).length=a.length+b.length:=strLen_append a b
theorem ad1(x y:D):ad 1 x y=match isI x,isI y with | some i,some j=>.int (i+j) | _,_=>.non:=rfl
theorem ad2(x y:D):ad 2 x y=match isS x,isS y with | some i,some j=>.str (i++j) | _,_=>.non:=rfl
theorem ad4(x y:D):ad 4 x y=match isI x,isI y with | some i,some j=>.int (if j>i then j else i) | _,_=>.non:=rfl
theorem ad3(x y:D):ad 3 x y=match isP x,isP y with | some p,some q=>.tup [.int (p.1*q.1%1000003),.int ((p.2*q.1+q.2)%1000003)] | _,_=>.non:=rfl
theorem mm(a b m:Int):(a%m*b)%m=a*b%m:=by rw[Int.mul_emod,Int.emod_emod_of_dvd _ (Int.dvd_refl m),<-Int.mul_emod]
theorem mm'(a b m:Int):(b*(a%m))%m=b*a%m:=by rw[Int.mul_comm,mm,Int.mul_comm]
theorem am(a b m:Int):(a%m+b)%m=(a+b)%m:=by rw[Int.add_emod,Int.emod_emod_of_dvd _ (Int.dvd_refl m),<-Int.add_emod]
theorem zsg(k:Nat)(x y z:D):ad k (ad k x y) z=ad k x (ad k y z):=by
 match k with
 |0=>rfl
 | 1=>
   simp only[ad1];cases h1:isI x<;>cases h2:isI y<;>cases h3:isI z<;>simp[isI,Int.add_assoc]
 | 2=>
   simp only[ad2];cases h1:isS x<;>cases h2:isS y<;>cases h3:isS z<;>simp[isS,zm8]
 | 3=>
   simp only[ad3];cases h1:isP x<;>cases h2:isP y<;>cases h3:isP z<;>simp[isP];rename_i p q r;constructor
   · rw[mm,mm',Int.mul_assoc]
   · rw[<-am (_*_) _ 1000003,mm,<-am (p.snd*_) _ 1000003,mm',am,am];congr 1;rw[Int.add_mul,Int.mul_assoc,Int.add_assoc]
 | 4=>
   simp only[ad4];cases h1:isI x<;>cases h2:isI y<;>cases h3:isI z<;>simp[isI]
   repeat' split
   all_goals omega
 |n+5=>rfl
def yg(k:Nat):List D->D
 | []=>.non
 |t::r=>if k=0 then .non else r.foldl (ad k) t
theorem zbz(ts:List D):yg 0 ts=.non:=by cases ts<;>rfl
theorem zoz(k:Nat)(a:D):∀(r:List D) (b:D),r.foldl (ad k) (ad k a b)=ad k a (r.foldl (ad k) b)
 | [],_=>rfl
 | c::r,b=>by show r.foldl (ad k) (ad k (ad k a b) c)=ad k a (r.foldl (ad k) (ad k b c));rw[zsg,zoz k a r]
theorem zag{k:Nat}(hk:k≠0){xs ys:List D}(hx:xs≠[])(hy:ys≠[]):yg k (xs++ys)=ad k (yg k xs) (yg k ys):=by
 cases xs with
 |nil=>exact absurd rfl hx
 | cons x xs=>
   cases ys with
   |nil=>exact absurd rfl hy
   | cons y ys=>
     show(if k=0 then D.non else (xs++y::ys).foldl (ad k) x)=ad k (if k=0 then D.non else xs.foldl (ad k) x) (if k=0 then D.non else ys.foldl (ad k) y);rw[z5y hk,z5y hk,z5y hk,List.foldl_append,List.foldl_cons,zoz]
theorem zb0{k:Nat}(hk:k≠0)(t:D):yg k [t]=t:=by show(if k=0 then D.non else t)=t;rw[z5y hk]
def Th(k n:Nat)(d:D):Prop:=match k with
 |1=>∃i,d=.int i
 |2=>∃z,d=.str z/\z.length<=8*n
 |3=>∃a b,d=.tup [.int a,.int b]/\0<=a/\a<1000003/\0<=b/\b<1000003
 |4=>∃i,d=.int i
 |_=>False
def Thing(k:Nat)(d:D):Prop:=match k with
 |0=>(∃i,d=.int i)\/∃z,d=.str z/\z.length<=8
 |k=>Th k 1 d
theorem Th.ad{k n m:Nat}{x y:D}(hx:Th k n x)(hy:Th k m y):Th k (n+m) (ad k x y):=by
 match k,hx,hy with
 |0,h,_=>exact h.elim
 |1,⟨i,e⟩,⟨j,e'⟩=>subst e e';exact⟨_,rfl⟩
 |2,⟨i,e,h⟩,⟨j,e',h'⟩=>subst e e';exact⟨_,rfl,by rw[str_len];omega⟩
 | 3,⟨a,b,e,h⟩,⟨c,d,e',h'⟩=>
   subst e e';exact⟨_,_,rfl,z6z _ (by decide),z6f _ (by decide),z6z _ (by decide),z6f _ (by decide)⟩
 |4,⟨i,e⟩,⟨j,e'⟩=>subst e e';exact⟨_,rfl⟩
 |n+5,h,_=>exact h.elim
theorem Thing.th{k:Nat}{d:D}(hk:k≠0)(h:Thing k d):Th k 1 d:=by
 match k,hk,h with
 |0,hk,_=>exact absurd rfl hk
 |k+1,_,h=>exact h
theorem ze6{k:Nat}(hk:k≠0):∀{ts:List D},ts≠[]->(∀t∈ts,Thing k t)->Th k ts.length (yg k ts)
 | [],h,_=>absurd rfl h
 | [t],_,h=>by rw[zb0 hk];exact(h t (by simp)).th hk
 | t::u::r,_,h=>by rw[show t::u::r=[t]++(u::r)from rfl,zag hk (by simp) (by simp),zb0 hk];have:=((h t (by simp)).th hk).ad (ze6 hk (ts:=u::r) (by simp) fun x hx=>h x (z46 _ hx));rw[Nat.add_comm]at this;exact this
def ord(a:Bool)(xs:List D):List D:=if a=true then xs.reverse else xs
theorem xx(a:Bool)(xs:List D):(ord a xs).length=xs.length:=by unfold ord;split<;>simp
def mkD(num:Int)(a:Bool)(l t r:D)(sz ht:Int)(to ba:D):D:=.tup [.int num,.bl a,l,t,r,.int sz,.int ht,to,ba]
inductive Mk (k:Nat):D->List D->Nat->Prop where
 |non:Mk k .non [] 0
 | node {num:Int}{a:Bool}{l t r:D}{lt rt:List D}{lh rh:Nat}:Mk k l lt lh->Mk k r rt rh->Thing k t->lh<=rh+1->rh<=lh+1 ->
   Mk k (mkD num a l t r (lt.length+1+rt.length:Nat) (max lh rh+1:Nat) (yg k (ord a (lt++t::rt))) (yg k (ord a (lt++t::rt)).reverse)) (ord a (lt++t::rt)) (max lh rh+1)
theorem Mk.things{k d ts h}(m:Mk k d ts h):∀t∈ts,Thing k t:=by
 induction m with
 |non=>intro t ht;cases ht
 | @node num a l t r lt rt lh rh ml mr ht _ _ il ir=>
   intro x hx;have:x∈lt++t::rt:=by
     unfold ord at hx;split at hx
     · exact z7n.mp hx
     · exact hx
   rcases z5x.mp this with q | q
   · exact il x q
   · rcases z5p.mp q with rfl | q
     · exact ht
     · exact ir x q
end Mt
namespace Pg
open PySem L2 F Mt
variable {k:Nat}{d l r t:D}{ts lt rt:List D}{h lh rh:Nat}{S S1:Sto}{ev e:Ev}
theorem zsm:(2:Nat)<=sizeLine:=by decide
theorem zzs(a b c d e f g h i:D):atI [a,b,c,d,e,f,g,h,i] (1:Int)=some b:=rfl
theorem zvs(a b c d e f g h i:D):atI [a,b,c,d,e,f,g,h,i] (2:Int)=some c:=rfl
theorem zzr(a b c d e f g h i:D):atI [a,b,c,d,e,f,g,h,i] (3:Int)=some d:=rfl
theorem zvr(a b c d e f g h i:D):atI [a,b,c,d,e,f,g,h,i] (4:Int)=some e:=rfl
theorem z2k(a b c d e f g h i:D):atI [a,b,c,d,e,f,g,h,i] (5:Int)=some f:=rfl
theorem z2j(a b c d e f g h i:D):atI [a,b,c,d,e,f,g,h,i] (6:Int)=some g:=rfl
theorem zzq(a b c d e f g h i:D):atI [a,b,c,d,e,f,g,h,i] (7:Int)=some h:=rfl
theorem zzp(a b c d e f g h i:D):atI [a,b,c,d,e,f,g,h,i] (8:Int)=some i:=rfl
theorem zpg(ts:List D):kh (.lst ts) (.lst [])=some (.bl ts.isEmpty):=by cases ts<;>rfl
theorem zfj(i j:Int):kh (.int i) (.int j)=some (.bl (i==j)):=rfl
theorem z2u{n:Nat}{x:D}(hx:Th k n x):kh x x=some (.bl true):=by
 match k,hx with
 |0,h=>exact h.elim
 |1,⟨i,e⟩=>subst e;rw[zfj];simp
 |2,⟨z,e,_⟩=>subst e;show(some (eqV (.str z) (.str z))).map D.bl=_;simp[eqV]
 |3,⟨a,b,e,_⟩=>subst e;show(some ((eqV (.int a) (.int a))&&((eqV (.int b) (.int b))&&true))).map D.bl=_;simp[eqV]
 |4,⟨i,e⟩=>subst e;rw[zfj];simp
 |n+5,h=>exact h.elim
theorem ztp(hts:∀x∈ts,Thing k x):kh (yg k ts) (yg k ts)=some (.bl true):=by
 by_cases hk:k=0
 · subst hk;rw[zbz];rfl
 · cases ts with
   |nil=>rfl
   |cons x r=>exact z2u (ze6 hk (by simp) hts)
theorem zng{i:Nat}{a b:MO}(h:S[i]? = some a):(S.set i b)[i]? = some b:=z6b (z5b.mp h).1
theorem zxl{i j:Nat}(hij:i≠j)(b:MO):(S.set i b)[j]? = S[j]?:=z6u hij
def Ok(c:C)(ev:Ev)(S:Sto):Prop:=∃S',c ev S=some (.rt (.bl true),S')
theorem zq{i:Nat}{f:E}(h:f ev S=some (d,S1)):qp i f ev S=some (.nx (ev.set i (some d)),S1):=by simp[qp,h]
theorem zn{c:B}{a:C}(h:c ev S=some (false,S1)):sIf c a jc ev S=some (.nx ev,S1):=by simp[sIf,h,jc]
theorem qb{c:B}{a b:C}{o:Out}{S2:Sto}(h:c ev S=some (true,S1))(q:a ev S1=some (o,S2)):sIf c a b ev S=some (o,S2):=by simp[sIf,h,q]
theorem qg{f:E}{b:Bool}(h:f ev S=some (.bl b,S1)):bE f ev S=some (b,S1):=by simp[bE,h]
theorem zt3{u:B}(h:u ev S=some (true,S1)):zdi u ev S=some (false,S1):=by simp[zdi,h]
theorem z4t{u:B}(h:u ev S=some (false,S1)):zdi u ev S=some (true,S1):=by simp[zdi,h]
theorem zh6{u v:B}(h:u ev S=some (false,S1)):zp0 u v ev S=some (false,S1):=by simp[zp0,h]
theorem zc1{u v:B}{b:Bool}{S2:Sto}(h:u ev S=some (true,S1))(q:v ev S1=some (b,S2)):zp0 u v ev S=some (b,S2):=by simp[zp0,h,q]
theorem z0s{u v:B}{b:Bool}{S2:Sto}(h:u ev S=some (false,S1))(q:v ev S1=some (b,S2)):bOr u v ev S=some (b,S2):=by simp[bOr,h,q]
theorem e_2{op:D->D->Option D}{f g:E}{x y z:D}{S2:Sto}(h:f ev S=some (x,S1))(q:g ev S1=some (y,S2))(o:op x y=some z):e2 op f g ev S=some (z,S2):=by simp[e2,h,q,o]
theorem qt{op:Sto->D->D->Option D}{f g:E}{x y z:D}{S2:Sto}(h:f ev S=some (x,S1))(q:g ev S1=some (y,S2))(o:op S2 x y=some z):e2s op f g ev S=some (z,S2):=by simp[e2s,h,q,o]
theorem e_v{i:Nat}(h:ev[i]? = some (some d)):eV i ev S=some (d,S):=by simp[eV,h]
theorem e_k:eK d ev S=some (d,S):=rfl
theorem a_n:aN ev S=some ([],S):=rfl
theorem a_c{f:E}{g:As}{ds:List D}{S2:Sto}(h:f ev S=some (d,S1))(q:g ev S1=some (ds,S2)):aC f g ev S=some (d::ds,S2):=by simp[aC,h,q]
theorem zi{g:G}{a:As}{ds:List D}{S2:Sto}(h:a ev S=some (ds,S1))(q:g ds S1=some (d,S2)):zm g a ev S=some (d,S2):=by simp[zm,h,q]
theorem e_a{op:Sto->List D->Option D}{a:As}{ds:List D}(h:a ev S=some (ds,S1))(o:op S1 ds=some d):eA op a ev S=some (d,S1):=by simp[eA,h,o]
theorem yf{a:As}{ds:List D}(h:a ev S=some (ds,S1))(hl:ds.length<=16777216):zar a ev S=some (.tup ds,S1):=by have hz:sizeLine=16777216:=z60;simp[zar,eA,h,hz,hl]
theorem zef{a:As}{ds:List D}(h:a ev S=some (ds,S1))(hl:ds.length<=16777216):zk2 a ev S=some (.lst ds,S1):=by have hz:sizeLine=16777216:=z60;simp[zk2,eA,h,hz,hl]
theorem zpi{a:As}{ds:List D}(h:a ev S=some (ds,S1))(hl:ds.length<=16777216):zja a ev S=some (.obj S1.length,S1++[.lst ds]):=by have hz:sizeLine=16777216:=z60;simp[zja,h,hz,hl]
theorem xo{c m:Str}{g:G}{f:E}{a:As}{i:Nat}{fs:List (Str×D)}{ds:List D}{S2 S3:Sto}(h:f ev S=some (.obj i,S1))(hi:zd6 c S1 (.obj i)=some (i,fs))(hm:fs.lookup m=none)(ha:a ev S1=some (ds,S2))(q:g (.obj i::ds) S2=some (d,S3)) :
   x9 c m g f a ev S=some (d,S3):=by simp[x9,h,hi,hm,ha,q]
theorem z2w{c n:Str}{f:E}{i:Nat}{fs:List (Str×D)}(h:f ev S=some (.obj i,S1))(hi:zd6 c S1 (.obj i)=some (i,fs))(hm:fs.lookup n=some d):zwx c n f ev S=some (d,S1):=by simp[zwx,h,hi,hm]
theorem z1b{f:E}{a b:Pt}{x:D}{lo hi:Option Int}{S2 S3:Sto}(h:f ev S=some (x,S1))(ha:a ev S1=some (lo,S2))(hb:b ev S2=some (hi,S3))(o:zyv x lo hi=some d):eSl f a b ev S=some (d,S3):=by simp[eSl,h,ha,hb,o]
theorem p_n:pN ev S=some (none,S):=rfl
theorem p_e{f:E}{i:Int}(h:f ev S=some (.int i,S1)):pE f ev S=some (some i,S1):=by simp[pE,h]
theorem zts{f g:E}{S2:Sto}(h:f ev S=some (.bl true,S1))(q:g ev S1=some (d,S2)):zh9 f g ev S=some (d,S2):=by simp[zh9,h,q]
theorem z0g{f g:E}(h:f ev S=some (.bl false,S1)):zh9 f g ev S=some (.bl false,S1):=by simp[zh9,h]
theorem z0f{f:E}{b:Bool}(h:f ev S=some (.bl b,S1)):zww f ev S=some (.bl !b,S1):=by simp[zww,e1,h]
theorem add_int(i j:Int):qu (.int i) (.int j)=some (.int (i+j)):=rfl
theorem sub_int(i j:Int):zah (.int i) (.int j)=some (.int (i-j)):=rfl
theorem zgw{xs ys:List D}(h:xs.length+ys.length<=16777216):qu (.lst xs) (.lst ys)=some (.lst (xs++ys)):=by have hz:sizeLine=16777216:=z60;simp[qu,hz,h]
theorem zgv{x:D}{xs ys:List D}(h:(x::xs).length+ys.length<=16777216):qu (.tup (x::xs)) (.tup ys)=some (.tup (x::xs++ys)):=by have hz:sizeLine=16777216:=z60;simp only[qu,hz,z5s h]
def pl:Nat->D->Bool
 |_,.non=>true
 |_,.bl _=>true
 |_,.int _=>true
 |_,.str _=>true
 |n+1,.tup ds=>ds.all (pl n)
 |n+1,.lst ds=>ds.all (pl n)
 |_,_=>false
theorem zgi{f:D->D->Option Bool}:∀{ds:List D},(∀x∈ds,f x x=some true)->eqL f ds ds=some true
 | [],_=>rfl
 |x::ds,h=>by simp[eqL,h x (by simp),zgi fun y hy=>h y (z46 _ hy)]
theorem zru:∀{n:Nat}{d:D},pl n d=true->eqN n d d=some true:=by
 intro n
 induction n with
 |zero=>intro d h;cases d<;>first | (cases h;done) | simp[eqN,eqF,zeb,eqV]
 | succ n ih=>
   intro d h;cases d with
   | tup ds=>
     have h:ds.all (pl n)=true:=h;exact zgi fun x hx=>ih (z6d.mp h x hx)
   | lst ds=>
     have h:ds.all (pl n)=true:=h;have q:eqL (eqN n) ds ds=some true:=zgi fun x hx=>ih (z6d.mp h x hx);simp[eqN,q]
   |_=>first | (cases h;done) | simp[eqN,eqF,zeb,eqV,zhj]
theorem zaw:∀{n m:Nat}{d:D},n<=m->pl n d=true->pl m d=true:=by
 intro n
 induction n with
 |zero=>intro m d _ h;cases d<;>first | (cases h;done) | (cases m<;>rfl)
 | succ n ih=>
   intro m d hm h;cases m with
   |zero=>omega
   | succ m=>
     cases d with
     |tup ds=>exact z6d.mpr fun x hx=>ih (by omega) (z6d.mp h x hx)
     |lst ds=>exact z6d.mpr fun x hx=>ih (by omega) (z6d.mp h x hx)
     |_=>first | (cases h;done) | rfl
theorem zyb{n:Nat}{x:D}(hx:Th k n x):pl 1 x=true:=by
 match k,hx with
 |0,h=>exact h.elim
 |1,⟨i,e⟩=>subst e;rfl
 |2,⟨z,e,_⟩=>subst e;rfl
 |3,⟨a,b,e,_⟩=>subst e;rfl
 |4,⟨i,e⟩=>subst e;rfl
 |n+5,h=>exact h.elim
theorem zka{x:D}(hx:Thing k x):pl 1 x=true:=by
 match k,hx with
 |0,.inl ⟨i,e⟩=>subst e;rfl
 |0,.inr ⟨z,e,_⟩=>subst e;rfl
 |k+1,h=>exact zyb (k:=k+1) h
theorem zs6(hts:∀x∈ts,Thing k x):pl 1 (yg k ts)=true:=by
 by_cases hk:k=0
 · subst hk;rw[zbz];rfl
 · cases ts with
   |nil=>rfl
   |cons x r=>exact zyb (ze6 hk (by simp) hts)
theorem z13(m:Mk k d ts h):pl (h+1) d=true:=by
 induction m with
 |non=>rfl
 | @node num a l t r lt rt lh rh ml mr ht h1 h2 il ir=>
   have th:∀x∈ord a (lt++t::rt),Thing k x:=(Mk.node (num:=num) (a:=a) ml mr ht h1 h2).things;have th':∀x∈(ord a (lt++t::rt)).reverse,Thing k x:=fun x hx=>th x (z7n.mp hx);have a1:=zaw (m:=max lh rh+1) (by omega) il;have a2:=zaw (m:=max lh rh+1) (by omega) ir;have a3:=zaw (m:=max lh rh+1) (by omega) (zka ht);have a4:=zaw (m:=max lh rh+1) (by omega) (zs6 th);have a5:=zaw (m:=max lh rh+1) (by omega) (zs6 th');show List.all _ (pl (max lh rh+1))=true;simp only[List.all_cons,List.all_nil,a1,a2,a3,a4,a5,z9w];rfl
theorem zvj(h:pl 150 d=true):zew d d=some (.bl false):=by unfold zew;rw[zru h];rfl
theorem zs7(hts:∀x∈ts,Thing k x):pl 2 (.lst ts)=true:=z6d.mpr fun x hx=>zka (hts x hx)
theorem ju{N n:Nat}{c:C}{ds:List D}{S S':Sto}{d:D}(hl:ds.length=n)(h:c (ds.map some++List.replicate (N-ds.length) none) S=some (.rt d,S')):qa N n c ds S=some (d,S'):=by unfold qa;rw[z5s hl,h]
theorem zw{f:E}(h:f ev S=some (d,S1)):ql f ev S=some (.rt d,S1):=by simp[ql,h]
theorem qh{a b:C}(h:a ev S=some (.rt d,S1)):z8 a b ev S=some (.rt d,S1):=by simp[z8,h]
theorem zh{a b:C}{o:Out}{S2:Sto}(h:a ev S=some (.nx e,S1))(q:b e S1=some (o,S2)):z8 a b ev S=some (o,S2):=by simp[z8,h,q]
inductive Sv:D->Prop where
 |non:Sv .non
 |int (i:Int):Sv (.int i)
 |str (z:Str):Sv (.str z)
 |pair (a b:Int):Sv (.tup [.int a,.int b])
theorem z1v{x y:D}(hx:Sv x)(hy:Sv y)(n:Nat):∃b,eqN (n+1) x y=some b/\(b=true↔x=y):=by
 cases hx<;>cases hy
 case int.int i j=>exact⟨i==j,by simp[eqN,zhj,eqF,zeb,eqV],by simp⟩
 case str.str i j=>exact⟨i==j,by simp[eqN,zhj,eqF,zeb,eqV],by simp⟩
 case pair.pair a b c d=>
   have e:∀(m:Nat) (i j:Int),eqN m (.int i) (.int j)=some (i==j):=fun m i j=>by cases m<;>rfl
   exact⟨(a==c)&&((b==d)&&true),by simp[eqN,eqL,e],by simp⟩
 case non.non=>exact⟨true,rfl,by simp⟩
 all_goals exact⟨false,rfl,by simp⟩
theorem zxb{n:Nat}{x:D}(hx:Th k n x):Sv x:=by
 match k,hx with
 |0,h=>exact h.elim
 |1,⟨i,e⟩=>subst e;exact .int _
 |2,⟨z,e,_⟩=>subst e;exact .str _
 |3,⟨a,b,e,_⟩=>subst e;exact .pair _ _
 |4,⟨i,e⟩=>subst e;exact .int _
 |n+5,h=>exact h.elim
theorem zc6{x:D}(hx:Thing k x):Sv x:=by
 match k,hx with
 |0,.inl ⟨i,e⟩=>subst e;exact .int _
 |0,.inr ⟨z,e,_⟩=>subst e;exact .str _
 |k+1,h=>exact zxb (k:=k+1) h
theorem zsr(hts:∀x∈ts,Thing k x):Sv (yg k ts):=by
 by_cases hk:k=0
 · subst hk;rw[zbz];exact .non
 · cases ts with
   |nil=>exact .non
   |cons x r=>exact zxb (ze6 hk (by simp) hts)
def low:Nat->Nat
 |0=>0
 |1=>1
 |h+2=>low (h+1)+low h+1
theorem zrb:∀h:Nat,low h<=low (h+1)
 |0=>by decide
 |1=>by decide
 | h+2=>by show low (h+2)<=low (h+2)+low (h+1)+1;omega
theorem zf5{a b:Nat}(h:a<=b):low a<=low b:=by
 induction b with
 |zero=>rw[Nat.le_zero.mp h];exact z44 _
 | succ b ih=>
   rcases z68 a (b+1)with q | q
   · exact z5u (ih (by omega)) (zrb b)
   · rw[z8b h q];exact z44 _
theorem zy1{k:Nat}{d:D}{ts:List D}{h:Nat}(m:Mk k d ts h):low h<=ts.length:=by
 induction m with
 |non=>decide
 | @node num a l t r lt rt lh rh ml mr ht h1 h2 il ir=>
   rw[xx,z42,List.length_cons];rcases Nat.le_total lh rh with q | q
   · rw[z9t q];cases rh with
     | zero => have:lh=0:=by omega
               subst this;show 1<=_;omega
     | succ rh=>
       show low (rh+1)+low rh+1<=_;have:=zf5 (show rh<=lh by omega);omega
   · rw[Nat.max_eq_left q];cases lh with
     | zero => have:rh=0:=by omega
               subst this;show 1<=_;omega
     | succ lh=>
       show low (lh+1)+low lh+1<=_;have:=zf5 (show lh<=rh by omega);omega
theorem yd{x j:Int}(h:0<j):jb (.int x) (.int j)=some (.int (x%j)):=by simp[jb,F.opI,z2c,h]
theorem zjc{x j:Int}(h:0<j/\j<1073741824):zbp (.int x) (.int j)=some (.int (x/j)):=by simp[zbp,F.opI,z2x,h]
theorem zkj{x y:Int}(h:-(2^64)<x/\x<2^64):zap (.int x) (.int y)=some (.int (x*y)):=by simp only[zap,F.opI,z0y];rw[z5s (.inl h)];rfl
theorem zki{x y:Int}(h:-(2^64)<y/\y<2^64):zap (.int x) (.int y)=some (.int (x*y)):=by simp only[zap,F.opI,z0y];rw[z5s (.inr (.inl h))];rfl
theorem zdz(S:Sto)(x:MO):(S++[x])[S.length]? = some x:=by simp
end Pg
namespace Pg
open PySem L2 F
noncomputable section
def up:Up:=⟨["NoThing"],["Changed", "NoBalance", "NoMore", "NoName", "NoNumber", "NoPlace", "NoRow", "NoSum", "NoThing", "NoWay", "TooMany"]⟩
def lt_0:LT where
 params:={posonlyargs:=[],args:=[{ arg:="_law_thing_here",annotation:=none,pos:=⟨333,41,333,56⟩:PySem.Arg }],vararg:=none,kwonlyargs:=[],kw_defaults:=[],kwarg:=none,defaults:=[]:PySem.Arguments }
 body:=(PySem.Expr.Call
  (func:=(PySem.Expr.Name "_law_key" ⟨333,58,333,66⟩))
  (args:=[(PySem.Expr.Name "_law_kind" ⟨333,67,333,76⟩),(PySem.Expr.Name "_law_thing_here" ⟨333,78,333,93⟩)])
  (keywords:=[])
  (pos:=⟨333,58,333,94⟩))
 scope:={kind:=PySem.ScopeKind.function,names:=[(PySem.Str.ofString "_law_thing_here",PySem.NameKind.local),(PySem.Str.ofString "_law_kind",PySem.NameKind.free),(PySem.Str.ofString "_law_key",PySem.NameKind.globalImplicit)],isGenerator:=false,isCoroutine:=false,more:=[]:PySem.Scope }
 qual:=(("_law_some":Str)++".<locals>.")++"<lambda>"
 caps:=["_law_kind"]
def lt_1:LT where
 params:={posonlyargs:=[],args:=[{ arg:="_law_one",annotation:=none,pos:=⟨353,25,353,33⟩:PySem.Arg },{ arg:="_law_other",annotation:=none,pos:=⟨353,35,353,45⟩:PySem.Arg }],vararg:=none,kwonlyargs:=[],kw_defaults:=[],kwarg:=none,defaults:=[]:PySem.Arguments }
 body:=(PySem.Expr.Compare
  (left:=(PySem.Expr.Call
  (func:=(PySem.Expr.Name "_law_key" ⟨353,47,353,55⟩))
  (args:=[(PySem.Expr.Name "_law_kind" ⟨353,56,353,65⟩),(PySem.Expr.Name "_law_one" ⟨353,67,353,75⟩)])
  (keywords:=[])
  (pos:=⟨353,47,353,76⟩)))
  (ops:=[PySem.CmpOp.Lt])
  (comparators:=[(PySem.Expr.Call
  (func:=(PySem.Expr.Name "_law_key" ⟨353,79,353,87⟩))
  (args:=[(PySem.Expr.Name "_law_kind" ⟨353,88,353,97⟩),(PySem.Expr.Name "_law_other" ⟨353,99,353,109⟩)])
  (keywords:=[])
  (pos:=⟨353,79,353,110⟩))])
  (pos:=⟨353,47,353,110⟩))
 scope:={kind:=PySem.ScopeKind.function,names:=[(PySem.Str.ofString "_law_one",PySem.NameKind.local),(PySem.Str.ofString "_law_other",PySem.NameKind.local),(PySem.Str.ofString "_law_kind",PySem.NameKind.free),(PySem.Str.ofString "_law_key",PySem.NameKind.globalImplicit)],isGenerator:=false,isCoroutine:=false,more:=[]:PySem.Scope }
 qual:=(("_law_done":Str)++".<locals>.")++"<lambda>"
 caps:=["_law_kind"]
def lt_2:LT where
 params:={posonlyargs:=[],args:=[{ arg:="_law_one",annotation:=none,pos:=⟨375,26,375,34⟩:PySem.Arg },{ arg:="_law_other",annotation:=none,pos:=⟨375,36,375,46⟩:PySem.Arg }],vararg:=none,kwonlyargs:=[],kw_defaults:=[],kwarg:=none,defaults:=[]:PySem.Arguments }
 body:=(PySem.Expr.BinOp
  (left:=(PySem.Expr.Name "_law_one" ⟨375,48,375,56⟩))
  (op:=PySem.Operator.Add)
  (right:=(PySem.Expr.Name "_law_other" ⟨375,59,375,69⟩))
  (pos:=⟨375,48,375,69⟩))
 scope:={kind:=PySem.ScopeKind.function,names:=[(PySem.Str.ofString "_law_one",PySem.NameKind.local),(PySem.Str.ofString "_law_other",PySem.NameKind.local)],isGenerator:=false,isCoroutine:=false,more:=[]:PySem.Scope }
 qual:=(("law":Str)++".<locals>.")++"<lambda>"
def z3s:E :=
 (e2 qu (eV 0) (eV 1))
def z2p:G:=zcp 2 2 z3s
open Classical in
def zhf:LT->Option G:=fun t=>
 if t=lt_2 then some z2p else
 none
def tabs:List (Str×Str):=[("_law_done",(("_law_done":Str)++".<locals>.")++"<lambda>"),("_law_some",(("_law_some":Str)++".<locals>.")++"<lambda>"),("law",(("law":Str)++".<locals>.")++"<lambda>")]
def zba:C :=
 (z8 (zlo "Wood" "adding" (eV 0) (eV 1)) (zlo "Wood" "nodes_made" (eV 0) (eK (.int 0))))
def q8:G:=qa 2 2 zba
def zji:C :=
 (z8 (qp 2 (e2 qu (e2 zap (e2 zap (eV 1) (eV 1)) (eK (.int 7919))) (eK (.int 17)))) (z8 (sIf (bE (e2 zh7 (eA zfb (aC (eV 0) aN)) (eK (.int 0)))) (qp 2 (e2 qu (e2 jb (e2s qf (eV 0) (e2 jb (eV 1) (eA zfb (aC (eV 0) aN)))) (e2 zdq (eK (.int 10)) (eK (.int 30)))) (e2 zap (e2 zbp (eV 1) (eA zfb (aC (eV 0) aN))) (eK (.int 104729))))) jc) (ql (e2 jb (e2 zap (e2 jb (e2 qu (e2 zap (eV 2) (eK (.int 48271))) (e2 zap (eV 1) (eK (.int 69621)))) (eK (.int 2147483647))) (e2 qu (e2 jb (eV 2) (eK (.int 65521))) (eK (.int 3)))) (eK (.int 999999937))))))
def z5:G:=qa 3 2 zji
def zmo:C :=
 (z8 (sIf (bE (e2 kh (eV 0) (eK (.int 1)))) (ql (e2 zah (eK (.int 0)) (eV 1))) jc) (z8 (sIf (bE (e2 kh (eV 0) (eK (.int 2)))) (ql (zar (aC (e2 jb (eV 1) (eK (.int 7))) (aC (eV 1) aN)))) jc) (z8 (sIf (bE (e2 kh (eV 0) (eK (.int 3)))) (ql (e2 zbp (eV 1) (eK (.int 3)))) jc) (z8 (sIf (bE (e2 kh (eV 0) (eK (.int 4)))) (ql (eA zwy (aC (eV 1) aN))) jc) (z8 (sIf (bE (e2 kh (eV 0) (eK (.int 6)))) (ql (zar (aC (eA zfb (aC (eV 1) aN)) (aC (eV 1) aN)))) jc) (z8 (sIf (bE (e2 kh (eV 0) (eK (.int 7)))) (ql (z1c (eV 1) pN (pE (eK (.int 1))))) jc) (ql (eV 1))))))))
def qv:G:=qa 2 2 zmo
def zgr:C :=
 (sIf (zdi (bE (zhr zex zgy (eK (.int 0)) (eV 0) (eV 1)))) zcr jc)
def xr:G:=qa 2 2 zgr
def z0o:C :=
 (z8 (sIf (bE (e2 zdr (eV 0) (eK .non))) (ql (eK (.int 0))) jc) (ql (e2s qf (eV 0) (eK (.int 5)))))
def xn:G:=qa 1 1 z0o
def za9:C :=
 (z8 (qp 2 (zwx "Wood" "nodes_made" (eV 0))) (z8 (zlo "Wood" "nodes_made" (eV 0) (e2 qu (eV 2) (eK (.int 1)))) (ql (e2 qu (zar (aC (eV 2) aN)) (eV 1)))))
def j0:G:=qa 3 2 za9
def zhz:C :=
 (sIf (bE (e2 zh7 (eV 0) (eK (.int 2000)))) zcr jc)
def x8:G:=qa 1 1 zhz
def zr8:C :=
 (z8 (sIf (bE (e2 zdr (eV 0) (eK .non))) (ql (eK (.int 0))) jc) (ql (e2s qf (eV 0) (eK (.int 6)))))
def jd:G:=qa 1 1 zr8
def zbo:C :=
 (ql (e2 qu (eK (.int 1)) (eA zy3 (aC (zm jd (aC (eV 0) aN)) (aC (zm jd (aC (eV 1) aN)) aN)))))
def xa:G:=qa 2 2 zbo
def zc0:C :=
 (ql (e2 zex (eA zwy (aC (e2 zah (zm jd (aC (eV 0) aN)) (zm jd (aC (eV 1) aN))) aN)) (eK (.int 1))))
def jz:G:=qa 2 2 zc0
def zcz:C :=
 (ql (e2 qu (e2 qu (zm xn (aC (eV 0) aN)) (eK (.int 1))) (zm xn (aC (eV 1) aN))))
def x6:G:=qa 2 2 zcz
def z0r:C :=
 (z8 (sIf (bE (e2 zdr (eV 0) (eK .non))) (ql (eK .non)) jc) (ql (e2s qf (eV 0) (eK (.int 8)))))
def zd8:G:=qa 1 1 z0r
def ft:Str->Option G:=fun x=>
 none
def ze1:C :=
 (z8 (qp 4 (eV 2)) (z8 (sIf (bE (e2 kt (eV 3) (eK .non))) (qp 4 (zac ft zhf (eV 0) (aC (zm zd8 (aC (eV 3) aN)) (aC (eV 4) aN)))) jc) (z8 (sIf (bE (e2 kt (eV 1) (eK .non))) (qp 4 (zac ft zhf (eV 0) (aC (eV 4) (aC (zm zd8 (aC (eV 1) aN)) aN)))) jc) (ql (eV 4)))))
def yr:G:=qa 5 4 ze1
def zwi:C :=
 (z8 (sIf (bE (e2 zdr (eV 0) (eK .non))) (ql (eK .non)) jc) (ql (e2s qf (eV 0) (eK (.int 7)))))
def zaj:G:=qa 1 1 zwi
def zhy:C :=
 (z8 (qp 4 (eV 2)) (z8 (sIf (bE (e2 kt (eV 1) (eK .non))) (qp 4 (zac ft zhf (eV 0) (aC (zm zaj (aC (eV 1) aN)) (aC (eV 4) aN)))) jc) (z8 (sIf (bE (e2 kt (eV 3) (eK .non))) (qp 4 (zac ft zhf (eV 0) (aC (eV 4) (aC (zm zaj (aC (eV 3) aN)) aN)))) jc) (ql (eV 4)))))
def za1:G:=qa 5 4 zhy
def za7:C :=
 (z8 (sIf (bE (e2 zdr (eV 0) (eK .non))) (ql (zar (aC (eK .non) (aC (eK .non) aN)))) jc) (ql (zar (aC (zm za1 (aC (eV 0) (aC (eV 1) (aC (eV 2) (aC (eV 3) aN))))) (aC (zm yr (aC (eV 0) (aC (eV 1) (aC (eV 2) (aC (eV 3) aN))))) aN)))))
def xm:G:=qa 4 4 za7
def zjj:C :=
 (z8 (qp 4 (zm x6 (aC (eV 1) (aC (eV 3) aN)))) (z8 (zbj (zm x8 (aC (eV 4) aN))) (z8 (sIf (zdi (bE (zm jz (aC (eV 1) (aC (eV 3) aN))))) zcr jc) (z8 (qp 5 (zar (aC (eV 4) (aC (zm xa (aC (eV 1) (aC (eV 3) aN))) aN)))) (z8 (qp 6 (zm xm (aC (zwx "Wood" "adding" (eV 0)) (aC (eV 1) (aC (eV 2) (aC (eV 3) aN)))))) (ql (x9 "Wood" "numbered" j0 (eV 0) (aC (e2 qu (e2 qu (zar (aC (eK (.bl false)) (aC (eV 1) (aC (eV 2) (aC (eV 3) aN))))) (eV 5)) (eV 6)) aN))))))))
def qi:G:=qa 7 4 zjj
def zgs:C :=
 (z8 (sIf (bE (e2 zdr (eV 1) (eK .non))) (ql (eK .non)) jc) (z8 (qp 2 (zar (aC (e2s qf (eV 1) (eK (.int 2))) (aC (e2s qf (eV 1) (eK (.int 3))) (aC (e2s qf (eV 1) (eK (.int 4))) aN))))) (ql (x9 "Wood" "numbered" j0 (eV 0) (aC (e2 qu (e2 qu (zar (aC (zww (e2s qf (eV 1) (eK (.int 1)))) aN)) (eV 2)) (zar (aC (zm xn (aC (eV 1) aN)) (aC (zm jd (aC (eV 1) aN)) (aC (zm zd8 (aC (eV 1) aN)) (aC (zm zaj (aC (eV 1) aN)) aN)))))) aN)))))
def qq:G:=qa 3 2 zgs
def zpt:C :=
 (z8 (sIf (zdi (bE (e2s qf (eV 1) (eK (.int 1))))) (ql (zar (aC (e2s qf (eV 1) (eK (.int 2))) (aC (e2s qf (eV 1) (eK (.int 3))) (aC (e2s qf (eV 1) (eK (.int 4))) aN))))) jc) (z8 (qp 2 (x9 "Wood" "turned" qq (eV 0) (aC (e2s qf (eV 1) (eK (.int 4))) aN))) (z8 (qp 3 (x9 "Wood" "turned" qq (eV 0) (aC (e2s qf (eV 1) (eK (.int 2))) aN))) (ql (zar (aC (eV 2) (aC (e2s qf (eV 1) (eK (.int 3))) (aC (eV 3) aN))))))))
def xi:G:=qa 4 2 zpt
def zgp:C :=
 (z8 (qp 4 (zm xi (aC (eV 0) (aC (eV 1) aN)))) (z8 (sIf (bE (e2 ztc (zm jd (aC (e2s qf (eV 4) (eK (.int 0))) aN)) (zm jd (aC (e2s qf (eV 4) (eK (.int 2))) aN)))) (ql (x9 "Wood" "node" qi (eV 0) (aC (e2s qf (eV 4) (eK (.int 0))) (aC (e2s qf (eV 4) (eK (.int 1))) (aC (x9 "Wood" "node" qi (eV 0) (aC (e2s qf (eV 4) (eK (.int 2))) (aC (eV 2) (aC (eV 3) aN)))) aN))))) jc) (z8 (qp 5 (zm xi (aC (eV 0) (aC (e2s qf (eV 4) (eK (.int 2))) aN)))) (z8 (qp 6 (x9 "Wood" "node" qi (eV 0) (aC (e2s qf (eV 4) (eK (.int 0))) (aC (e2s qf (eV 4) (eK (.int 1))) (aC (e2s qf (eV 5) (eK (.int 0))) aN))))) (z8 (qp 7 (x9 "Wood" "node" qi (eV 0) (aC (e2s qf (eV 5) (eK (.int 2))) (aC (eV 2) (aC (eV 3) aN))))) (ql (x9 "Wood" "node" qi (eV 0) (aC (eV 6) (aC (e2s qf (eV 5) (eK (.int 1))) (aC (eV 7) aN))))))))))
def zak:G:=qa 8 4 zgp
def zez:C :=
 (z8 (qp 4 (zm xi (aC (eV 0) (aC (eV 3) aN)))) (z8 (sIf (bE (e2 ztc (zm jd (aC (e2s qf (eV 4) (eK (.int 2))) aN)) (zm jd (aC (e2s qf (eV 4) (eK (.int 0))) aN)))) (ql (x9 "Wood" "node" qi (eV 0) (aC (x9 "Wood" "node" qi (eV 0) (aC (eV 1) (aC (eV 2) (aC (e2s qf (eV 4) (eK (.int 0))) aN)))) (aC (e2s qf (eV 4) (eK (.int 1))) (aC (e2s qf (eV 4) (eK (.int 2))) aN))))) jc) (z8 (qp 5 (zm xi (aC (eV 0) (aC (e2s qf (eV 4) (eK (.int 0))) aN)))) (z8 (qp 6 (x9 "Wood" "node" qi (eV 0) (aC (eV 1) (aC (eV 2) (aC (e2s qf (eV 5) (eK (.int 0))) aN))))) (z8 (qp 7 (x9 "Wood" "node" qi (eV 0) (aC (e2s qf (eV 5) (eK (.int 2))) (aC (e2s qf (eV 4) (eK (.int 1))) (aC (e2s qf (eV 4) (eK (.int 2))) aN))))) (ql (x9 "Wood" "node" qi (eV 0) (aC (eV 6) (aC (e2s qf (eV 5) (eK (.int 1))) (aC (eV 7) aN))))))))))
def yq:G:=qa 8 4 zez
def zmm:C :=
 (z8 (sIf (bE (zm jz (aC (eV 1) (aC (eV 3) aN)))) (ql (x9 "Wood" "node" qi (eV 0) (aC (eV 1) (aC (eV 2) (aC (eV 3) aN))))) jc) (z8 (sIf (bE (e2 zh7 (zm jd (aC (eV 1) aN)) (zm jd (aC (eV 3) aN)))) (ql (zm zak (aC (eV 0) (aC (eV 1) (aC (eV 2) (aC (eV 3) aN)))))) jc) (ql (zm yq (aC (eV 0) (aC (eV 1) (aC (eV 2) (aC (eV 3) aN))))))))
def jt:G:=qa 4 4 zmm
def zr7(self:G):C :=
 (z8 (sIf (bE (zm jz (aC (eV 1) (aC (eV 3) aN)))) (ql (x9 "Wood" "node" qi (eV 0) (aC (eV 1) (aC (eV 2) (aC (eV 3) aN))))) jc) (z8 (sIf (bE (e2 zh7 (zm jd (aC (eV 1) aN)) (zm jd (aC (eV 3) aN)))) (z8 (qp 4 (zm xi (aC (eV 0) (aC (eV 1) aN)))) (ql (zm jt (aC (eV 0) (aC (e2s qf (eV 4) (eK (.int 0))) (aC (e2s qf (eV 4) (eK (.int 1))) (aC (zm (self) (aC (eV 0) (aC (e2s qf (eV 4) (eK (.int 2))) (aC (eV 2) (aC (eV 3) aN))))) aN))))))) jc) (z8 (qp 4 (zm xi (aC (eV 0) (aC (eV 3) aN)))) (ql (zm jt (aC (eV 0) (aC (zm (self) (aC (eV 0) (aC (eV 1) (aC (eV 2) (aC (e2s qf (eV 4) (eK (.int 0))) aN))))) (aC (e2s qf (eV 4) (eK (.int 1))) (aC (e2s qf (eV 4) (eK (.int 2))) aN)))))))))
def kj:Nat->G
 |0=>fun _ _=>none
 |k+1=>qa 5 4 (zr7 (kj k))
def z0p:C :=
 (z8 (sIf (bE (e2 kh (e2s qf (eV 0) (eK (.int 1))) (eV 1))) (ql (zar (aC (e2s qf (eV 0) (eK (.int 2))) (aC (e2s qf (eV 0) (eK (.int 3))) (aC (e2s qf (eV 0) (eK (.int 4))) (aC (eK (.bl false)) aN)))))) jc) (ql (zar (aC (e2s qf (eV 0) (eK (.int 4))) (aC (e2s qf (eV 0) (eK (.int 3))) (aC (e2s qf (eV 0) (eK (.int 2))) (aC (eK (.bl true)) aN)))))))
def zhl:G:=qa 2 2 z0p
def zmh(self:G):C :=
 (z8 (qp 3 (zm zhl (aC (eV 0) (aC (eV 1) aN)))) (z8 (qp 4 (zm xn (aC (e2s qf (eV 3) (eK (.int 0))) aN))) (z8 (sIf (bE (e2 zgy (eV 2) (eV 4))) (ql (zm (self) (aC (e2s qf (eV 3) (eK (.int 0))) (aC (e2s qf (eV 3) (eK (.int 3))) (aC (eV 2) aN))))) jc) (z8 (sIf (bE (e2 zh7 (eV 2) (eV 4))) (ql (zm (self) (aC (e2s qf (eV 3) (eK (.int 2))) (aC (e2s qf (eV 3) (eK (.int 3))) (aC (e2 zah (e2 zah (eV 2) (eV 4)) (eK (.int 1))) aN))))) jc) (ql (e2s qf (eV 3) (eK (.int 1))))))))
def xk:Nat->G
 |0=>fun _ _=>none
 |k+1=>qa 5 3 (zmh (xk k))
def za8(self:G):C :=
 (z8 (sIf (bE (e2 zdr (eV 1) (eK .non))) (ql (eV 2)) jc) (z8 (sIf (bE (e2 zdr (eV 2) (eK .non))) (ql (eV 1)) jc) (ql (zm (kj 40) (aC (eV 0) (aC (eV 1) (aC (zm (xk 40) (aC (eV 2) (aC (eK (.bl false)) (aC (eK (.int 0)) aN)))) (aC (zm (self) (aC (eV 0) (aC (eV 2) (aC (eK (.int 0)) aN)))) aN))))))))
def jp(self:G):G:=qa 3 3 (za8 self)
def zem(self aux:G):C :=
 (z8 (qp 3 (zm xi (aC (eV 0) (aC (eV 1) aN)))) (z8 (qp 4 (zm xn (aC (e2s qf (eV 3) (eK (.int 0))) aN))) (z8 (sIf (bE (e2 zgy (eV 2) (eV 4))) (ql (zm jt (aC (eV 0) (aC (zm (self) (aC (eV 0) (aC (e2s qf (eV 3) (eK (.int 0))) (aC (eV 2) aN)))) (aC (e2s qf (eV 3) (eK (.int 1))) (aC (e2s qf (eV 3) (eK (.int 2))) aN)))))) jc) (z8 (sIf (bE (e2 zh7 (eV 2) (eV 4))) (ql (zm jt (aC (eV 0) (aC (e2s qf (eV 3) (eK (.int 0))) (aC (e2s qf (eV 3) (eK (.int 1))) (aC (zm (self) (aC (eV 0) (aC (e2s qf (eV 3) (eK (.int 2))) (aC (e2 zah (e2 zah (eV 2) (eV 4)) (eK (.int 1))) aN)))) aN)))))) jc) (ql (zm (aux) (aC (eV 0) (aC (e2s qf (eV 3) (eK (.int 0))) (aC (e2s qf (eV 3) (eK (.int 2))) aN)))))))))
def jn:Nat->G
 |0=>fun _ _=>none
 |k+1=>qa 5 3 (zem (jn k) (jp (jn k)))
def kx:G:=jp (jn 40)
def z20:C :=
 (z8 (zbj (zm xr (aC (eV 2) (aC (zm xn (aC (eV 1) aN)) aN)))) (ql (zm (jn 40) (aC (eV 0) (aC (eV 1) (aC (eV 2) aN))))))
def zrh:G:=qa 3 3 z20
def z4s:C :=
 (z8 (zbj (zm xr (aC (eV 1) (aC (zm xn (aC (eV 0) aN)) aN)))) (ql (zm (xk 40) (aC (eV 0) (aC (eK (.bl false)) (aC (eV 1) aN))))))
def z2q:G:=qa 2 2 z4s
def z07:E :=
 (zm qv (aC (eV 1) (aC (eV 0) aN)))
def z04:G:=zcp 2 2 z07
def z06:E :=
 (e2 zlx (zm qv (aC (eV 2) (aC (eV 0) aN))) (zm qv (aC (eV 2) (aC (eV 1) aN))))
def zwv:G:=zcp 3 3 z06
open Classical in
def ztz:LT->Option G:=fun t=>
 if t=lt_0 then some z04 else
 if t=lt_1 then some zwv else
 none
def zgq:C :=
 (ql (zh9 (e2 zgy (eV 1) (zm xn (aC (eV 0) aN))) (zww (zfl ft zhf ztz (eV 3) (aC (eV 2) (aC (zm z2q (aC (eV 0) (aC (eV 1) aN))) aN))))))
def j5:G:=qa 4 4 zgq
def ze0(self:G):C :=
 (z8 (sIf (bE (e2 zdr (eV 0) (eK .non))) (ql (eK (.int 0))) jc) (z8 (qp 4 (zm zhl (aC (eV 0) (aC (eV 1) aN)))) (z8 (sIf (bE (zfl ft zhf ztz (eV 3) (aC (e2s qf (eV 4) (eK (.int 1))) (aC (eV 2) aN)))) (ql (e2 qu (e2 qu (zm xn (aC (e2s qf (eV 4) (eK (.int 0))) aN)) (eK (.int 1))) (zm (self) (aC (e2s qf (eV 4) (eK (.int 2))) (aC (e2s qf (eV 4) (eK (.int 3))) (aC (eV 2) (aC (eV 3) aN))))))) jc) (ql (zm (self) (aC (e2s qf (eV 4) (eK (.int 0))) (aC (e2s qf (eV 4) (eK (.int 3))) (aC (eV 2) (aC (eV 3) aN)))))))))
def x4:Nat->G
 |0=>fun _ _=>none
 |k+1=>qa 5 4 (ze0 (x4 k))
def zmi:C :=
 (ql (zm (x4 40) (aC (eV 0) (aC (eK (.bl false)) (aC (eV 1) (aC (eV 2) aN))))))
def ko:G:=qa 3 3 zmi
def zc4:C :=
 (z8 (qp 3 (zm ko (aC (eV 0) (aC (eV 1) (aC (eV 2) aN))))) (z8 (sIf (zdi (bE (zm j5 (aC (eV 0) (aC (eV 3) (aC (eV 1) (aC (eV 2) aN))))))) zcr jc) (ql (eV 3))))
def jq:G:=qa 4 3 zc4
def y6:R :=
 (zxv (qp 3 (zm ko (aC (eV 0) (aC (eV 1) (aC (eV 2) aN))))) (rIf (zdi (bE (zm j5 (aC (eV 0) (aC (eV 3) (aC (eV 1) (aC (eV 2) aN))))))) (zj7 "NoThing" (aC (eK (.str (Str.ofString "nothing alike is there"))) aN)) zxw))
def ja:GR:=zh1 4 3 y6
def zpv:C :=
 (ql (zm zrh (aC (eV 0) (aC (eV 1) (aC (zm jq (aC (eV 1) (aC (eV 2) (aC (eV 3) aN)))) aN)))))
def za3:G:=qa 4 4 zpv
def ze9:R :=
 (zls (eV 0) (zls (eV 1) (znp ja (aC (eV 1) (aC (eV 2) (aC (eV 3) aN))))))
def y7:GR:=zh1 4 4 ze9
def ze2:C :=
 (z8 (qp 4 (zk2 aN)) (z8 (zxp (zbj (zm za3 (aC (eV 0) (aC (eV 1) (aC (eV 2) (aC (eV 3) aN)))))) (znp y7 (aC (eV 0) (aC (eV 1) (aC (eV 2) (aC (eV 3) aN))))) up.cat 5 (z8 (qp 6 (eA (zth up) (aC (eV 5) (aC (zar (aC (eK (.fn "Changed")) (aC (eK (.fn "NoBalance")) (aC (eK (.fn "NoMore")) (aC (eK (.fn "NoName")) (aC (eK (.fn "NoNumber")) (aC (eK (.fn "NoPlace")) (aC (eK (.fn "NoRow")) (aC (eK (.fn "NoSum")) (aC (eK (.fn "NoWay")) (aC (eK (.fn "TooMany")) aN))))))))))) aN)))) (qp 4 (zk2 (aC (eA (zth up) (aC (eV 5) (aC (eK (.fn "NoThing")) aN))) (aC (eA (zth up) (aC (eV 5) (aC (eK (.ty "ValueError")) aN))) (aC (eV 6) aN))))))) (ql (eV 4))))
def yu:G:=frz (qa 7 4 ze2)
def zr6(self:G):C :=
 (z8 (sIf (bE (e2 zdr (eV 1) (eK .non))) (ql (x9 "Wood" "node" qi (eV 0) (aC (eK .non) (aC (eV 3) (aC (eK .non) aN))))) jc) (z8 (qp 4 (zm xi (aC (eV 0) (aC (eV 1) aN)))) (z8 (qp 5 (zm xn (aC (e2s qf (eV 4) (eK (.int 0))) aN))) (z8 (sIf (bE (e2 zex (eV 2) (eV 5))) (ql (zm jt (aC (eV 0) (aC (zm (self) (aC (eV 0) (aC (e2s qf (eV 4) (eK (.int 0))) (aC (eV 2) (aC (eV 3) aN))))) (aC (e2s qf (eV 4) (eK (.int 1))) (aC (e2s qf (eV 4) (eK (.int 2))) aN)))))) jc) (ql (zm jt (aC (eV 0) (aC (e2s qf (eV 4) (eK (.int 0))) (aC (e2s qf (eV 4) (eK (.int 1))) (aC (zm (self) (aC (eV 0) (aC (e2s qf (eV 4) (eK (.int 2))) (aC (e2 zah (e2 zah (eV 2) (eV 5)) (eK (.int 1))) (aC (eV 3) aN))))) aN))))))))))
def zc9:Nat->G
 |0=>fun _ _=>none
 |k+1=>qa 6 4 (zr6 (zc9 k))
def z2z:C :=
 (z8 (zbj (zm xr (aC (eV 2) (aC (e2 qu (zm xn (aC (eV 1) aN)) (eK (.int 1))) aN)))) (z8 (zbj (zm x8 (aC (e2 qu (zm xn (aC (eV 1) aN)) (eK (.int 1))) aN))) (ql (zm (zc9 40) (aC (eV 0) (aC (eV 1) (aC (eV 2) (aC (eV 3) aN))))))))
def zvy:G:=qa 4 4 z2z
def zwk:C :=
 (z8 (qp 4 (zm ko (aC (eV 1) (aC (eV 2) (aC (eV 3) aN))))) (z8 (sIf (bE (zm j5 (aC (eV 1) (aC (eV 4) (aC (eV 2) (aC (eV 3) aN)))))) (ql (eV 1)) jc) (ql (zm zvy (aC (eV 0) (aC (eV 1) (aC (eV 4) (aC (eV 2) aN))))))))
def zd9:G:=qa 5 4 zwk
def zjh(cl:zLA):C :=
 (z8 (qp 6 (ztt 0 "_law_done" { lt_1 with cl:=cl })) (z8 (qp 7 (xw [4,3] (zj1 (eV 2)) (bE (e2 kh (zm qv (aC (eV 1) (aC (eV 0) aN))) (zm qv (aC (eV 1) (aC (eV 2) aN))))) (eV 0))) (z8 (sIf (zp0 (bE (eV 5)) (bE (e2 kh (eV 7) (zk2 aN)))) (z8 (sIf (bE (e2 zew (zcx yu (aC (eV 0) (aC (eV 1) (aC (eV 3) aN))) 6 lt_1 cl [4]) (zk2 (aC (eK (.bl true)) (aC (eK (.bl true)) (aC (eK (.bl false)) aN)))))) (ql (eK .non)) jc) (ql (zar (aC (eV 1) (aC (eV 2) aN))))) jc) (z8 (sIf (bE (eV 5)) (ql (zar (aC (zcx za3 (aC (eV 0) (aC (eV 1) (aC (eV 3) aN))) 6 lt_1 cl [4]) (aC (xw [7] (zj1 (eV 2)) (bE (e2 zew (eV 0) (e2s qf (eV 1) (eK (.int 0))))) (eV 0)) aN)))) jc) (z8 (sIf (bE (e2 zew (eV 7) (zk2 aN))) (z8 (qp 8 (zcx zd9 (aC (eV 0) (aC (eV 1) (aC (eV 3) aN))) 6 lt_1 cl [4])) (z8 (sIf (bE (e2 zew (eV 8) (eV 1))) (ql (eK .non)) jc) (ql (zar (aC (eV 8) (aC (eV 2) aN)))))) jc) (z8 (qp 9 (zma [4] fun kv=>xw [6,3] (zj1 (eV 2)) (bE (zfm zwv 1 lt_1 cl kv (aC (eV 0) (aC (eV 2) aN)))) (eV 0))) (ql (zar (aC (zcx zd9 (aC (eV 0) (aC (eV 1) (aC (eV 3) aN))) 6 lt_1 cl [4]) (aC (e2 qu (e2 qu (eV 9) (zk2 (aC (eV 3) aN))) (eSl (eV 2) (pE (eA zfb (aC (eV 9) aN))) pN)) aN))))))))))
def yb:G:=gA fun cl=>qa 10 6 (zjh cl)
def zwj(self:G):C :=
 (z8 (sIf (bE (e2 kh (eV 2) (eV 3))) (ql (eK .non)) jc) (z8 (qp 4 (e2 zbp (e2 qu (eV 2) (eV 3)) (eK (.int 2)))) (z8 (qp 5 (zm (self) (aC (eV 0) (aC (eV 1) (aC (eV 2) (aC (eV 4) aN)))))) (z8 (qp 6 (zm (self) (aC (eV 0) (aC (eV 1) (aC (e2 qu (eV 4) (eK (.int 1))) (aC (eV 3) aN)))))) (ql (x9 "Wood" "node" qi (eV 0) (aC (eV 5) (aC (e2s qf (eV 1) (eV 4)) (aC (eV 6) aN)))))))))
def zge:Nat->G
 |0=>fun _ _=>none
 |k+1=>qa 7 4 (zwj (zge k))
def zpu:C :=
 (z8 (zbj (zm x8 (aC (eA zfb (aC (eV 1) aN)) aN))) (ql (zm (zge 40) (aC (eV 0) (aC (eV 1) (aC (eK (.int 0)) (aC (eA zfb (aC (eV 1) aN)) aN)))))))
def za2:G:=qa 2 2 zpu
def zen:C :=
 (sIf (zdi (bE (zgj zex zex zex (eK (.int 0)) (eV 1) (eV 2) (zm xn (aC (eV 0) aN))))) zcr jc)
def k9:G:=qa 3 3 zen
def zjf(self:G):C :=
 (z8 (sIf (bE (e2 kh (eV 2) (eK (.int 0)))) (ql (zar (aC (eK .non) (aC (eV 1) aN)))) jc) (z8 (sIf (bE (e2 kh (eV 2) (zm xn (aC (eV 1) aN)))) (ql (zar (aC (eV 1) (aC (eK .non) aN)))) jc) (z8 (qp 3 (zm xi (aC (eV 0) (aC (eV 1) aN)))) (z8 (qp 4 (zm xn (aC (e2s qf (eV 3) (eK (.int 0))) aN))) (z8 (sIf (bE (e2 zex (eV 2) (eV 4))) (z8 (qp 5 (zm (self) (aC (eV 0) (aC (e2s qf (eV 3) (eK (.int 0))) (aC (eV 2) aN))))) (ql (zar (aC (e2s qf (eV 5) (eK (.int 0))) (aC (zm (kj 40) (aC (eV 0) (aC (e2s qf (eV 5) (eK (.int 1))) (aC (e2s qf (eV 3) (eK (.int 1))) (aC (e2s qf (eV 3) (eK (.int 2))) aN))))) aN))))) jc) (z8 (qp 5 (zm (self) (aC (eV 0) (aC (e2s qf (eV 3) (eK (.int 2))) (aC (e2 zah (e2 zah (eV 2) (eV 4)) (eK (.int 1))) aN))))) (ql (zar (aC (zm (kj 40) (aC (eV 0) (aC (e2s qf (eV 3) (eK (.int 0))) (aC (e2s qf (eV 3) (eK (.int 1))) (aC (e2s qf (eV 5) (eK (.int 0))) aN))))) (aC (e2s qf (eV 5) (eK (.int 1))) aN))))))))))
def kz:Nat->G
 |0=>fun _ _=>none
 |k+1=>qa 6 3 (zjf (kz k))
def zgo:C :=
 (z8 (zbj (zm k9 (aC (eV 1) (aC (eV 2) (aC (eV 3) aN))))) (z8 (qp 4 (zm (kz 40) (aC (eV 0) (aC (eV 1) (aC (eV 3) aN))))) (z8 (qp 5 (zm (kz 40) (aC (eV 0) (aC (e2s qf (eV 4) (eK (.int 0))) (aC (eV 2) aN))))) (z8 (qp 6 (zm kx (aC (eV 0) (aC (e2s qf (eV 5) (eK (.int 0))) (aC (x9 "Wood" "turned" qq (eV 0) (aC (e2s qf (eV 5) (eK (.int 1))) aN)) aN))))) (ql (zm kx (aC (eV 0) (aC (eV 6) (aC (e2s qf (eV 4) (eK (.int 1))) aN)))))))))
def zai:G:=qa 7 4 zgo
def zmn:C :=
 (z8 (qp 3 (e2 jb (zm z5 (aC (eV 0) (aC (eK (.int 3)) aN))) (eK (.int 3)))) (z8 (sIf (bE (e2 kh (eV 3) (eK (.int 0)))) (ql (zm za2 (aC (eV 1) (aC (zk3 (aC (eV 2) aN)) aN)))) jc) (z8 (sIf (bE (e2 kh (eV 3) (eK (.int 1)))) (ql (x9 "Wood" "turned" qq (eV 1) (aC (zm za2 (aC (eV 1) (aC (zb7 (eV 2)) aN))) aN))) jc) (z8 (qp 4 (e2 jb (zm z5 (aC (eV 0) (aC (eK (.int 4)) aN))) (e2 qu (eA zfb (aC (eV 2) aN)) (eK (.int 1))))) (z8 (qp 5 (e2 qu (eV 4) (e2 jb (zm z5 (aC (eV 0) (aC (eK (.int 5)) aN))) (e2 zah (e2 qu (eA zfb (aC (eV 2) aN)) (eK (.int 1))) (eV 4))))) (z8 (qp 6 (zb7 (eSl (eV 2) (pE (eV 4)) (pE (eV 5))))) (ql (zm zai (aC (eV 1) (aC (zm za2 (aC (eV 1) (aC (e2 qu (e2 qu (eSl (eV 2) pN (pE (eV 4))) (eV 6)) (eSl (eV 2) (pE (eV 5)) pN)) aN))) (aC (eV 4) (aC (eV 5) aN))))))))))))
def y8:G:=qa 7 3 zmn
def zh0:C :=
 (z8 (sIf (zp0 (bE (e2 zgy (eV 0) (eK (.int 5)))) (bE (e2 kh (e2 jb (eV 1) (eK (.int 9))) (eK (.int 0))))) (ql (e2 zah (e2 qu (e2 jb (e2 zap (e2 qu (eV 1) (eK (.int 5))) (e2 zdq (eK (.int 982451653)) (eK (.int 6)))) (e2 zah (e2 zap (eK (.int 2)) (e2 zdq (eK (.int 10)) (eK (.int 60)))) (eK (.int 1)))) (eK (.int 1))) (e2 zdq (eK (.int 10)) (eK (.int 60))))) jc) (z8 (sIf (bE (e2 zgy (eV 0) (eK (.int 5)))) (ql (e2 zah (e2 jb (e2 zbp (eV 1) (eK (.int 9))) (eK (.int 81))) (eK (.int 40)))) jc) (z8 (qp 2 (eK (.str (Str.ofString "")))) (z8 (zil 3 (e2 qu (eK (.int 1)) (e2 jb (eV 1) (eK (.int 8)))) (qp 2 (e2 qu (eV 2) (e2s qf (eK (.str (Str.ofString "abc"))) (e2 jb (e2 zbp (eV 1) (e2s qf (zar (aC (eK (.int 8)) (aC (eK (.int 24)) (aC (eK (.int 72)) (aC (eK (.int 216)) (aC (eK (.int 648)) (aC (eK (.int 1944)) (aC (eK (.int 5832)) (aC (eK (.int 17496)) aN))))))))) (eV 3))) (eK (.int 3))))))) (ql (eV 2))))))
def ji:G:=qa 4 2 zh0
def zjg:C :=
 (z8 (qp 4 (zja aN)) (z8 (zil 5 (eV 3) (z8 (qp 6 (zm ji (aC (eV 1) (aC (zm z5 (aC (eV 0) (aC (e2 qu (eV 2) (eV 5)) aN))) aN)))) (sIf (bE (e2 kh (xw [1,6] (zj1 (eV 4)) (bE (e2 kh (zm qv (aC (eV 1) (aC (eV 0) aN))) (zm qv (aC (eV 1) (aC (eV 2) aN))))) (eV 0)) (zk2 aN))) (zav (eV 4) (eV 6)) jc))) (ql (zhq (eV 4) z04 1 "_law_some" lt_0 [1]))))
def ya:G:=frz (qa 7 4 zjg)
def zmj:C :=
 (ql (zh9 (eA zvt (aC (eV 0) (aC (eK (.ty "int")) aN))) (zww (eA zvt (aC (eV 0) (aC (eK (.ty "bool")) aN))))))
def zbh:G:=qa 1 1 zmj
def zml:C :=
 (z8 (sIf (bOr (zdi (bE (eA zvt (aC (eV 0) (aC (eK (.ty "tuple")) aN))))) (bE (e2 zew (eA zfb (aC (eV 0) aN)) (eK (.int 9))))) (ql (eK (.bl false))) jc) (z8 (sIf (zdi (bE (eA zvt (aC (e2s qf (eV 0) (eK (.int 1))) (aC (eK (.ty "bool")) aN))))) (ql (eK (.bl false))) jc) (ql (zh9 (zm zbh (aC (e2s qf (eV 0) (eK (.int 0))) aN)) (zh9 (zm zbh (aC (e2s qf (eV 0) (eK (.int 5))) aN)) (zm zbh (aC (e2s qf (eV 0) (eK (.int 6))) aN)))))))
def zcl:G:=qa 1 1 zml
def kg:C :=
 (z8 (qp 1 (e2s qf (eV 0) (eK (.int 2)))) (z8 (qp 2 (e2s qf (eV 0) (eK (.int 4)))) (z8 (sIf (zdi (bE (zm jz (aC (eV 1) (aC (eV 2) aN))))) (ql (eK (.bl false))) jc) (ql (zh9 (e2 kh (e2s qf (eV 0) (eK (.int 5))) (zm x6 (aC (eV 1) (aC (eV 2) aN)))) (e2 kh (e2s qf (eV 0) (eK (.int 6))) (zm xa (aC (eV 1) (aC (eV 2) aN)))))))))
def je:G:=qa 3 1 kg
def ke:C :=
 (z8 (qp 2 (zm xm (aC (eV 1) (aC (e2s qf (eV 0) (eK (.int 2))) (aC (e2s qf (eV 0) (eK (.int 3))) (aC (e2s qf (eV 0) (eK (.int 4))) aN)))))) (z8 (sIf (bE (e2s qf (eV 0) (eK (.int 1)))) (ql (zh9 (e2 kh (e2s qf (eV 0) (eK (.int 7))) (e2s qf (eV 2) (eK (.int 1)))) (e2 kh (e2s qf (eV 0) (eK (.int 8))) (e2s qf (eV 2) (eK (.int 0)))))) jc) (ql (zh9 (e2 kh (e2s qf (eV 0) (eK (.int 7))) (e2s qf (eV 2) (eK (.int 0)))) (e2 kh (e2s qf (eV 0) (eK (.int 8))) (e2s qf (eV 2) (eK (.int 1))))))))
def jr:G:=qa 3 2 ke
def zmk(self:G):C :=
 (z8 (sIf (bE (e2 zdr (eV 0) (eK .non))) (ql (eK (.bl true))) jc) (z8 (sIf (zdi (bE (zm zcl (aC (eV 0) aN)))) (ql (eK (.bl false))) jc) (z8 (sIf (bOr (zdi (bE (zm (self) (aC (e2s qf (eV 0) (eK (.int 2))) (aC (eV 1) aN))))) (zdi (bE (zm (self) (aC (e2s qf (eV 0) (eK (.int 4))) (aC (eV 1) aN)))))) (ql (eK (.bl false))) jc) (ql (zh9 (zm je (aC (eV 0) aN)) (zm jr (aC (eV 0) (aC (eV 1) aN))))))))
def xy:Nat->G
 |0=>fun _ _=>none
 |k+1=>qa 2 2 (zmk (xy k))
def zr9(self:G):C :=
 (z8 (sIf (bE (e2 zdr (eV 0) (eK .non))) zxq jc) (z8 (qp 3 (zm zhl (aC (eV 0) (aC (eV 1) aN)))) (z8 (zbj (zm (self) (aC (e2s qf (eV 3) (eK (.int 0))) (aC (e2s qf (eV 3) (eK (.int 3))) (aC (eV 2) aN))))) (z8 (zav (eV 2) (e2s qf (eV 3) (eK (.int 1)))) (zbj (zm (self) (aC (e2s qf (eV 3) (eK (.int 2))) (aC (e2s qf (eV 3) (eK (.int 3))) (aC (eV 2) aN)))))))))
def zda:Nat->G
 |0=>fun _ _=>none
 |k+1=>qa 4 3 (zr9 (zda k))
def zel:C :=
 (z8 (qp 1 (zja aN)) (z8 (zbj (zm (zda 40) (aC (eV 0) (aC (eK (.bl false)) (aC (eV 1) aN))))) (ql (eV 1))))
def jy:G:=frz (qa 2 1 zel)
end
end Pg
namespace Pg
open PySem L2 F Mt
class Kd (k:Nat):Prop where
 eq:k=0\/k=2
instance:Kd 0:=⟨.inl rfl⟩
instance:Kd 2:=⟨.inr rfl⟩
variable {k:Nat} [Kd k] {S S0 S1:Sto}{ev:Ev}
def zad(k:Nat):D:=match k with
 |2=>.lam lt_2
 |_=>.non
theorem zp3(hk:k≠0):(∃z,zad k=.fn z)\/∃z,zad k=.lam z:=by
 rcases Kd.eq (k:=k)with h | h
 · exact absurd h hk
 · subst h;exact .inr ⟨_,rfl⟩
theorem l2:zhf lt_2=some z2p:=by unfold zhf;rw[z5s rfl]
theorem zwo{f:E}{as:As}{x y:D}{n m:Nat}(hk:k≠0)(h:f ev S=some (zad k,S))(ha:as ev S=some ([x,y],S))(hx:Th k n x)(hy:Th k m y)(hn:n+m<=4000):zac ft zhf f as ev S=some (ad k x y,S):=by
 have hz:sizeLine=16777216:=z60;unfold zac;rw[h];rcases Kd.eq (k:=k)with e | e
 · exact absurd e hk
 · subst e;obtain⟨i,rfl,h⟩:=hx;obtain⟨j,rfl,h'⟩:=hy;simp only[zad,Option.bind_some,l2,ha];show e2 qu (eV 0) (eV 1) [some (.str i),some (.str j)] S=_;simp[e2,eV,qu,ad,isS,show i.length+j.length<=sizeLine by omega]
end Pg
namespace Pg
open PySem L2 F Mt
variable {k:Nat} [Kd k] {d l r t:D}{ts lt rt:List D}{h lh rh:Nat}{S S1:Sto}{ev e:Ev}
theorem zst(a b c d e f g h i:D)(S:Sto):xn [.tup [a,b,c,d,e,f,g,h,i]] S=some (f,S):=rfl
theorem zkt(a b c d e f g h i:D)(S:Sto):jd [.tup [a,b,c,d,e,f,g,h,i]] S=some (g,S):=rfl
theorem zm6(a b c d e f g h i:D)(S:Sto):zaj [.tup [a,b,c,d,e,f,g,h,i]] S=some (h,S):=rfl
theorem zt1(a b c d e f g h i:D)(S:Sto):zd8 [.tup [a,b,c,d,e,f,g,h,i]] S=some (i,S):=rfl
theorem j8(m:Mk k d ts h)(S:Sto):xn [d] S=some (.int ts.length,S):=by
 cases m with
 |non=>rfl
 |node _ _ _ _ _=>rw[mkD,zst,xx];simp;omega
theorem qm(m:Mk k d ts h)(S:Sto):jd [d] S=some (.int h,S):=by
 cases m with
 |non=>rfl
 |node _ _ _ _ _=>rw[mkD,zkt]
theorem zjw(m:Mk k d ts h)(S:Sto):zaj [d] S=some (yg k ts,S):=by
 cases m with
 |non=>rfl
 |node _ _ _ _ _=>rw[mkD,zm6]
theorem zpz(m:Mk k d ts h)(S:Sto):zd8 [d] S=some (yg k ts.reverse,S):=by
 cases m with
 |non=>rfl
 |node _ _ _ _ _=>rw[mkD,zt1]
theorem zb1(ml:Mk k l lt lh)(mr:Mk k r rt rh)(S:Sto):x6 [l,r] S=some (.int (lt.length+1+rt.length:Nat),S):=by simp[x6,qa,zcz,ql,e2,zm,aC,aN,eV,eK,qu,j8 ml,j8 mr]
theorem za0(ml:Mk k l lt lh)(mr:Mk k r rt rh)(S:Sto):xa [l,r] S=some (.int (max lh rh+1:Nat),S):=by simp[xa,qa,zbo,ql,e2,zm,aC,aN,eV,eK,qu,eA,zy3,qm ml,qm mr];split<;>omega
theorem ki(ml:Mk k l lt lh)(mr:Mk k r rt rh)(S:Sto):jz [l,r] S=some (.bl (decide (lh<=rh+1/\rh<=lh+1)),S):=by simp[jz,qa,zc0,ql,e2,zm,aC,aN,eV,eK,zah,zex,F.opI,zq7,eA,zwy,qm ml,qm mr];rw[z93];simp;split<;>omega
theorem zt6{a b:E}{x y:D}{n m:Nat}(hk:k≠0)(h0:ev[0]? = some (some (zad k)))(ha:a ev S=some (x,S))(hb:b ev S=some (y,S))(hx:Th k n x)(hy:Th k m y)(hn:n+m<=4000):zac ft zhf (eV 0) (aC a (aC b aN)) ev S=some (ad k x y,S):=by exact zwo hk (e_v h0) (a_c ha (a_c hb a_n)) hx hy hn
theorem zle{gs:G}{w:E->E}{p q:Nat}{x y:D}{xt yt:List D}(hk:k≠0)(ht:Thing k t)(hn:xt.length+1+yt.length<=2000)(hx:∀z∈xt,Thing k z)(hy:∀z∈yt,Thing k z)(ex:x=.non/\xt=[]\/xt≠[]/\∃xs,x=.tup xs)(ey:y=.non/\yt=[]\/yt≠[]/\∃ys,y=.tup ys)
   (ev0:Ev) (S:Sto) (e0:ev0[0]? = some (some (zad k))) (et:ev0[2]? = some (some t)) (ep:ev0[p]? = some (some x)) (eq:ev0[q]? = some (some y)) (hl:ev0.length=5) (hp:p<4) (hq:q<4) (hx':∀ev:Ev,ev[p]? = some (some x)->w (eV p) ev S=some (yg k xt,S)) (hy':∀ev:Ev,ev[q]? = some (some y)->w (eV q) ev S=some (yg k yt,S)) :
   z8 (qp 4 (eV 2)) (z8 (sIf (bE (e2 kt (eV p) (eK .non))) (qp 4 (zac ft zhf (eV 0) (aC (w (eV p)) (aC (eV 4) aN)))) jc) (z8 (sIf (bE (e2 kt (eV q) (eK .non))) (qp 4 (zac ft zhf (eV 0) (aC (eV 4) (aC (w (eV q)) aN)))) jc) (ql (eV 4)))) ev0 S=some (.rt (yg k (xt++t::yt)),S):=by
 have tt:=ht.th hk;have g4:∀(d:D) (i:Nat),i<4->(ev0.set 4 (some d))[i]? = ev0[i]?:=fun d i hi=>z6u (by omega);have s4:∀(ev:Ev) (d:D),ev.length=5->(ev.set 4 (some d))[4]? = some (some d):=fun ev d h=>z6b (by omega);have ss:∀(d e:D),(ev0.set 4 (some d)).set 4 (some e)=ev0.set 4 (some e):=fun d e=>by simp
 have step2:∀(acc:D) (n:Nat),Th k n acc->n+yt.length<=2000->∀{res:D},(yt=[]->res=acc)->(yt≠[]->res=ad k acc (yg k yt)) ->
     z8 (sIf (bE (e2 kt (eV q) (eK .non))) (qp 4 (zac ft zhf (eV 0) (aC (eV 4) (aC (w (eV q)) aN)))) jc) (ql (eV 4)) (ev0.set 4 (some acc)) S=some (.rt res,S):=by
   intro acc n ha hb res r1 r2;rcases ey with⟨e1,e2'⟩ | ⟨e1,ys,e2'⟩
   · rw[r1 e2'];exact zh (zn (qg (e_2 (e_v (by rw[g4 _ _ hq,eq])) e_k (by rw[e1];rfl)))) (zw (e_v (s4 _ _ hl)))
   · rw[r2 e1];refine zh (qb (qg (e_2 (e_v (by rw[g4 _ _ hq,eq])) e_k (by rw[e2'];rfl))) (zq (zt6 hk (by rw[g4 _ _ (by decide),e0]) (e_v (s4 _ _ hl)) (hy' _ (by rw[g4 _ _ hq,eq])) ha (ze6 hk e1 hy) (by omega)))) (zw (e_v ?_));rw[ss];exact s4 _ _ hl
 refine zh (zq (e_v et)) ?_;rcases ex with⟨e1,e2'⟩ | ⟨e1,xs,e2'⟩
 · subst e2';refine zh (zn (qg (e_2 (e_v (by rw[g4 _ _ hp,ep])) e_k (by rw[e1];rfl)))) (step2 t 1 tt (by simp at hn;omega) (fun z=>by rw[z,List.nil_append,zb0 hk]) fun z=>?_);rw[List.nil_append,show t::yt=[t]++yt from rfl,zag hk (by simp) z,zb0 hk]
 · have t1:=ze6 hk e1 hx;have e3:yg k (xt++[t])=ad k (yg k xt) t:=by rw[zag hk e1 (by simp),zb0 hk]
   refine zh (qb (qg (e_2 (e_v (by rw[g4 _ _ hp,ep])) e_k (by rw[e2'];rfl))) (zq (zt6 hk (by rw[g4 _ _ (by decide),e0]) (hx' _ (by rw[g4 _ _ hp,ep])) (e_v (s4 _ _ hl)) t1 tt (by omega)))) ?_;rw[ss];exact step2 _ _ (t1.ad tt) (by omega) (fun z=>by rw[z,e3]) fun z=>by rw[show xt++t::yt=(xt++[t])++yt by simp,zag hk (by simp) z,e3]
theorem zkf{xs:List D}(m:Mk k d ts h):d=.non/\ts=[]\/ts≠[]/\∃xs,d=.tup xs:=by
 cases m with
 |non=>exact .inl ⟨rfl,rfl⟩
 |node _ _ _ _ _=>exact .inr ⟨by intro z;have:=z7a List.length z;rw[xx]at this;simp at this,_,rfl⟩
theorem zn4(hk:k≠0)(ml:Mk k l lt lh)(mr:Mk k r rt rh)(ht:Thing k t)(hn:lt.length+1+rt.length<=2000)(S:Sto) :
   za1 [zad k,l,t,r] S=some (yg k (lt++t::rt),S) :=
 ju rfl (zle (w:=fun x=>zm zaj (aC x aN)) (p:=1) (q:=3) (gs:=zaj) hk ht hn ml.things mr.things (zkf (xs:=[]) ml) (zkf (xs:=[]) mr) _ S rfl rfl rfl rfl rfl (by decide) (by decide) (fun ev h=>zi (a_c (e_v h) a_n) (zjw ml S)) (fun ev h=>zi (a_c (e_v h) a_n) (zjw mr S)))
theorem zjn(hk:k≠0)(ml:Mk k l lt lh)(mr:Mk k r rt rh)(ht:Thing k t)(hn:lt.length+1+rt.length<=2000)(S:Sto) :
   yr [zad k,l,t,r] S=some (yg k (lt++t::rt).reverse,S):=by
 have rev:(lt++t::rt).reverse=rt.reverse++t::lt.reverse:=by simp
 have no:∀{d:D}{ts:List D},(d=.non/\ts=[]\/ts≠[]/\∃xs,d=.tup xs)->(d=.non/\ts.reverse=[]\/ts.reverse≠[]/\∃xs,d=.tup xs):=fun h=>by simpa using h
 rw[rev];exact ju rfl (zle (w:=fun x=>zm zd8 (aC x aN)) (p:=3) (q:=1) (gs:=zaj) hk ht (by simp;omega) (fun z hz=>mr.things z (z7n.mp hz)) (fun z hz=>ml.things z (z7n.mp hz)) (no (zkf (xs:=[]) mr)) (no (zkf (xs:=[]) ml)) _ S rfl rfl rfl rfl rfl (by decide) (by decide) (fun ev h=>zi (a_c (e_v h) a_n) (zpz mr S)) (fun ev h=>zi (a_c (e_v h) a_n) (zpz ml S)))
theorem zby(ml:Mk k l lt lh)(mr:Mk k r rt rh)(ht:Thing k t)(hn:lt.length+1+rt.length<=2000)(S:Sto) :
   xm [zad k,l,t,r] S=some (.tup [yg k (lt++t::rt),yg k (lt++t::rt).reverse],S):=by
 by_cases hk:k=0
 · subst hk;simp[xm,qa,za7,zad,z8,sIf,ql,bE,e2,eV,eK,zdr,zon,zar,eA,aC,aN,zsm,zbz]
 · have o:=zn4 hk ml mr ht hn;have b:=zjn hk ml mr ht hn;rcases zp3 (k:=k) hk with⟨zz,hav⟩ | ⟨zz,hav⟩<;>rw[hav]at o b ⊢<;>simp only[xm,qa,za7] <;>
   simp[z8,sIf,ql,jc,bE,e2,eV,eK,zdr,zon,zar,eA,aC,aN,zsm,zm,o,b]
def wd(ad:D)(n:Int):MO:=.ins "Wood" [("adding",ad),("nodes_made",.int n)]
theorem na:((Str.ofString "nodes_made")==(Str.ofString "adding"))=false:=by decide +kernel
theorem na':¬ (Str.ofString "adding"=Str.ofString "nodes_made"):=by decide +kernel
theorem na2:((Str.ofString "numbered")==(Str.ofString "adding"))=false:=by decide +kernel
theorem na3:((Str.ofString "numbered")==(Str.ofString "nodes_made"))=false:=by decide +kernel
theorem na4:((Str.ofString "node")==(Str.ofString "adding"))=false:=by decide +kernel
theorem na5:((Str.ofString "node")==(Str.ofString "nodes_made"))=false:=by decide +kernel
theorem na8:((Str.ofString "turned")==(Str.ofString "adding"))=false:=by decide +kernel
theorem na9:((Str.ofString "turned")==(Str.ofString "nodes_made"))=false:=by decide +kernel
theorem zds{i:Nat}{av:D}{n:Int}{xs:List D}(h:S[i]? = some (wd av n))(hl:1+xs.length<=sizeLine) :
   j0 [.obj i,.tup xs] S=some (.tup (.int n::xs),S.set i (wd av (n+1))):=by
 have h1:(1:Nat)<=sizeLine:=by decide
 unfold wd at h ⊢;simp[j0,qa,za9,z8,qp,zwx,eV,zd6,h,zlo,e2,qu,eK,ql,zar,aC,aN,eA,zs2,List.lookup,na,na',hl,h1]
def wfs(av:D)(n:Int):List (Str×D):=[("adding",av),("nodes_made",.int n)]
theorem qw{i:Nat}{av:D}{n:Int}(h:S[i]? = some (wd av n)):zd6 (Str.ofString "Wood") S (.obj i)=some (i,wfs av n):=by simp[zd6,h,wd,wfs]
theorem xq(av:D)(n:Int):(wfs av n).lookup (Str.ofString "node")=none:=by simp[wfs,List.lookup,na4,na5]
theorem zbw(av:D)(n:Int):(wfs av n).lookup (Str.ofString "turned")=none:=by simp[wfs,List.lookup,na8,na9]
theorem zmz(av:D)(n:Int):(wfs av n).lookup (Str.ofString "adding")=some av:=by simp[wfs,List.lookup]
theorem zdl(av:D)(n:Int):(wfs av n).lookup (Str.ofString "numbered")=none:=by simp[wfs,List.lookup,na2,na3]
theorem yo{f:E}(h:f ev S=some (d,S1)):zbj f ev S=some (.nx ev,S1):=by simp[zbj,h]
theorem z1d{N n:Nat}{c:C}{ds:List D}{S S':Sto}{e:Ev}(hl:ds.length=n)(h:c (ds.map some++List.replicate (N-ds.length) none) S=some (.nx e,S')):qa N n c ds S=some (.non,S'):=by unfold qa;rw[z5s hl,h]
theorem z2n{x y:Int}(h:x<=y):zh7 (.int x) (.int y)=some (.bl false):=by show some (D.bl (decide (y<x)))=_;rw[z5o (by omega)]
theorem zim{m:Nat}(h:m<=2000)(S:Sto):x8 [.int m] S=some (.non,S):=z1d rfl (zn (qg (e_2 (e_v rfl) e_k (z2n (by omega)))))
theorem zvg{i:Nat}{n:Int}(h:S[i]? = some (wd (zad k) n))(ml:Mk k l lt lh)(mr:Mk k r rt rh)(ht:Thing k t)(h1:lh<=rh+1)(h2:rh<=lh+1)(hn:lt.length+1+rt.length<=2000) :
   qi [.obj i,l,t,r] S=some (mkD n false l t r (lt.length+1+rt.length:Nat) (max lh rh+1:Nat) (yg k (lt++t::rt)) (yg k (lt++t::rt).reverse),S.set i (wd (zad k) (n+1))):=by
 have hz:sizeLine=16777216:=z60;have q:=zb1 ml mr S;have b:=ki ml mr S;have hh:=za0 ml mr S;have sa:=zby ml mr ht hn S;rw[z5z (show lh<=rh+1/\rh<=lh+1 from⟨h1,h2⟩)]at b;exact ju rfl (zh (zq (zi (a_c (e_v rfl) (a_c (e_v rfl) a_n)) q)) (zh (yo (zi (a_c (e_v rfl) a_n) (zim hn S))) (zh (zn (zt3 (qg (zi (a_c (e_v rfl) (a_c (e_v rfl) a_n)) b)))) (zh (zq (yf (a_c (e_v rfl) (a_c (zi (a_c (e_v rfl) (a_c (e_v rfl) a_n)) hh) a_n)) (by simp))) (zh (zq (zi (a_c (z2w (e_v rfl) (qw h) (zmz _ _)) (a_c (e_v rfl) (a_c (e_v rfl) (a_c (e_v rfl) a_n)))) sa)) (zw (xo (e_v rfl) (qw h) (zdl _ _) (a_c (e_2 (e_2 (yf (a_c e_k (a_c (e_v rfl) (a_c (e_v rfl) (a_c (e_v rfl) a_n)))) (by simp)) (e_v rfl) (zgv (by simp))) (e_v rfl) (zgv (by simp))) a_n) (zds h (by simp;omega)))))))))
theorem zvh{n:Int}(ml:Mk k l lt lh)(mr:Mk k r rt rh)(ht:Thing k t)(h1:lh<=rh+1)(h2:rh<=lh+1) :
   Mk k (mkD n false l t r (lt.length+1+rt.length:Nat) (max lh rh+1:Nat) (yg k (lt++t::rt)) (yg k (lt++t::rt).reverse)) (lt++t::rt) (max lh rh+1):=by
 have:=Mk.node (num:=n) (a:=false) ml mr ht h1 h2;simpa [ord] using this
theorem zlg{i:Nat}:qq [.obj i,.non] S=some (.non,S):=rfl
theorem zqa{i:Nat}{n num:Int}{av:D}{a:Bool}{sz ht:Int}{to ba:D}(h:S[i]? = some (wd av n)) :
   qq [.obj i,mkD num a l t r sz ht to ba] S=some (mkD n (!a) l t r sz ht ba to,S.set i (wd av (n+1))):=by
 have hz:sizeLine=16777216:=z60;unfold mkD;exact ju rfl (zh (zn (qg (e_2 (e_v rfl) e_k rfl))) (zh (zq (yf (a_c (qt (e_v rfl) e_k rfl) (a_c (qt (e_v rfl) e_k rfl) (a_c (qt (e_v rfl) e_k rfl) a_n))) (by simp))) (zw (xo (e_v rfl) (qw h) (zdl _ _) (a_c (e_2 (e_2 (yf (a_c (z0f (qt (e_v rfl) e_k rfl)) a_n) (by simp)) (e_v rfl) (zgv (by simp))) (yf (a_c (zi (a_c (e_v rfl) a_n) (zst _ _ _ _ _ _ _ _ _ _)) (a_c (zi (a_c (e_v rfl) a_n) (zkt _ _ _ _ _ _ _ _ _ _)) (a_c (zi (a_c (e_v rfl) a_n) (zt1 _ _ _ _ _ _ _ _ _ _)) (a_c (zi (a_c (e_v rfl) a_n) (zm6 _ _ _ _ _ _ _ _ _ _)) a_n)))) (by simp)) (zgv (by simp))) a_n) (zds h (by simp;omega))))))
theorem zm2{num n:Int}{a:Bool}{sz ht:Int}{to ba:D}(m:Mk k (mkD num a l t r sz ht to ba) ts h):Mk k (mkD n (!a) l t r sz ht ba to) ts.reverse h:=by
 generalize hd:mkD num a l t r sz ht to ba=d at m;cases m with
 |non=>cases hd
 | @node num' a' l' t' r' lt rt lh rh ml mr ht' h1 h2=>
   unfold mkD at hd;injection hd with hd;simp only[z7k,D.int.injEq,D.bl.injEq,and_true]at hd;obtain⟨rfl,rfl,rfl,rfl,rfl,rfl,rfl,rfl,rfl⟩:=hd;have:=Mk.node (num:=n) (a:=!a) ml mr ht' h1 h2;have e:ord (!a) (lt++t::rt)=(ord a (lt++t::rt)).reverse:=by cases a<;>simp[ord]
   rw[e,z7p]at this;exact this
theorem zv2(num:Int)(a:Bool)(l t r:D)(sz ht:Int)(to ba:D)(S:Sto):zcl [mkD num a l t r sz ht to ba] S=some (.bl true,S):=rfl
theorem zix{num:Int}{a:Bool}{to ba:D}(ml:Mk k l lt lh)(mr:Mk k r rt rh)(h1:lh<=rh+1)(h2:rh<=lh+1)(S:Sto) :
   je [mkD num a l t r (lt.length+1+rt.length:Nat) (max lh rh+1:Nat) to ba] S=some (.bl true,S):=by
 have q:=zb1 ml mr;have b:=ki ml mr;have hh:=za0 ml mr;have hb:decide (lh<=rh+1/\rh<=lh+1)=true:=by simp;omega
 rw[hb]at b;generalize ((lt.length+1+rt.length:Nat):Int)=z at q ⊢;generalize ((max lh rh+1:Nat):Int)=y at hh ⊢;unfold mkD;simp[je,qa,kg,z8,qp,sIf,ql,jc,bE,zdi,e2,e2s,eV,eK,zm,aC,aN,qf,zvs,zvr,z2k,z2j,b,q,hh,zh9,zfj]
theorem zuh{num:Int}{a:Bool}{sz hh:Int}(ml:Mk k l lt lh)(mr:Mk k r rt rh)(ht:Thing k t)(hn:lt.length+1+rt.length<=2000)(S:Sto) :
   jr [mkD num a l t r sz hh (yg k (ord a (lt++t::rt))) (yg k (ord a (lt++t::rt)).reverse),zad k] S=some (.bl true,S):=by
 have sa:=zby ml mr ht hn;have th:∀x∈lt++t::rt,Thing k x:=fun x hx=>by
   rcases z5x.mp hx with q | q
   · exact ml.things x q
   · rcases z5p.mp q with rfl | q
     · exact ht
     · exact mr.things x q
 have e1:=ztp th;have e2':=ztp (k:=k) (ts:=(lt++t::rt).reverse) fun x hx=>th x (z7n.mp hx);have i0:∀x y:D,atI [x,y] (0:Int)=some x:=fun _ _=>rfl;have i1:∀x y:D,atI [x,y] (1:Int)=some y:=fun _ _=>rfl;cases a
 · simp only[ord,z5e,z6i];generalize yg k (lt++t::rt)=s1 at sa e1 ⊢;generalize yg k (lt++t::rt).reverse=s2 at sa e2' ⊢;unfold mkD;simp only[jr,qa,ke];simp[z8,qp,sIf,ql,jc,bE,zdi,e2,e2s,eV,eK,zm,aC,aN,qf,zzs,zvs,zzr,zvr,zzq,zzp,sa,zh9,e1,e2',i0,i1]
 · simp only[ord,z61,z7p];generalize yg k (lt++t::rt)=s1 at sa e1 ⊢;generalize yg k (lt++t::rt).reverse=s2 at sa e2' ⊢;unfold mkD;simp only[jr,qa,ke];simp[z8,qp,sIf,ql,jc,bE,zdi,e2,e2s,eV,eK,zm,aC,aN,qf,zzs,zvs,zzr,zvr,zzq,zzp,sa,zh9,e1,e2',i0,i1]
theorem zi1(m:Mk k d ts h):∀{n:Nat},h<n->ts.length<=2000->∀S,xy n [d,zad k] S=some (.bl true,S):=by
 induction m with
 | non=>
   intro n hn _ S;cases n with
   |zero=>omega
   |succ n=>rfl
 | @node num a l t r lt rt lh rh ml mr ht h1 h2 il ir=>
   intro n hn hl S;cases n with
   |zero=>omega
   | succ n=>
     rw[xx]at hl;simp only[z42,List.length_cons]at hl;have el:=il (n:=n) (by omega) (by omega) S;have er:=ir (n:=n) (by omega) (by omega) S;have me:=zix (num:=num) (a:=a) (t:=t) (to:=yg k (ord a (lt++t::rt))) (ba:=yg k (ord a (lt++t::rt)).reverse) ml mr h1 h2 S;have su:=zuh (num:=num) (a:=a) (sz:=(lt.length+1+rt.length:Nat)) (hh:=(max lh rh+1:Nat)) ml mr ht (by omega) S;have fo:=zv2 num a l t r (lt.length+1+rt.length:Nat) (max lh rh+1:Nat) (yg k (ord a (lt++t::rt))) (yg k (ord a (lt++t::rt)).reverse) S;unfold mkD at me su fo ⊢;exact ju rfl (zh (zn (qg (e_2 (e_v rfl) e_k rfl))) (zh (zn (zt3 (qg (zi (a_c (e_v rfl) a_n) fo)))) (zh (zn (z0s (zt3 (qg (zi (a_c (qt (e_v rfl) e_k rfl) (a_c (e_v rfl) a_n)) el))) (zt3 (qg (zi (a_c (qt (e_v rfl) e_k rfl) (a_c (e_v rfl) a_n)) er))))) (zw (zts (zi (a_c (e_v rfl) a_n) me) (zi (a_c (e_v rfl) (a_c (e_v rfl) a_n)) su))))))
theorem zmy(S:Sto)(av:D):q8 [.obj S.length,av] (S++[.ins (Str.ofString "Wood") []])=some (.non,S++[wd av 0]):=by
 have q1:(S++[MO.ins (Str.ofString "Wood") []])[S.length]? = some (MO.ins (Str.ofString "Wood") []):=by simp
 have q2:∀a b:MO,(S++[a]).set S.length b=S++[b]:=by intro a b;simp
 have q3:∀a:MO,(S++[a])[S.length]? = some a:=by intro a;simp
 simp[q8,qa,zba,z8,zlo,eV,eK,zd6,zs2,na',wd,q1,q2,q3]
theorem zw3{g:E}{av:D}(h:g ev S=some (av,S)):zl9 (Str.ofString "Wood") q8 (aC g aN) ev S=some (.obj S.length,S++[wd av 0]):=by simp[zl9,aC,aN,h,zmy]
inductive Tnd (n:Int):D->D->Int->Prop where
 |non:Tnd n .non .non n
 |node {num:Int}{a:Bool}{l t r:D}{sz ht:Int}{to ba:D}:Tnd n (mkD num a l t r sz ht to ba) (mkD n (!a) l t r sz ht ba to) (n+1)
structure At (S S':Sto) (i:Nat) (av:D) (n n':Int):Prop where
 at_:S'[i]? = some (wd av n')
 le:n<=n'
 ne:∀j,j≠i->S'[j]? = S[j]?
 len:S'.length=S.length
theorem At.refl{i:Nat}{av:D}{n:Int}(h:S[i]? = some (wd av n)):At S S i av n n:=⟨h,Int.le_refl _,fun _ _=>rfl,rfl⟩
theorem At.set{i:Nat}{av:D}{n n':Int}(h:S[i]? = some (wd av n))(hn:n<=n'):At S (S.set i (wd av n')) i av n n':=⟨zng h,hn,fun j hj=>zxl (z7q hj) _,by simp⟩
theorem At.trans {S2:Sto}{i:Nat}{av:D}{n n' n'':Int} (a:At S S1 i av n n') (b:At S1 S2 i av n' n''):At S S2 i av n n'':=⟨b.at_,Int.le_trans a.le b.le,fun j hj=>(b.ne j hj).trans (a.ne j hj),b.len.trans a.len⟩
theorem zcf{i:Nat}{av:D}{n:Int}(m:Mk k d ts h)(hw:S[i]? = some (wd av n)):∃d' n' S',qq [.obj i,d] S=some (d',S')/\Mk k d' ts.reverse h/\Tnd n d d' n'/\At S S' i av n n':=by
 have m0:=m;cases m with
 |non=>exact⟨.non,n,S,zlg,.non,.non,At.refl hw⟩
 |node ml mr ht h1 h2=>exact⟨_,_,_,zqa hw,zm2 m0,.node,At.set hw (by omega)⟩
theorem zq4{i:Nat}{n num:Int}{av:D}{a:Bool}{sz ht:Int}{to ba:D}(m:Mk k (mkD num a l t r sz ht to ba) ts h)(hw:S[i]? = some (wd av n)) :
   ∃x y n' S' xt yt xh yh,xi [.obj i,mkD num a l t r sz ht to ba] S=some (.tup [x,t,y],S')/\At S S' i av n n'/\Mk k x xt xh/\Mk k y yt yh/\ts=xt++t::yt/\h=max xh yh+1/\xh<=yh+1/\yh<=xh+1/\Thing k t /\
     ((a=false/\x=l/\y=r/\n'=n/\S'=S)\/(a=true/\∃n1,Tnd n r x n1/\Tnd n1 l y n')):=by
 have hs:(3:Nat)<=16777216:=by decide
 generalize hd:mkD num a l t r sz ht to ba=d at m;cases m with
 |non=>cases hd
 | @node num' a' l' t' r' lt rt lh rh ml mr ht' h1 h2=>
   unfold mkD at hd;injection hd with hd;simp only[z7k,D.int.injEq,D.bl.injEq,and_true]at hd;obtain⟨rfl,rfl,rfl,rfl,rfl,rfl,rfl,rfl,rfl⟩:=hd;generalize ((lt.length+1+rt.length:Nat):Int)=sz;generalize ((max lh rh+1:Nat):Int)=hh;generalize yg k (ord a (lt++t::rt))=to;generalize yg k (ord a (lt++t::rt)).reverse=ba;cases a
   · refine⟨l,r,n,S,lt,rt,lh,rh,?_,At.refl hw,ml,mr,rfl,rfl,h1,h2,ht',.inl ⟨rfl,rfl,rfl,rfl,rfl⟩⟩;rfl
   · obtain⟨x,n1,S1,c1,mx,t1,w1⟩:=zcf mr hw;obtain⟨y,n2,S2,c2,my,t2,w2⟩:=zcf ml w1.at_;refine⟨x,y,n2,S2,rt.reverse,lt.reverse,rh,lh,?_,w1.trans w2,mx,my,by simp[ord],by rw[Nat.max_comm],h2,h1,ht',.inr ⟨rfl,n1,t1,t2⟩⟩;have f0:zdi (bE (e2s qf (eV 1) (eK (.int 1)))) [some (.obj i),some (.tup [.int num,.bl true,l,t,r,.int sz,.int hh,to,ba]),none,none] S=some (false,S):=rfl;have f1:qp 2 (x9 "Wood" "turned" qq (eV 0) (aC (e2s qf (eV 1) (eK (.int 4))) aN)) [some (.obj i),some (.tup [.int num,.bl true,l,t,r,.int sz,.int hh,to,ba]),none,none] S=some (.nx [some (.obj i),some (.tup [.int num,.bl true,l,t,r,.int sz,.int hh,to,ba]),some x,none],S1) :=
       zq (xo (e_v rfl) (qw hw) (zbw _ _) (a_c (qt (e_v rfl) e_k rfl) a_n) c1)
     have f2:qp 3 (x9 "Wood" "turned" qq (eV 0) (aC (e2s qf (eV 1) (eK (.int 2))) aN)) [some (.obj i),some (.tup [.int num,.bl true,l,t,r,.int sz,.int hh,to,ba]),some x,none] S1=some (.nx [some (.obj i),some (.tup [.int num,.bl true,l,t,r,.int sz,.int hh,to,ba]),some x,some y],S2) :=
       zq (xo (e_v rfl) (qw w1.at_) (zbw _ _) (a_c (qt (e_v rfl) e_k rfl) a_n) c2)
     have f3:ql (zar (aC (eV 2) (aC (e2s qf (eV 1) (eK (.int 3))) (aC (eV 3) aN)))) [some (.obj i),some (.tup [.int num,.bl true,l,t,r,.int sz,.int hh,to,ba]),some x,some y] S2=some (.rt (.tup [x,t,y]),S2):=by unfold ql;rw[yf (a_c (e_v rfl) (a_c (qt (e_v rfl) e_k rfl) (a_c (e_v rfl) a_n))) (by simp)];rfl
     simp only[xi,qa,zpt,mkD];simp only[List.length_cons,List.length_nil,Nat.reduceAdd,z61,z5j,List.map_nil,Nat.reduceSub,List.replicate,List.cons_append,List.nil_append];simp only[z8,sIf,f0,Option.bind_some,z5e,z6i,jc,f1,f2,f3]
end Pg
namespace Pg
open PySem L2 F Mt
variable {k:Nat} [Kd k] {d l r t x y:D}{ts lt rt:List D}{h lh rh i:Nat}{n:Int}{S S0 S1:Sto}{ev e:Ev}{P Q:D->Prop}{a b new:List D}
def num:D->Int
 | .tup (.int n::_)=>n
 |_=>0
inductive All (P:D->Prop):D->Prop where
 |non:All P .non
 |node {m:Int}{a:Bool}{l t r:D}{sz ht:Int}{to ba:D}:P (mkD m a l t r sz ht to ba)->All P l->All P r->All P (mkD m a l t r sz ht to ba)
theorem All.inv{m:Int}{a:Bool}{sz ht:Int}{to ba:D}(h:All P (mkD m a l t r sz ht to ba)):All P l/\All P r:=by
 generalize e:mkD m a l t r sz ht to ba=d at h;cases h with
 |non=>cases e
 | node _ b c=>
   unfold mkD at e;injection e with e;simp only[z7k,and_true]at e;obtain⟨_,_,rfl,_,rfl,_⟩:=e;exact⟨b,c⟩
theorem All.mono(h:All P d)(f:∀v,P v->Q v):All Q d:=by
 induction h with
 |non=>exact .non
 |node a _ _ b c=>exact .node (f _ a) b c
def Ac(P:D->Prop)(n:Int)(new:List D)(v:D):Prop:=P v\/∃j:Nat,new[j]? = some v/\num v=n+j
theorem Ac.app{v:D}(h:Ac P n a v):Ac P n (a++b) v:=h.imp id fun⟨j,h1,h2⟩=>⟨j,by rw[z55 (z5b.mp h1).1,h1],h2⟩
theorem Ac.two{v:D}(h:Ac (Ac P n a) (n+a.length) b v):Ac P n (a++b) v:=by
 rcases h with h | ⟨j,h1,h2⟩
 · exact h.app
 · exact .inr ⟨a.length+j,by rw[z5t (z5h _ _),z7t,h1],by omega⟩
theorem All.old(h:All P d):All (Ac P n a) d:=h.mono fun _=>.inl
theorem All.app(h:All (Ac P n a) d):All (Ac P n (a++b)) d:=h.mono fun _=>Ac.app
theorem All.two(h:All (Ac (Ac P n a) (n+a.length) b) d):All (Ac P n (a++b)) d:=h.mono fun _=>Ac.two
abbrev Wt(k i:Nat)(S:Sto)(n:Int)(new:List D)(S':Sto):Prop:=At S S' i (zad k) n (n+new.length)
theorem Wt.nil(hw:S[i]? = some (wd (zad k) n)):Wt k i S n [] S:=by have:=At.refl hw;unfold Wt;rw[show n+(([]:List D).length:Int)=n from qas n];exact this
theorem Wt.two(w:Wt k i S0 n a S)(w':Wt k i S (n+a.length) b S1):Wt k i S0 n (a++b) S1:=by
 have:=At.trans w w';have e:n+(a.length:Int)+b.length=n+((a++b).length:Nat):=by rw[z42];omega
 unfold Wt;rw[<-e];exact this
structure Top (a b h:Nat):Prop where
 l:a<h
 r:b<h
 e:h=a+1\/h=b+1
theorem zif(a b:Nat):Top a b (max a b+1):=⟨by omega,by omega,by omega⟩
structure Res (k i:Nat) (S:Sto) (n:Int) (P:D->Prop) (ts:List D) (d:D) (h:Nat) (new:List D) (S':Sto):Prop where
 mm:Mk k d ts h
 wt:Wt k i S n new S'
 all:All (Ac P n new) d
theorem Res.after(w:Wt k i S0 n a S)(r:Res k i S (n+a.length) (Ac P n a) ts d h new S1):Res k i S0 n P ts d h (a++new) S1:=⟨r.mm,w.two r.wt,r.all.two⟩
theorem yi(hw:S[i]? = some (wd (zad k) n))(ml:Mk k l lt lh)(mr:Mk k r rt rh)(ht:Thing k t)(h1:lh<=rh+1)(h2:rh<=lh+1)(hn:lt.length+1+rt.length<=2000)(al:All P l)(ar:All P r) :
   ∃d S' h,qi [.obj i,l,t,r] S=some (d,S')/\Res k i S n P (lt++t::rt) d h [d] S'/\Top lh rh h :=
 ⟨_,_,_,zvg hw ml mr ht h1 h2 hn,⟨zvh ml mr ht h1 h2,At.set hw (by omega),.node (.inr ⟨0,rfl,(qas n).symm⟩) al.old ar.old⟩,zif _ _⟩
theorem Tnd.ac{d':D}{n1:Int}(t:Tnd n d d' n1)(a:All P d):∃new:List D,n1=n+new.length/\All (Ac P n new) d'/\new.length<=1:=by
 cases t with
 |non=>exact⟨[],(qas n).symm,.non,by simp⟩
 |node=>exact⟨[_],rfl,.node (.inr ⟨0,rfl,(qas n).symm⟩) a.inv.1.old a.inv.2.old,by simp⟩
theorem zjv(m:Mk k d ts h)(hw:S[i]? = some (wd (zad k) n))(al:All P d):∃d' new S',qq [.obj i,d] S=some (d',S')/\Res k i S n P ts.reverse d' h new S'/\new.length<=1:=by obtain⟨d',n',S',c,m',t,w⟩:=zcf m hw;obtain⟨new,rfl,al',hl⟩:=t.ac al;exact⟨d',new,S',c,⟨m',w,al'⟩,hl⟩
structure Pts (k i:Nat) (S:Sto) (n:Int) (P:D->Prop) (ts:List D) (h:Nat) (x t y:D) (xt yt:List D) (xh yh:Nat) (new:List D) (S':Sto):Prop where
 wt:Wt k i S n new S'
 mx:Mk k x xt xh
 my:Mk k y yt yh
 ht:Thing k t
 hts:ts=xt++t::yt
 hh:Top xh yh h
 h1:xh<=yh+1
 h2:yh<=xh+1
 ax:All (Ac P n new) x
 ay:All (Ac P n new) y
 few:new.length<=2
theorem yp(m:Mk k d ts h)(hh:0<h)(hw:S[i]? = some (wd (zad k) n))(al:All P d) :
   ∃x t y xt yt xh yh new S',xi [.obj i,d] S=some (.tup [x,t,y],S')/\Pts k i S n P ts h x t y xt yt xh yh new S':=by
 have m0:=m;cases m with
 |non=>omega
 | @node num a l t r lt rt lh rh ml mr ht h1 h2=>
   obtain⟨x,y,n',S',xt,yt,xh,yh,c,w,mx,my,e1,e2,q1,q2,q3,q⟩:=zq4 m0 hw;rcases q with⟨_,rfl,rfl,rfl,rfl⟩ | ⟨_,n1,t1,t2⟩
   · exact⟨x,t,y,xt,yt,xh,yh,[],_,c,⟨Wt.nil hw,mx,my,q3,e1,e2▸zif _ _,q1,q2,al.inv.1.old,al.inv.2.old,by simp⟩⟩
   · obtain⟨a1,rfl,b1,c1⟩:=t1.ac al.inv.2;obtain⟨a2,rfl,b2,c2⟩:=t2.ac (al.inv.1.old (n:=n) (a:=a1));refine⟨x,t,y,xt,yt,xh,yh,a1++a2,S',c,⟨?_,mx,my,q3,e1,e2▸zif _ _,q1,q2,b1.app,b2.two,by rw[z42];omega⟩⟩;have e:n+(a1.length:Int)+a2.length=n+((a1++a2).length:Nat):=by rw[z42];omega
     unfold Wt;rw[<-e];exact w
theorem z05(x y:Nat):ztc (.int x) (.int y)=some (.bl (decide (y<=x))):=z7a (fun b=>some (D.bl b)) (z6q.mpr Int.ofNat_le)
theorem zwu(x y:Nat):zh7 (.int x) (.int y)=some (.bl (decide (y<x))):=z7a (fun b=>some (D.bl b)) (z6q.mpr qar)
theorem z00(a b c:List D):(a++t::b).length+1+c.length=a.length+1+(b++x::c).length:=by simp only[z42,List.length_cons];omega
theorem z1e(a b c:List D):a++t::(b++x::c)=a++t::b++x::c:=by simp
theorem zy8{a b:List D}{m:Nat}(h:(a++t::b).length+1+m<=2000):b.length+1+m<=2000:=by simp only[z42,List.length_cons]at h;omega
theorem zy7{a b:List D}{m:Nat}(h:m+1+(a++t::b).length<=2000):m+1+a.length<=2000:=by simp only[z42,List.length_cons]at h;omega
theorem z3w{a:List D}(h:a.length<=2):(a++[x]++[y]).length<=7:=by simp only[z42,List.length_cons,List.length_nil];omega
theorem z3v{a b:List D}(h:a.length<=2)(h':b.length<=2):(a++b++[x]++[y]++[t]).length<=7:=by simp only[z42,List.length_cons,List.length_nil];omega
theorem z3u{a b c:List D}{f:Nat}(h:a.length<=2)(h':b.length<=9*f+1)(h3:c.length<=7):(a++b++c).length<=9*(f+1)+1:=by simp only[z42];omega
theorem z2i{a b c:List D}{m:Nat}(h:(a++t::(b++x::c)).length+1+m<=2000):a.length+1+b.length<=2000:=by simp only[z42,List.length_cons]at h;omega
theorem z2h{a b c:List D}{m:Nat}(h:(a++t::(b++x::c)).length+1+m<=2000):c.length+1+m<=2000:=by simp only[z42,List.length_cons]at h;omega
theorem z2g{a b c e:List D}(h:(a++t::(b++x::c)).length+1+e.length<=2000):(a++t::b).length+1+(c++y::e).length<=2000:=by simp only[z42,List.length_cons]at h ⊢;omega
theorem z2f{a b c:List D}{m:Nat}(h:m+1+(a++t::b++x::c).length<=2000):m+1+a.length<=2000:=by simp only[z42,List.length_cons]at h;omega
theorem z2e{a b c:List D}{m:Nat}(h:m+1+(a++t::b++x::c).length<=2000):b.length+1+c.length<=2000:=by simp only[z42,List.length_cons]at h;omega
theorem z2d{a b c e:List D}(h:e.length+1+(a++t::b++x::c).length<=2000):(e++y::a).length+1+(b++x::c).length<=2000:=by simp only[z42,List.length_cons]at h ⊢;omega
theorem z4w(a b c e:List D):a++t::b++x::(c++y::e)=a++t::(b++x::c)++y::e:=by simp
theorem z4v(a b c e:List D):a++t::b++x::(c++y::e)=a++t::(b++x::c++y::e):=by simp
theorem up1{xh yh rh lh:Nat}(hh:lh=rh+2)(p:Top xh yh lh)(q1:xh<=yh+1)(q2:yh<=xh+1)(hg:yh<=xh):yh<=rh+1/\rh<=yh+1/\∀g,Top yh rh g->(xh<=g+1/\g<=xh+1/\∀z,Top xh g z->lh<=z/\z<=lh+1):=by obtain⟨p1,p2,p3⟩:=p;refine⟨by omega,by omega,fun g ⟨g1,g2,g3⟩=>⟨by omega,by omega,fun z ⟨z1,z2,z3⟩=>⟨by omega,by omega⟩⟩⟩
theorem up2{xh yh rh lh xh' yh':Nat}(hh:lh=rh+2)(p:Top xh yh lh)(q1:xh<=yh+1)(q2:yh<=xh+1)(hg:¬ yh<=xh)(p':Top xh' yh' yh)(q3:xh'<=yh'+1)(q4:yh'<=xh'+1) :
   (xh<=xh'+1/\xh'<=xh+1)/\(yh'<=rh+1/\rh<=yh'+1)/\∀g g',Top xh xh' g->Top yh' rh g'->(g<=g'+1/\g'<=g+1/\∀z,Top g g' z->lh<=z/\z<=lh+1):=by
 obtain⟨p1,p2,p3⟩:=p;obtain⟨p4,p5,p6⟩:=p';have e1:xh=rh:=by omega
 have e2:yh=rh+1:=by omega
 subst e1 e2;refine⟨⟨by omega,by omega⟩,⟨by omega,by omega⟩,fun g g' ⟨g1,g2,g3⟩ ⟨g4,g5,g6⟩=>?_⟩;have e3:g=xh+1:=by omega
 have e4:g'=xh+1:=by omega
 subst e3 e4;exact⟨by omega,by omega,fun z ⟨z1,z2,z3⟩=>⟨by omega,by omega⟩⟩
theorem Top.sym{a b h:Nat}(p:Top a b h):Top b a h:=⟨p.r,p.l,p.e.symm⟩
theorem zey(hw:S[i]? = some (wd (zad k) n))(ml:Mk k l lt lh)(mr:Mk k r rt rh)(ht:Thing k t)(hh:lh=rh+2)(hn:lt.length+1+rt.length<=2000)(al:All P l)(ar:All P r) :
   ∃d h new S',zak [.obj i,l,t,r] S=some (d,S')/\Res k i S n P (lt++t::rt) d h new S'/\(lh<=h/\h<=lh+1)/\new.length<=7:=by
 obtain⟨x,u,y,xt,yt,xh,yh,w1,S1,c1,p⟩:=yp ml (by omega) hw al;have e1:=p.hts;subst e1;have e2:=p.hh;have f1:=p.few;by_cases hg:yh<=xh
 · obtain⟨k1,k2,k3⟩:=up1 hh p.hh p.h1 p.h2 hg;have hge:ztc (.int xh) (.int yh)=some (.bl true):=by rw[z05,z5z hg]
   clear hg;obtain⟨d1,S2,g1,c2,r2,t2⟩:=yi p.wt.at_ p.my mr ht k1 k2 (zy8 hn) p.ay ar.old;have r2:=r2.after p.wt;obtain⟨k4,k5,k6⟩:=k3 _ t2;obtain⟨d2,S3,g2,c3,r3,t3⟩:=yi r2.wt.at_ p.mx r2.mm p.ht k4 k5 (by rw[<-z00];exact hn) p.ax.app r2.all;have r3:=r3.after r2.wt;exact⟨d2,_,_,S3,ju rfl (zh (zq (zi (a_c (e_v rfl) (a_c (e_v rfl) a_n)) c1)) (qh (qb (qg (e_2 (zi (a_c (qt (e_v rfl) e_k rfl) a_n) (qm p.mx S1)) (zi (a_c (qt (e_v rfl) e_k rfl) a_n) (qm p.my S1)) hge)) (zw (xo (e_v rfl) (qw p.wt.at_) (xq _ _) (a_c (qt (e_v rfl) e_k rfl) (a_c (qt (e_v rfl) e_k rfl) (a_c (xo (e_v rfl) (qw p.wt.at_) (xq _ _) (a_c (qt (e_v rfl) e_k rfl) (a_c (e_v rfl) (a_c (e_v rfl) a_n))) c2) a_n))) c3))))),z1e xt yt rt▸r3,k6 _ t3,z3w f1⟩
 · have hge:ztc (.int xh) (.int yh)=some (.bl false):=by rw[z05,z5o hg]
   obtain⟨x',v,y',xt',yt',xh',yh',w2,S2,c2,p2⟩:=yp p.my (by omega) p.wt.at_ p.ay;have e3:=p2.hts;subst e3;obtain⟨⟨k1,k2⟩,⟨k3,k4⟩,k5⟩:=up2 hh p.hh p.h1 p.h2 hg p2.hh p2.h1 p2.h2;have f2:=p2.few;clear hg e2;have wt2:=p.wt.two p2.wt;obtain⟨d1,S3,g1,c3,r3,t3⟩:=yi wt2.at_ p.mx p2.mx p.ht k1 k2 (z2i hn) p.ax.app p2.ax.two;have r3:=r3.after wt2;obtain⟨d2,S4,g2,c4,r4,t4⟩:=yi r3.wt.at_ p2.my mr ht k3 k4 (z2h hn) p2.ay.two.app ar.old;have r4:=r4.after r3.wt;obtain⟨k6,k7,k8⟩:=k5 _ _ t3 t4;obtain⟨d3,S5,g3,c5,r5,t5⟩:=yi r4.wt.at_ r3.mm r4.mm p2.ht k6 k7 (z2g hn) r3.all.app r4.all;have r5:=r5.after r4.wt;exact⟨d3,_,_,S5,ju rfl (zh (zq (zi (a_c (e_v rfl) (a_c (e_v rfl) a_n)) c1)) (zh (zn (qg (e_2 (zi (a_c (qt (e_v rfl) e_k rfl) a_n) (qm p.mx S1)) (zi (a_c (qt (e_v rfl) e_k rfl) a_n) (qm p.my S1)) hge))) (zh (zq (zi (a_c (e_v rfl) (a_c (qt (e_v rfl) e_k rfl) a_n)) c2)) (zh (zq (xo (e_v rfl) (qw wt2.at_) (xq _ _) (a_c (qt (e_v rfl) e_k rfl) (a_c (qt (e_v rfl) e_k rfl) (a_c (qt (e_v rfl) e_k rfl) a_n))) c3)) (zh (zq (xo (e_v rfl) (qw r3.wt.at_) (xq _ _) (a_c (qt (e_v rfl) e_k rfl) (a_c (e_v rfl) (a_c (e_v rfl) a_n))) c4)) (zw (xo (e_v rfl) (qw r4.wt.at_) (xq _ _) (a_c (e_v rfl) (a_c (qt (e_v rfl) e_k rfl) (a_c (e_v rfl) a_n))) c5))))))),z4w xt xt' yt' rt▸r5,k8 _ t5,z3v f1 f2⟩
theorem zdv(hw:S[i]? = some (wd (zad k) n))(ml:Mk k l lt lh)(mr:Mk k r rt rh)(ht:Thing k t)(hh:rh=lh+2)(hn:lt.length+1+rt.length<=2000)(al:All P l)(ar:All P r) :
   ∃d h new S',yq [.obj i,l,t,r] S=some (d,S')/\Res k i S n P (lt++t::rt) d h new S'/\(rh<=h/\h<=rh+1)/\new.length<=7:=by
 obtain⟨x,u,y,xt,yt,xh,yh,w1,S1,c1,p⟩:=yp mr (by omega) hw ar;have e1:=p.hts;subst e1;have e2:=p.hh;have f1:=p.few;by_cases hg:xh<=yh
 · obtain⟨k1,k2,k3⟩:=up1 hh p.hh.sym p.h2 p.h1 hg;have hge:ztc (.int yh) (.int xh)=some (.bl true):=by rw[z05,z5z hg]
   clear hg;obtain⟨d1,S2,g1,c2,r2,t2⟩:=yi p.wt.at_ ml p.mx ht k2 k1 (zy7 hn) al.old p.ax;have r2:=r2.after p.wt;obtain⟨k4,k5,k6⟩:=k3 _ t2.sym;obtain⟨d2,S3,g2,c3,r3,t3⟩:=yi r2.wt.at_ r2.mm p.my p.ht k5 k4 (by rw[z00];exact hn) r2.all p.ay.app;have r3:=r3.after r2.wt;exact⟨d2,_,_,S3,ju rfl (zh (zq (zi (a_c (e_v rfl) (a_c (e_v rfl) a_n)) c1)) (qh (qb (qg (e_2 (zi (a_c (qt (e_v rfl) e_k rfl) a_n) (qm p.my S1)) (zi (a_c (qt (e_v rfl) e_k rfl) a_n) (qm p.mx S1)) hge)) (zw (xo (e_v rfl) (qw p.wt.at_) (xq _ _) (a_c (xo (e_v rfl) (qw p.wt.at_) (xq _ _) (a_c (e_v rfl) (a_c (e_v rfl) (a_c (qt (e_v rfl) e_k rfl) a_n))) c2) (a_c (qt (e_v rfl) e_k rfl) (a_c (qt (e_v rfl) e_k rfl) a_n))) c3))))),(z1e lt xt yt).symm▸r3,k6 _ t3.sym,z3w f1⟩
 · have hge:ztc (.int yh) (.int xh)=some (.bl false):=by rw[z05,z5o hg]
   obtain⟨x',v,y',xt',yt',xh',yh',w2,S2,c2,p2⟩:=yp p.mx (by omega) p.wt.at_ p.ax;have e3:=p2.hts;subst e3;obtain⟨⟨k1,k2⟩,⟨k3,k4⟩,k5⟩:=up2 hh p.hh.sym p.h2 p.h1 hg p2.hh.sym p2.h2 p2.h1;have f2:=p2.few;clear hg e2;have wt2:=p.wt.two p2.wt;obtain⟨d1,S3,g1,c3,r3,t3⟩:=yi wt2.at_ ml p2.mx ht k4 k3 (z2f hn) al.old p2.ax.two;have r3:=r3.after wt2;obtain⟨d2,S4,g2,c4,r4,t4⟩:=yi r3.wt.at_ p2.my p.my p.ht k2 k1 (z2e hn) p2.ay.two.app p.ay.app.app;have r4:=r4.after r3.wt;obtain⟨k6,k7,k8⟩:=k5 _ _ t4.sym t3.sym;obtain⟨d3,S5,g3,c5,r5,t5⟩:=yi r4.wt.at_ r3.mm r4.mm p2.ht k7 k6 (z2d hn) r3.all.app r4.all;have r5:=r5.after r4.wt;exact⟨d3,_,_,S5,ju rfl (zh (zq (zi (a_c (e_v rfl) (a_c (e_v rfl) a_n)) c1)) (zh (zn (qg (e_2 (zi (a_c (qt (e_v rfl) e_k rfl) a_n) (qm p.my S1)) (zi (a_c (qt (e_v rfl) e_k rfl) a_n) (qm p.mx S1)) hge))) (zh (zq (zi (a_c (e_v rfl) (a_c (qt (e_v rfl) e_k rfl) a_n)) c2)) (zh (zq (xo (e_v rfl) (qw wt2.at_) (xq _ _) (a_c (e_v rfl) (a_c (e_v rfl) (a_c (qt (e_v rfl) e_k rfl) a_n))) c3)) (zh (zq (xo (e_v rfl) (qw r3.wt.at_) (xq _ _) (a_c (qt (e_v rfl) e_k rfl) (a_c (qt (e_v rfl) e_k rfl) (a_c (qt (e_v rfl) e_k rfl) a_n))) c4)) (zw (xo (e_v rfl) (qw r4.wt.at_) (xq _ _) (a_c (e_v rfl) (a_c (qt (e_v rfl) e_k rfl) (a_c (e_v rfl) a_n))) c5))))))),z4v lt xt' yt' yt▸r5,k8 _ t5.sym,z3v f1 f2⟩
structure Hi (a b h:Nat):Prop where
 l:a<=h
 r:b<=h
 m:∀z,a<=z->b<=z->h<=z+1
theorem Top.hi{a b h:Nat}(p:Top a b h):Hi a b h:=⟨z6y p.l,z6y p.r,fun z h1 h2=>by rcases p.e with rfl | rfl<;>omega⟩
theorem xj(hw:S[i]? = some (wd (zad k) n))(ml:Mk k l lt lh)(mr:Mk k r rt rh)(ht:Thing k t)(h1:lh<=rh+2)(h2:rh<=lh+2)(hn:lt.length+1+rt.length<=2000)(al:All P l)(ar:All P r) :
   ∃d h new S',jt [.obj i,l,t,r] S=some (d,S')/\Res k i S n P (lt++t::rt) d h new S'/\Hi lh rh h/\(lh<=rh+1->rh<=lh+1->Top lh rh h)/\new.length<=7:=by
 have bl:=ki ml mr S;by_cases hb:lh<=rh+1/\rh<=lh+1
 · rw[z5z hb]at bl;obtain⟨d1,S1,g1,c1,r1,t1⟩:=yi hw ml mr ht hb.1 hb.2 hn al ar;exact⟨d1,_,_,S1,ju rfl (qh (qb (qg (zi (a_c (e_v rfl) (a_c (e_v rfl) a_n)) bl)) (zw (xo (e_v rfl) (qw hw) (xq _ _) (a_c (e_v rfl) (a_c (e_v rfl) (a_c (e_v rfl) a_n))) c1)))),r1,t1.hi,fun _ _=>t1,z5r rfl⟩
 · rw[z5o hb]at bl;by_cases hg:rh<lh
   · have e:lh=rh+2:=by omega
     obtain⟨d1,h,w,S1,c1,r1,⟨q1,q2⟩,q3⟩:=zey hw ml mr ht e hn al ar;exact⟨d1,h,w,S1,ju rfl (zh (zn (qg (zi (a_c (e_v rfl) (a_c (e_v rfl) a_n)) bl))) (qh (qb (qg (e_2 (zi (a_c (e_v rfl) a_n) (qm ml S)) (zi (a_c (e_v rfl) a_n) (qm mr S)) (by rw[zwu,z5z hg]))) (zw (zi (a_c (e_v rfl) (a_c (e_v rfl) (a_c (e_v rfl) (a_c (e_v rfl) a_n)))) c1))))),r1,⟨q1,z5u (z6y hg) q1,fun z z1 z2=>z5u q2 (qao z1)⟩,fun u v=>absurd ⟨u,v⟩ hb,q3⟩
   · have e:rh=lh+2:=by omega
     obtain⟨d1,h,w,S1,c1,r1,⟨q1,q2⟩,q3⟩:=zdv hw ml mr ht e hn al ar;exact⟨d1,h,w,S1,ju rfl (zh (zn (qg (zi (a_c (e_v rfl) (a_c (e_v rfl) a_n)) bl))) (zh (zn (qg (e_2 (zi (a_c (e_v rfl) a_n) (qm ml S)) (zi (a_c (e_v rfl) a_n) (qm mr S)) (by rw[zwu,z5o hg])))) (zw (zi (a_c (e_v rfl) (a_c (e_v rfl) (a_c (e_v rfl) (a_c (e_v rfl) a_n)))) c1)))),r1,⟨z5u (z8i.mp hg) q1,q1,fun z z1 z2=>z5u q2 (qao z2)⟩,fun u v=>absurd ⟨u,v⟩ hb,q3⟩
theorem dn1{a b h z c:Nat}(p:Top a b h)(q1:a<=b+1)(q2:b<=a+1)(hz:z+2<=h)(j:Hi b z c):a<=c+2/\c<=a+2:=by obtain⟨p1,p2,p3⟩:=p;have:=j.l;have:=j.m (b) (z44 _) (by omega);omega
theorem dn2{a b h z c g:Nat}(p:Top a b h)(q1:a<=b+1)(q2:b<=a+1)(hz:z+2<=h)(j:Hi b z c)(q:Hi a c g)(w:a<=c+1->c<=a+1->Top a c g):Hi h z g:=by
 obtain⟨p1,p2,p3⟩:=p;have c1:=j.l;have c2:=j.m b (z44 _) (by omega);have g1:=q.l;have g2:=q.r;have:h<=g/\g<=h+1:=by
   by_cases hb:a<=c+1/\c<=a+1
   · obtain⟨w1,w2,w3⟩:=w hb.1 hb.2;omega
   · have g3:=q.m c (by omega) (z44 _);omega
 exact⟨this.1,by omega,fun y y1 _=>z5u this.2 (qao y1)⟩
theorem dn3{a b h z f:Nat}(p:Top a b h)(q1:a<=b+1)(q2:b<=a+1)(hz:z+2<=h)(hf:h<=z+(f+1)):b<=z+f/\z<=b+f:=by obtain⟨p1,p2,p3⟩:=p;omega
theorem Hi.sym{a b h:Nat}(p:Hi a b h):Hi b a h:=⟨p.r,p.l,fun z u v=>p.m z v u⟩
theorem zaz:∀(f c:Nat) {l r:D}{lt rt:List D}{lh rh:Nat}{n:Int}{S:Sto}{P:D->Prop},S[i]? = some (wd (zad k) n)->Mk k l lt lh->Mk k r rt rh->Thing k t->lt.length+1+rt.length<=2000->All P l->All P r->lh<=rh+c->rh<=lh+c->c<f ->
   ∃d h new S',kj f [.obj i,l,t,r] S=some (d,S')/\Res k i S n P (lt++t::rt) d h new S'/\Hi lh rh h/\(lh<=rh+1->rh<=lh+1->Top lh rh h)/\new.length<=9*c+1
 |0,_,_,_,_,_,_,_,_,_,_,_,_,_,_,_,_,_,_,_,hf=>absurd hf (z8c _)
 | f+1,c,l,r,lt,rt,lh,rh,n,S,P,hw,ml,mr,ht,hn,al,ar,hc1,hc2,hf=>by
   have bl:=ki ml mr S;by_cases hb:lh<=rh+1/\rh<=lh+1
   · rw[z5z hb]at bl;obtain⟨d1,S1,g1,c1,r1,t1⟩:=yi hw ml mr ht hb.1 hb.2 hn al ar;exact⟨d1,_,_,S1,ju rfl (qh (qb (qg (zi (a_c (e_v rfl) (a_c (e_v rfl) a_n)) bl)) (zw (xo (e_v rfl) (qw hw) (xq _ _) (a_c (e_v rfl) (a_c (e_v rfl) (a_c (e_v rfl) a_n))) c1)))),r1,t1.hi,fun _ _=>t1,Nat.le_add_left _ _⟩
   · rw[z5o hb]at bl;cases c with
     |zero=>omega
     | succ c=>
       by_cases hg:rh<lh
       · have hz:rh+2<=lh:=by omega
         clear hc2;obtain⟨x,u,y,xt,yt,xh,yh,w1,S1,c1,p⟩:=yp ml (z6x (z54 _) hg) hw al;have e1:=p.hts;subst e1;obtain⟨k1,k2⟩:=dn3 p.hh p.h1 p.h2 hz hc1;obtain⟨d1,g1,w2,S2,c2,r2,b1,b0,b2⟩:=zaz f c p.wt.at_ p.my mr ht (zy8 hn) p.ay ar.old k1 k2 (Nat.lt_of_succ_lt_succ hf);have r2:=r2.after p.wt;obtain⟨k3,k4⟩:=dn1 p.hh p.h1 p.h2 hz b1;obtain⟨d2,g2,w3,S3,c3,r3,b5,b6,b7⟩:=xj r2.wt.at_ p.mx r2.mm p.ht k3 k4 (by rw[<-z00];exact hn) p.ax.app r2.all;have r3:=r3.after r2.wt;exact⟨d2,g2,_,S3,ju rfl (zh (zn (qg (zi (a_c (e_v rfl) (a_c (e_v rfl) a_n)) bl))) (qh (qb (qg (e_2 (zi (a_c (e_v rfl) a_n) (qm ml S)) (zi (a_c (e_v rfl) a_n) (qm mr S)) (by rw[zwu,z5z hg]))) (zh (zq (zi (a_c (e_v rfl) (a_c (e_v rfl) a_n)) c1)) (zw (zi (a_c (e_v rfl) (a_c (qt (e_v rfl) e_k rfl) (a_c (qt (e_v rfl) e_k rfl) (a_c (zi (a_c (e_v rfl) (a_c (qt (e_v rfl) e_k rfl) (a_c (e_v rfl) (a_c (e_v rfl) a_n)))) c2) a_n)))) c3)))))),z1e xt yt rt▸r3,dn2 p.hh p.h1 p.h2 hz b1 b5 b6,fun u v=>absurd ⟨u,v⟩ hb,z3u p.few b2 b7⟩
       · have hz:lh+2<=rh:=by omega
         clear hc1;obtain⟨x,u,y,xt,yt,xh,yh,w1,S1,c1,p⟩:=yp mr (z45 (by decide) (z5u (Nat.le_add_left 2 lh) hz)) hw ar;have e1:=p.hts;subst e1;obtain⟨k1,k2⟩:=dn3 p.hh.sym p.h2 p.h1 hz hc2;obtain⟨d1,g1,w2,S2,c2,r2,b1,b0,b2⟩:=zaz f c p.wt.at_ ml p.mx ht (zy7 hn) al.old p.ax k2 k1 (Nat.lt_of_succ_lt_succ hf);have r2:=r2.after p.wt;obtain⟨k3,k4⟩:=dn1 p.hh.sym p.h2 p.h1 hz b1.sym;obtain⟨d2,g2,w3,S3,c3,r3,b5,b6,b7⟩:=xj r2.wt.at_ r2.mm p.my p.ht k4 k3 (by rw[z00];exact hn) r2.all p.ay.app;have r3:=r3.after r2.wt;exact⟨d2,g2,_,S3,ju rfl (zh (zn (qg (zi (a_c (e_v rfl) (a_c (e_v rfl) a_n)) bl))) (zh (zn (qg (e_2 (zi (a_c (e_v rfl) a_n) (qm ml S)) (zi (a_c (e_v rfl) a_n) (qm mr S)) (by rw[zwu,z5o hg])))) (zh (zq (zi (a_c (e_v rfl) (a_c (e_v rfl) a_n)) c1)) (zw (zi (a_c (e_v rfl) (a_c (zi (a_c (e_v rfl) (a_c (e_v rfl) (a_c (e_v rfl) (a_c (qt (e_v rfl) e_k rfl) a_n)))) c2) (a_c (qt (e_v rfl) e_k rfl) (a_c (qt (e_v rfl) e_k rfl) a_n)))) c3))))),(z1e lt xt yt).symm▸r3,(dn2 p.hh.sym p.h2 p.h1 hz b1.sym b5.sym fun u v=>(b6 v u).sym).sym,fun u v=>absurd ⟨u,v⟩ hb,z3u p.few b2 b7⟩
end Pg
namespace Pg
open PySem L2 F Mt
variable {k:Nat} [Kd k] {d l r t x y:D}{ts lt rt:List D}{h lh rh i:Nat}{n:Int}{S S0 S1:Sto}{ev e:Ev}{P Q:D->Prop}{a b new:List D}
theorem z3l(x y:Nat):zgy (.int x) (.int y)=some (.bl (decide (x<y))):=z7a (fun b=>some (D.bl b)) (z6q.mpr qar)
theorem z3n(x y:Nat):zex (.int x) (.int y)=some (.bl (decide (x<=y))):=z7a (fun b=>some (D.bl b)) (z6q.mpr Int.ofNat_le)
theorem z0z{x y:Nat}(h:x<y):zgy (.int x) (.int y)=some (.bl true):=by rw[z3l,z5z h]
theorem zy5{x y:Nat}(h:¬ x<y):zgy (.int x) (.int y)=some (.bl false):=by rw[z3l,z5o h]
theorem zwt{x y:Nat}(h:x<=y):zex (.int x) (.int y)=some (.bl true):=by rw[z3n,z5z h]
theorem z3o{x y:Nat}(h:¬ x<=y):zex (.int x) (.int y)=some (.bl false):=by rw[z3n,z5o h]
theorem z3r{x y:Nat}(h:y<x):zh7 (.int x) (.int y)=some (.bl true):=by rw[zwu,z5z h]
theorem z2o{x y:Nat}(h:¬ y<x):zh7 (.int x) (.int y)=some (.bl false):=by rw[zwu,z5o h]
theorem z2v{x y:Nat}(h:x=y):kh (.int x) (.int y)=some (.bl true):=by rw[zfj,h];simp
theorem z1a{x y:Nat}(h:x≠y):kh (.int x) (.int y)=some (.bl false):=by rw[zfj];simp;omega
theorem zk1{f g:E}{p m q:Nat}(hf:f ev S=some (.int p,S))(hg:g ev S=some (.int m,S))(hq:p=m+1+q):e2 zah (e2 zah f g) (eK (.int 1)) ev S=some (.int q,S) :=
 e_2 (e_2 hf hg (sub_int _ _)) e_k (by rw[sub_int,show(p:Int)-m-1=q by omega])
def HB(m h:Nat):Prop:=m<2^h/\2^h<=2*m+1
theorem zvv{m a b:Nat}(hm:0<m)(ha:HB (m/2) a)(hb:HB ((m-1)/2) b):a<=b+1/\b<=a+1/\∀h,Top a b h->HB m h:=by
 obtain⟨a1,a2⟩:=ha;obtain⟨b1,b2⟩:=hb;have h1:b<=a:=by
   rcases z68 a b with q | q
   · have:=Nat.pow_le_pow_right (n:=2) (by decide) (show a+1<=b from q);rw[Nat.pow_succ]at this;omega
   · exact q
 have h2:a<=b+1:=by
   rcases z68 (b+1) a with q | q
   · have:=Nat.pow_le_pow_right (n:=2) (by decide) (show b+1+1<=a from q);rw[Nat.pow_succ,Nat.pow_succ]at this;omega
   · exact q
 refine⟨h2,by omega,fun h ⟨_,_,e⟩=>?_⟩;have e:h=a+1:=by omega
 subst e;unfold HB;rw[Nat.pow_succ];cases a with
 |zero=>rw[Nat.pow_zero]at a1 a2 ⊢;omega
 |succ a=>rw[Nat.pow_succ]at a1 a2 ⊢;omega
theorem z0t(p a c:List D):atI (p++a++t::c) (((p.length+a.length:Nat)):Int)=some t:=zer (by rw[z5t (by simp),z42];simp)
theorem halves:∀{ts:List D},ts≠[]->∃a t b,ts=a++t::b/\a.length=ts.length/2/\b.length=(ts.length-1)/2:=fun {ts} h=>by
 have hl:0<ts.length:=z7z.mpr h;have hm:ts.length/2<ts.length:=by omega
 refine⟨ts.take (ts.length/2),ts[ts.length/2],ts.drop (ts.length/2+1),?_,?_,?_⟩
 · rw[<-z7i hm,z6a]
 · rw[z5m];omega
 · rw[z5w];omega
theorem zgt:∀(f:Nat) {p ts q:List D}{n:Int}{S:Sto}{P:D->Prop},S[i]? = some (wd (zad k) n)->(∀x∈ts,Thing k x)->ts.length<=2000->ts.length<2^f->∀{s e:Nat},s=p.length->e=p.length+ts.length ->
   ∃d h new S',zge (f+1) [.obj i,.lst (p++ts++q),.int s,.int e] S=some (d,S')/\Res k i S n P ts d h new S'/\HB ts.length h
 | f,p,ts,q,n,S,P,hw,ht,hl,hf,s,e,hs,he=>by
   by_cases h0:ts=[]
   · subst h0;refine⟨.non,0,[],S,ju rfl (qh (qb (qg (e_2 (e_v rfl) (e_v rfl) (z2v (by simp[hs,he])))) (zw e_k))),⟨.non,Wt.nil hw,.non⟩,by decide,by decide⟩
   · obtain⟨a,t,b,e0,la,lb⟩:=halves h0;have hlen:0<ts.length:=z7z.mpr h0;cases f with
     |zero=>rw[Nat.pow_zero]at hf;omega
     | succ f=>
       rw[Nat.pow_succ]at hf;obtain⟨d1,h1,w1,S1,c1,r1,b1⟩:=zgt f (p:=p) (ts:=a) (q:=t::b++q) (P:=P) hw (fun x hx=>ht x (by rw[e0];exact z6k _ hx)) (by omega) (by omega) hs rfl;obtain⟨d2,h2,w2,S2,c2,r2,b2⟩:=zgt f (p:=p++a++[t]) (ts:=b) (q:=q) (P:=Ac P n w1) r1.wt.at_ (fun x hx=>ht x (by rw[e0];exact z5c _ (z46 _ hx))) (by omega) (by omega) (s:=p.length+a.length+1) (e:=e) (by simp;omega) (by simp;omega);have r2:=r2.after r1.wt;rw[la]at b1;rw[lb]at b2;obtain⟨q1,q2,q3⟩:=zvv hlen b1 b2;have e1:p++a++(t::b++q)=p++ts++q:=by rw[e0];simp
       have e2:p++a++[t]++b++q=p++ts++q:=by rw[e0];simp
       have e3:p++ts++q=p++a++t::(b++q):=by rw[e0];simp
       rw[e1]at c1;rw[e2]at c2;obtain⟨d3,S3,h3,c3,r3,t3⟩:=yi r2.wt.at_ r1.mm r2.mm (ht t (by rw[e0];simp)) q1 q2 (by omega) r1.all.app r2.all;have r3:=r3.after r2.wt;rw[<-e0]at r3;have em:zbp (.int ((s:Int)+e)) (.int 2)=some (.int ((p.length+a.length:Nat):Int)):=by rw[zjc (by decide),show((s:Int)+e)/2=((p.length+a.length:Nat):Int) by omega]
       exact⟨d3,h3,_,S3,ju rfl (zh (zn (qg (e_2 (e_v rfl) (e_v rfl) (z1a (by omega))))) (zh (zq (e_2 (e_2 (e_v rfl) (e_v rfl) (add_int _ _)) e_k em)) (zh (zq (zi (a_c (e_v rfl) (a_c (e_v rfl) (a_c (e_v rfl) (a_c (e_v rfl) a_n)))) c1)) (zh (zq (zi (a_c (e_v rfl) (a_c (e_v rfl) (a_c (e_2 (e_v rfl) e_k (add_int _ _)) (a_c (e_v rfl) a_n)))) c2)) (zw (xo (e_v rfl) (qw r2.wt.at_) (xq _ _) (a_c (e_v rfl) (a_c (qt (e_v rfl) (e_v rfl) (by rw[e3];exact z0t _ _ _)) (a_c (e_v rfl) a_n))) c3)))))),r3,q3 _ t3⟩
theorem zcj(hw:S[i]? = some (wd (zad k) n))(ht:∀x∈ts,Thing k x)(hl:ts.length<=2000):∃d h new S',za2 [.obj i,.lst ts] S=some (d,S')/\Res k i S n P ts d h new S':=by obtain⟨d,h,new,S1,c,r,_⟩:=zgt (i:=i) (k:=k) 39 (p:=[]) (ts:=ts) (q:=[]) (P:=P) hw ht hl (z6x hl (by decide)) (s:=0) (e:=ts.length) rfl (by simp);rw[List.nil_append,z50]at c;exact⟨d,h,new,S1,ju rfl (zh (yo (zi (a_c (e_a (a_c (e_v rfl) a_n) rfl) a_n) (zim hl S))) (zw (zi (a_c (e_v rfl) (a_c (e_v rfl) (a_c e_k (a_c (e_a (a_c (e_v rfl) a_n) rfl) a_n)))) c))),r⟩
theorem z0e(a b:Bool):kh (.bl a) (.bl b)=some (.bl (a==b)):=rfl
structure Seen (k:Nat) (us:List D) (h:Nat) (x t y:D) (c:Bool) (xt yt:List D) (xh yh:Nat):Prop where
 mx:Mk k x xt xh
 my:Mk k y yt yh
 ht:Thing k t
 hu:us=ord c xt++t::ord c yt
 hx:xh<h
 hy:yh<h
theorem zij(m:Mk k d ts h)(hh:0<h)(b:Bool)(S:Sto):∃x t y c xt yt xh yh,zhl [d,.bl b] S=some (.tup [x,t,y,.bl c],S)/\Seen k (ord b ts) h x t y c xt yt xh yh:=by
 cases m with
 |non=>omega
 | @node num a l t r lt rt lh rh ml mr ht h1 h2=>
   unfold mkD;by_cases e:a=b
   · subst e;exact⟨l,t,r,false,lt,rt,lh,rh,ju rfl (qh (qb (qg (e_2 (qt (e_v rfl) e_k rfl) (e_v rfl) (by rw[z0e];simp))) (zw (yf (a_c (qt (e_v rfl) e_k rfl) (a_c (qt (e_v rfl) e_k rfl) (a_c (qt (e_v rfl) e_k rfl) (a_c e_k a_n)))) (z5r rfl))))),ml,mr,ht,by cases a<;>simp[ord],by omega,by omega⟩
   · exact⟨r,t,l,true,rt,lt,rh,lh,ju rfl (zh (zn (qg (e_2 (qt (e_v rfl) e_k rfl) (e_v rfl) (by rw[z0e];simp[e])))) (zw (yf (a_c (qt (e_v rfl) e_k rfl) (a_c (qt (e_v rfl) e_k rfl) (a_c (qt (e_v rfl) e_k rfl) (a_c e_k a_n)))) (z5r rfl)))),mr,ml,ht,by cases a<;>cases b<;>simp_all [ord],by omega,by omega⟩
theorem zbl(m:Mk k d ts h)(hl:ts≠[]):0<h:=by
 cases m with
 |non=>exact absurd rfl hl
 |node _ _ _ _ _=>omega
theorem zyy{p:Nat}(h:ts[p]? = some x):ts≠[]:=fun e=>by rw[e]at h;cases h
theorem zta{c:Bool}(h:ord c ts≠[]):ts≠[]:=fun e=>h (by rw[e];cases c<;>rfl)
theorem zaf:∀(f:Nat) {d:D}{ts:List D}{h p:Nat}{b:Bool},Mk k d ts h->h<=f->(ord b ts)[p]? = some x->∀S,xk f [d,.bl b,.int p] S=some (x,S)
 |0,d,ts,h,p,b,m,hf,hp,S=>absurd (zbl m (zta (zyy hp))) (z8i.mpr hf)
 | f+1,d,ts,h,p,b,m,hf,hp,S=>by
   obtain⟨u,t,y,c,xt,yt,xh,yh,c1,s⟩:=zij m (zbl m (zta (zyy hp))) b S;have hu:=s.hu;rw[hu]at hp;have lx:=xx c xt;have hx:=s.hx;have hy:=s.hy;have c2:=j8 s.mx S;by_cases h1:p<xt.length
   · rw[z55 (by omega)]at hp;exact ju rfl (zh (zq (zi (a_c (e_v rfl) (a_c (e_v rfl) a_n)) c1)) (zh (zq (zi (a_c (qt (e_v rfl) e_k rfl) a_n) c2)) (qh (qb (qg (e_2 (e_v rfl) (e_v rfl) (z0z h1))) (zw (zi (a_c (qt (e_v rfl) e_k rfl) (a_c (qt (e_v rfl) e_k rfl) (a_c (e_v rfl) a_n))) (zaf f s.mx (by omega) hp S)))))))
   · rw[z5t (by omega),lx]at hp;by_cases h2:xt.length<p
     · have e:p=xt.length+1+(p-xt.length-1):=by omega
       rw[show p-xt.length=(p-xt.length-1)+1 by omega,List.getElem?_cons_succ]at hp;exact ju rfl (zh (zq (zi (a_c (e_v rfl) (a_c (e_v rfl) a_n)) c1)) (zh (zq (zi (a_c (qt (e_v rfl) e_k rfl) a_n) c2)) (zh (zn (qg (e_2 (e_v rfl) (e_v rfl) (zy5 h1)))) (qh (qb (qg (e_2 (e_v rfl) (e_v rfl) (z3r h2))) (zw (zi (a_c (qt (e_v rfl) e_k rfl) (a_c (qt (e_v rfl) e_k rfl) (a_c (zk1 (e_v rfl) (e_v rfl) e) a_n))) (zaf f s.my (by omega) hp S))))))))
     · rw[show p-xt.length=0 by omega,List.getElem?_cons_zero]at hp;cases hp;exact ju rfl (zh (zq (zi (a_c (e_v rfl) (a_c (e_v rfl) a_n)) c1)) (zh (zq (zi (a_c (qt (e_v rfl) e_k rfl) a_n) c2)) (zh (zn (qg (e_2 (e_v rfl) (e_v rfl) (zy5 h1)))) (zh (zn (qg (e_2 (e_v rfl) (e_v rfl) (z2o h2)))) (zw (qt (e_v rfl) e_k rfl))))))
end Pg
namespace Pg
open PySem L2 F Mt
variable {k:Nat} [Kd k] {d l r t x y:D}{ts lt rt:List D}{h lh rh i:Nat}{n:Int}{S S0 S1:Sto}{ev e:Ev}{P Q:D->Prop}{a b new:List D}
theorem zy0(m:Mk k d [] h):d=.non/\h=0:=by
 generalize e:([]:List D)=ts at m;cases m with
 |non=>exact⟨rfl,rfl⟩
 |node _ _ _ _ _=>exact absurd (z7a List.length e) (by rw[xx];simp)
theorem h15(m:Mk k d ts h)(hl:ts.length<=2000):h<=15:=by
 have q:=zy1 m;rcases z68 15 h with z | z
 · have:low 16<=low h:=zf5 z;have e:low 16=2583:=by decide
   omega
 · exact z
theorem o1{xh yh h g:Nat}(p:Top xh yh h)(q1:xh<=yh+1)(q2:yh<=xh+1)(g1:g<=xh)(g2:xh<=g+1):(g<=yh+2/\yh<=g+2)/\∀z,Hi g yh z->(g<=yh+1->yh<=g+1->Top g yh z)->z<=h/\h<=z+1:=by
 obtain⟨p1,p2,p3⟩:=p;refine⟨⟨by omega,by omega⟩,fun z hz ht=>?_⟩;by_cases hb:g<=yh+1/\yh<=g+1
 · obtain⟨t1,t2,t3⟩:=ht hb.1 hb.2;omega
 · have:=hz.r;have:=hz.m yh (by omega) (z44 _);omega
theorem zrn{a b c:List D}{m xh yh h:Nat}(p:Top xh yh h)(h1:a.length<=2)(h2:b.length<=9*xh+m)(h3:c.length<=7):(a++b++c).length<=9*h+m:=by have:=p.l;simp only[z42];omega
theorem ztk{a b c:List D}{m xh yh h:Nat}(p:Top xh yh h)(h1:a.length<=2)(h2:b.length<=9*yh+m)(h3:c.length<=7):(a++b++c).length<=9*h+m:=zrn p.sym h1 h2 h3
theorem zn6:¬ (0:Nat)<0:=by decide
theorem zvo{self:G}(S:Sto):jp self [.obj i,.non,y] S=some (y,S):=rfl
theorem zn1:∀(f:Nat) {d u:D}{rest:List D}{h:Nat}{n:Int}{S:Sto}{P:D->Prop},S[i]? = some (wd (zad k) n)->Mk k d (u::rest) h->rest.length<2000->All P d->h<=f ->
   ∃d' h' new S',jn f [.obj i,d,.int (0:Nat)] S=some (d',S')/\Res k i S n P rest d' h' new S'/\(h'<=h/\h<=h'+1)/\new.length<=9*h
 |0,_,_,_,_,_,_,_,_,m,_,_,hf=>absurd (zbl m (by simp)) (z8i.mpr hf)
 | f+1,d,u,rest,h,n,S,P,hw,m,hl,al,hf=>by
   obtain⟨x,v,y,xt,yt,xh,yh,w1,S1,c1,p⟩:=yp m (zbl m (by simp)) hw al;have e1:=p.hts;have c2:=j8 p.mx S1;cases xt with
   | nil=>
     obtain⟨rfl,rfl⟩:=zy0 p.mx;simp only[List.nil_append,z7k]at e1;obtain⟨rfl,rfl⟩:=e1;have e:h=yh+1:=by have:=p.hh.l;have:=p.hh.r;have:=p.hh.e;omega
     exact⟨y,yh,w1,S1,ju rfl (zh (zq (zi (a_c (e_v rfl) (a_c (e_v rfl) a_n)) c1)) (zh (zq (zi (a_c (qt (e_v rfl) e_k rfl) a_n) c2)) (zh (zn (qg (e_2 (e_v rfl) (e_v rfl) (zy5 zn6)))) (zh (zn (qg (e_2 (e_v rfl) (e_v rfl) (z2o zn6)))) (zw (zi (a_c (e_v rfl) (a_c (qt (e_v rfl) e_k rfl) (a_c (qt (e_v rfl) e_k rfl) a_n))) (zvo S1))))))),⟨p.my,p.wt,p.ay⟩,⟨by omega,by omega⟩,by have:=p.few;omega⟩
   | cons u' xt=>
     simp only[List.cons_append,z7k]at e1;obtain⟨rfl,rfl⟩:=e1;simp only[z42,List.length_cons]at hl;have hx:=p.hh.l;obtain⟨d1,g,w2,S2,c3,r2,⟨b1,b2⟩,b3⟩:=zn1 f p.wt.at_ p.mx (by omega) p.ax (by omega);have r2:=r2.after p.wt;obtain⟨⟨k1,k2⟩,k3⟩:=o1 p.hh p.h1 p.h2 b1 b2;obtain⟨d2,g2,w3,S3,c4,r3,b5,b6,b7⟩:=xj r2.wt.at_ r2.mm p.my p.ht k1 k2 (by omega) r2.all p.ay.app;have r3:=r3.after r2.wt;exact⟨d2,g2,_,S3,ju rfl (zh (zq (zi (a_c (e_v rfl) (a_c (e_v rfl) a_n)) c1)) (zh (zq (zi (a_c (qt (e_v rfl) e_k rfl) a_n) c2)) (qh (qb (qg (e_2 (e_v rfl) (e_v rfl) (z0z (Nat.zero_lt_succ _)))) (zw (zi (a_c (e_v rfl) (a_c (zi (a_c (e_v rfl) (a_c (qt (e_v rfl) e_k rfl) (a_c (e_v rfl) a_n))) c3) (a_c (qt (e_v rfl) e_k rfl) (a_c (qt (e_v rfl) e_k rfl) a_n)))) c4)))))),r3,k3 _ b5 b6,zrn (m:=0) p.hh p.few b3 b7⟩
theorem hi0(h:Nat):Hi 0 h h:=⟨z54 _,z44 _,fun z _ q=>Nat.le_succ_of_le q⟩
theorem ld1{lh rh g c:Nat}(g1:g<=rh)(g2:rh<=g+1)(c1:lh<=rh+c)(c2:rh<=lh+c):lh<=g+(c+1)/\g<=lh+(c+1):=by omega
theorem ld2{lh rh g z:Nat}(g1:g<=rh)(g2:rh<=g+1)(h:Hi lh g z)(w:lh<=g+1->g<=lh+1->Top lh g z)(c1:lh<=rh+1)(c2:rh<=lh+1):Hi lh rh z:=by
 refine⟨h.l,?_,fun y y1 y2=>h.m y y1 (by omega)⟩;by_cases hb:lh<=g+1/\g<=lh+1
 · obtain⟨t1,t2,t3⟩:=w hb.1 hb.2;omega
 · have:=h.l;omega
theorem zg3(m:Mk k d ts h):(d=.non/\ts=[]/\h=0)\/((∃xs,d=.tup xs)/\∃u rest,ts=u::rest):=by
 cases m with
 |non=>exact .inl ⟨rfl,rfl,rfl⟩
 | @node num a l t r lt rt lh rh _ _ _ _ _=>
   refine .inr ⟨⟨_,rfl⟩,?_⟩;cases e:ord a (lt++t::rt) with
   |nil=>exact absurd (z7a List.length e) (by rw[xx];simp)
   |cons u rest=>exact⟨u,rest,rfl⟩
theorem zhi(xs:List D):zdr (.tup xs) .non=some (.bl false):=rfl
theorem zoi{f c:Nat}(hw:S[i]? = some (wd (zad k) n))(ml:Mk k l lt lh)(mr:Mk k r rt rh)(hn:lt.length+rt.length<=2000)(al:All P l)(ar:All P r)(hf:rh<=f)(c1:lh<=rh+c)(c2:rh<=lh+c) :
   ∃d h new S',jp (jn f) [.obj i,l,r] S=some (d,S')/\Res k i S n P (lt++rt) d h new S'/\(lh<=rh+1->rh<=lh+1->Hi lh rh h)/\new.length<=9*rh+9*c+10:=by
 rcases zg3 ml with⟨rfl,rfl,rfl⟩ | ⟨⟨xs,rfl⟩,u0,r0,rfl⟩
 · exact⟨r,rh,[],S,rfl,⟨mr,Wt.nil hw,ar.old⟩,fun _ _=>hi0 rh,z54 _⟩
 · rcases zg3 mr with⟨rfl,rfl,rfl⟩ | ⟨⟨ys,rfl⟩,u,rest,rfl⟩
   · exact⟨_,lh,[],S,rfl,⟨by rw[z50];exact ml,Wt.nil hw,al.old⟩,fun _ _=>(hi0 lh).sym,z54 _⟩
   · simp only[List.length_cons]at hn;have l15:=h15 ml (by simp only[List.length_cons];omega);have r15:=h15 mr (by simp only[List.length_cons];omega);obtain⟨d1,g,w1,S1,q1,r1,⟨b1,b2⟩,b3⟩:=zn1 f hw mr (by omega) ar hf;have at0:=zaf (x:=u) 40 (b:=false) (p:=0) mr (by omega) rfl S;have hj:∃c',c'<40/\c'<=c+1/\lh<=g+c'/\g<=lh+c':=by
       obtain⟨z1,z2⟩:=ld1 b1 b2 c1 c2;rcases z68 c 30 with q | q
       · exact⟨c+1,by omega,z44 _,z1,z2⟩
       · exact⟨16,by decide,by omega,by omega,by omega⟩
     obtain⟨c',j1,j2,j3,j4⟩:=hj;obtain⟨d2,g2,w2,S2,q2,r2,b5,b6,b7⟩:=zaz 40 c' r1.wt.at_ ml r1.mm (mr.things u (z5d ..)) (by simp only[List.length_cons];omega) al.old r1.all j3 j4 j1;have r2:=r2.after r1.wt;exact⟨d2,g2,_,S2,ju rfl (zh (zn (qg (e_2 (e_v rfl) e_k (zhi _)))) (zh (zn (qg (e_2 (e_v rfl) e_k (zhi _)))) (zw (zi (a_c (e_v rfl) (a_c (e_v rfl) (a_c (zi (a_c (e_v rfl) (a_c e_k (a_c e_k a_n))) at0) (a_c (zi (a_c (e_v rfl) (a_c (e_v rfl) (a_c e_k a_n))) q1) a_n)))) q2)))),r2,ld2 b1 b2 b5 b6,by simp only[z42];omega⟩
theorem zwc{p:Nat}(h:p<a.length):(a++t::b).eraseIdx p=a.eraseIdx p++t::b:=List.eraseIdx_append_of_lt_length h _
theorem zwb:(a++t::b).eraseIdx a.length=a++b:=by rw[z75 (z44 _),z88];rfl
theorem zwa{q:Nat}:(a++t::b).eraseIdx (a.length+1+q)=a++t::b.eraseIdx q:=by rw[z75 (by omega),show a.length+1+q-a.length=q+1 by omega];rfl
theorem zat:∀(f:Nat) {d:D}{ts:List D}{h p:Nat}{n:Int}{S:Sto}{P:D->Prop},S[i]? = some (wd (zad k) n)->Mk k d ts h->ts.length<=2000->p<ts.length->All P d->h<=f ->
   ∃d' h' new S',jn f [.obj i,d,.int p] S=some (d',S')/\Res k i S n P (ts.eraseIdx p) d' h' new S'/\(h'<=h/\h<=h'+1)/\new.length<=9*h+21
 |0,d,ts,h,p,n,S,P,hw,m,hl,hp,al,hf=>absurd (zbl m (z7z.mp (by omega))) (z8i.mpr hf)
 | f+1,d,ts,h,p,n,S,P,hw,m,hl,hp,al,hf=>by
   obtain⟨x,v,y,xt,yt,xh,yh,w1,S1,c1,q⟩:=yp m (zbl m (z7z.mp (by omega))) hw al;have e1:=q.hts;subst e1;have c2:=j8 q.mx S1;have hx:=q.hh.l;have hy:=q.hh.r;simp only[z42,List.length_cons]at hl hp;by_cases h1:p<xt.length
   · obtain⟨d1,g,w2,S2,c3,r2,⟨b1,b2⟩,b3⟩:=zat f q.wt.at_ q.mx (by omega) h1 q.ax (by omega);have r2:=r2.after q.wt;obtain⟨⟨k1,k2⟩,k3⟩:=o1 q.hh q.h1 q.h2 b1 b2;obtain⟨d2,g2,w3,S3,c4,r3,b5,b6,b7⟩:=xj r2.wt.at_ r2.mm q.my q.ht k1 k2 (by rw[z96 h1];omega) r2.all q.ay.app;have r3:=r3.after r2.wt;exact⟨d2,g2,_,S3,ju rfl (zh (zq (zi (a_c (e_v rfl) (a_c (e_v rfl) a_n)) c1)) (zh (zq (zi (a_c (qt (e_v rfl) e_k rfl) a_n) c2)) (qh (qb (qg (e_2 (e_v rfl) (e_v rfl) (z0z h1))) (zw (zi (a_c (e_v rfl) (a_c (zi (a_c (e_v rfl) (a_c (qt (e_v rfl) e_k rfl) (a_c (e_v rfl) a_n))) c3) (a_c (qt (e_v rfl) e_k rfl) (a_c (qt (e_v rfl) e_k rfl) a_n)))) c4)))))),by rw[zwc h1];exact r3,k3 _ b5 b6,zrn q.hh q.few b3 b7⟩
   · by_cases h2:xt.length<p
     · obtain⟨z,e⟩:∃z,p=xt.length+1+z:=⟨p-xt.length-1,by omega⟩
       have hz:z<yt.length:=by omega
       obtain⟨d1,g,w2,S2,c3,r2,⟨b1,b2⟩,b3⟩:=zat f (p:=z) q.wt.at_ q.my (by omega) hz q.ay (by omega);have r2:=r2.after q.wt;obtain⟨⟨k1,k2⟩,k3⟩:=o1 q.hh.sym q.h2 q.h1 b1 b2;obtain⟨d2,g2,w3,S3,c4,r3,b5,b6,b7⟩:=xj r2.wt.at_ q.mx r2.mm q.ht k2 k1 (by rw[z96 hz];omega) q.ax.app r2.all;have r3:=r3.after r2.wt;exact⟨d2,g2,_,S3,ju rfl (zh (zq (zi (a_c (e_v rfl) (a_c (e_v rfl) a_n)) c1)) (zh (zq (zi (a_c (qt (e_v rfl) e_k rfl) a_n) c2)) (zh (zn (qg (e_2 (e_v rfl) (e_v rfl) (zy5 h1)))) (qh (qb (qg (e_2 (e_v rfl) (e_v rfl) (z3r h2))) (zw (zi (a_c (e_v rfl) (a_c (qt (e_v rfl) e_k rfl) (a_c (qt (e_v rfl) e_k rfl) (a_c (zi (a_c (e_v rfl) (a_c (qt (e_v rfl) e_k rfl) (a_c (zk1 (e_v rfl) (e_v rfl) e) a_n))) c3) a_n)))) c4))))))),by rw[e,zwa];exact r3,k3 _ b5.sym fun u v=>(b6 v u).sym,ztk q.hh q.few b3 b7⟩
     · have e:p=xt.length:=by omega
       obtain⟨d1,g,w2,S2,c3,r2,b1,b2⟩:=zoi (f:=f) (c:=1) q.wt.at_ q.mx q.my (by omega) q.ax q.ay (by omega) q.h1 q.h2;have r2:=r2.after q.wt;have hi:=b1 q.h1 q.h2;have hm:=hi.m (h-1) (by omega) (by omega);have h1':=hi.l;have h2':=hi.r;have he:=q.hh.e;have hf:=q.few;exact⟨d1,g,_,S2,ju rfl (zh (zq (zi (a_c (e_v rfl) (a_c (e_v rfl) a_n)) c1)) (zh (zq (zi (a_c (qt (e_v rfl) e_k rfl) a_n) c2)) (zh (zn (qg (e_2 (e_v rfl) (e_v rfl) (zy5 h1)))) (zh (zn (qg (e_2 (e_v rfl) (e_v rfl) (z2o h2)))) (zw (zi (a_c (e_v rfl) (a_c (qt (e_v rfl) e_k rfl) (a_c (qt (e_v rfl) e_k rfl) a_n))) c3)))))),by rw[e,zwb];exact r2,⟨by omega,by omega⟩,by simp only[z42];omega⟩
end Pg
namespace Pg
open PySem L2 F Mt
variable {k:Nat} [Kd k] {d l r t x y:D}{ts lt rt:List D}{h lh rh i:Nat}{n:Int}{S S0 S1:Sto}{ev e:Ev}{P Q:D->Prop}{a b new:List D}
structure Cut (k i:Nat) (S:Sto) (n:Int) (P:D->Prop) (lt rt:List D) (h:Nat) (x y:D) (xh yh:Nat) (new:List D) (S':Sto):Prop where
 wt:Wt k i S n new S'
 mx:Mk k x lt xh
 my:Mk k y rt yh
 hx:xh<=h
 hy:yh<=h
 ax:All (Ac P n new) x
 ay:All (Ac P n new) y
 few:new.length<=9*(xh+yh)+3*h
theorem ct1{xh yh bh h:Nat}(p:Top xh yh h)(h1:xh<=yh+1)(hb:bh<=xh)(h40:h<40):∃c,c<40/\bh<=yh+c/\yh<=bh+c/\∀z ah l1 l2 l3,Hi bh yh z->(bh<=yh+1->yh<=bh+1->Top bh yh z)->l1<=2->l2<=9*(ah+bh)+3*xh->l3<=9*c+1->l1+l2+l3<=9*(ah+z)+3*h:=by
 obtain⟨p1,p2,p3⟩:=p;by_cases q:bh<=yh
 · exact⟨yh-bh,by omega,by omega,by omega,fun z ah l1 l2 l3 hz _ _ _ _=>by have:=hz.r;omega⟩
 · exact⟨1,by decide,by omega,by omega,fun z ah l1 l2 l3 _ hz _ _ _=>by have:=(hz (by omega) (by omega)).l;omega⟩
theorem zzu{a b z h:Nat}(p:Hi a b z)(h1:a<h)(h2:b<h):z<=h:=by have:=p.m (h-1) (by omega) (by omega);omega
theorem zso{p:Nat}(h:p<=a.length):(a++t::b).take p=a.take p:=z67 h
theorem ztx{p:Nat}(h:p<=a.length):(a++t::b).drop p=a.drop p++t::b:=z66 h
theorem zsn{q:Nat}:(a++t::b).take (a.length+1+q)=a++t::b.take q:=by rw[List.take_append,z6j (by omega),show a.length+1+q-a.length=q+1 by omega,List.take_succ_cons]
theorem ztw{q:Nat}:(a++t::b).drop (a.length+1+q)=b.drop q:=by rw[List.drop_append,z64 (by omega),show a.length+1+q-a.length=q+1 by omega,List.drop_succ_cons,List.nil_append]
theorem ym:∀(f:Nat) {d:D}{ts:List D}{h p:Nat}{n:Int}{S:Sto}{P:D->Prop},S[i]? = some (wd (zad k) n)->Mk k d ts h->ts.length<=2000->p<=ts.length->All P d->h<f ->
   ∃x y xh yh new S',kz f [.obj i,d,.int p] S=some (.tup [x,y],S')/\Cut k i S n P (ts.take p) (ts.drop p) h x y xh yh new S'
 |0,_,_,_,_,_,_,_,_,_,_,_,_,hf=>absurd hf (z8c _)
 | f+1,d,ts,h,p,n,S,P,hw,m,hl,hp,al,hf=>by
   by_cases h0:p=0
   · subst h0;exact⟨.non,d,0,h,[],S,ju rfl (qh (qb (qg (e_2 (e_v rfl) e_k (z2v rfl))) (zw (yf (a_c e_k (a_c (e_v rfl) a_n)) (z5r rfl))))),Wt.nil hw,.non,m,z54 _,z44 _,.non,al.old,z54 _⟩
   · have c0:=j8 m S;have e0:kh (.int p) (.int 0)=some (.bl false):=z1a (y:=0) h0;by_cases h9:p=ts.length
     · subst h9;exact⟨d,.non,h,0,[],S,ju rfl (zh (zn (qg (e_2 (e_v rfl) e_k e0))) (qh (qb (qg (e_2 (e_v rfl) (zi (a_c (e_v rfl) a_n) c0) (z2v rfl))) (zw (yf (a_c (e_v rfl) (a_c e_k a_n)) (z5r rfl)))))),Wt.nil hw,by rw[List.take_length];exact m,by rw[List.drop_length];exact .non,z44 _,z54 _,al.old,.non,z54 _⟩
     · have h40:=h15 m hl;obtain⟨x,v,y,xt,yt,xh,yh,w1,S1,c1,q⟩:=yp m (zbl m (z7z.mp (by omega))) hw al;have e1:=q.hts;subst e1;have c2:=j8 q.mx S1;have hx:=q.hh.l;have hy:=q.hh.r;have hl':=hl;have hp':=hp;simp only[z42,List.length_cons]at hl' hp';by_cases h1:p<=xt.length
       · obtain⟨a,b,ah,bh,w2,S2,c3,u⟩:=ym f q.wt.at_ q.mx (by omega) h1 q.ax (by omega);have wt2:=q.wt.two u.wt;obtain⟨c,j1,j2,j3,j4⟩:=ct1 q.hh q.h1 u.hy (by omega);obtain⟨d2,g2,w3,S3,c4,r3,b5,b6,b7⟩:=zaz 40 c wt2.at_ u.my q.my q.ht (by rw[z5w];omega) u.ay.two q.ay.app j2 j3 j1;have r3:=r3.after wt2;have fw:=j4 _ ah _ _ _ b5 b6 q.few u.few b7;refine⟨a,d2,ah,g2,_,S3,ju rfl (zh (zn (qg (e_2 (e_v rfl) e_k e0))) (zh (zn (qg (e_2 (e_v rfl) (zi (a_c (e_v rfl) a_n) c0) (z1a h9)))) (zh (zq (zi (a_c (e_v rfl) (a_c (e_v rfl) a_n)) c1)) (zh (zq (zi (a_c (qt (e_v rfl) e_k rfl) a_n) c2)) (qh (qb (qg (e_2 (e_v rfl) (e_v rfl) (zwt h1))) (zh (zq (zi (a_c (e_v rfl) (a_c (qt (e_v rfl) e_k rfl) (a_c (e_v rfl) a_n))) c3)) (zw (yf (a_c (qt (e_v rfl) e_k rfl) (a_c (zi (a_c (e_v rfl) (a_c (qt (e_v rfl) e_k rfl) (a_c (qt (e_v rfl) e_k rfl) (a_c (qt (e_v rfl) e_k rfl) a_n)))) c4) a_n)) (z5r rfl)))))))))),⟨r3.wt,by rw[zso h1];exact u.mx,by rw[ztx h1];exact r3.mm,z5u u.hx (z6y hx),zzu b5 (z6x u.hy hx) hy,u.ax.two.app,r3.all,by rw[z42,z42];exact fw⟩⟩
       · obtain⟨z,e⟩:∃z,p=xt.length+1+z:=⟨p-xt.length-1,by omega⟩
         obtain⟨a,b,ah,bh,w2,S2,c3,u⟩:=ym f (p:=z) q.wt.at_ q.my (by omega) (by omega) q.ay (by omega);have wt2:=q.wt.two u.wt;obtain⟨c,j1,j2,j3,j4⟩:=ct1 q.hh.sym q.h2 u.hx (by omega);obtain⟨d2,g2,w3,S3,c4,r3,b5,b6,b7⟩:=zaz 40 c wt2.at_ q.mx u.mx q.ht (by rw[z5m];omega) q.ax.app u.ax.two j3 j2 j1;have r3:=r3.after wt2;have fw:=j4 _ bh _ _ _ b5.sym (fun u v=>(b6 v u).sym) q.few (by have:=u.few;rwa [Nat.add_comm ah bh]at this) b7;rw[Nat.add_comm bh]at fw;refine⟨d2,b,g2,bh,_,S3,ju rfl (zh (zn (qg (e_2 (e_v rfl) e_k e0))) (zh (zn (qg (e_2 (e_v rfl) (zi (a_c (e_v rfl) a_n) c0) (z1a h9)))) (zh (zq (zi (a_c (e_v rfl) (a_c (e_v rfl) a_n)) c1)) (zh (zq (zi (a_c (qt (e_v rfl) e_k rfl) a_n) c2)) (zh (zn (qg (e_2 (e_v rfl) (e_v rfl) (z3o h1)))) (zh (zq (zi (a_c (e_v rfl) (a_c (qt (e_v rfl) e_k rfl) (a_c (zk1 (e_v rfl) (e_v rfl) e) a_n))) c3)) (zw (yf (a_c (zi (a_c (e_v rfl) (a_c (qt (e_v rfl) e_k rfl) (a_c (qt (e_v rfl) e_k rfl) (a_c (qt (e_v rfl) e_k rfl) a_n)))) c4) (a_c (qt (e_v rfl) e_k rfl) a_n)) (z5r rfl))))))))),⟨r3.wt,by rw[e,zsn];exact r3.mm,by rw[e,ztw];exact u.my,zzu b5 hx (z6x u.hx hy),z5u u.hy (z6y hy),r3.all,u.ay.two.app,by rw[z42,z42];exact fw⟩⟩
theorem z0l{s e m:Nat}{f g w z:E}(hs:s<=e)(he:e<=m)(h0:f ev S=some (.int (0:Nat),S))(h1:g ev S=some (.int s,S))(h2:w ev S=some (.int e,S))(h3:z ev S=some (.int m,S)):zgj zex zex zex f g w z ev S=some (.bl true,S):=by simp only[zgj,h0,h1,h2,h3,Option.bind_some,zwt (z54 s),zwt hs,zwt he,Option.map_some]
theorem zlk{s e:Nat}(m:Mk k d ts h)(hs:s<=e)(he:e<=ts.length)(S:Sto):k9 [d,.int s,.int e] S=some (.non,S) :=
 z1d rfl (zn (zt3 (qg (z0l hs he e_k (e_v rfl) (e_v rfl) (zi (a_c (e_v rfl) a_n) (j8 m S))))))
def turn(s e:Nat)(ts:List D):List D:=ts.take s++((ts.take e).drop s).reverse++ts.drop e
theorem zft{s e:Nat}(hs:s<=e)(he:e<=ts.length):(turn s e ts).length=ts.length:=by simp only[turn,z42,z6o,z5w,z5m];omega
theorem ztf(hw:S[i]? = some (wd (zad k) n))(ml:Mk k l lt lh)(mr:Mk k r rt rh)(hn:lt.length+rt.length<=2000)(al:All P l)(ar:All P r):∃d h new S',kx [.obj i,l,r] S=some (d,S')/\Res k i S n P (lt++rt) d h new S'/\new.length<=9*rh+9*max lh rh+10:=by have h1:=h15 mr (by omega);obtain⟨d,h,new,S1,c,r,_,b⟩:=zoi (f:=40) (c:=max lh rh) hw ml mr hn al ar (by omega) (by omega) (by omega);exact⟨d,h,new,S1,c,r,b⟩
theorem zev{s e:Nat}(hw:S[i]? = some (wd (zad k) n))(m:Mk k d ts h)(hl:ts.length<=2000)(hs:s<=e)(he:e<=ts.length)(al:All P d):∃d' h' new S',zai [.obj i,d,.int s,.int e] S=some (d',S')/\Res k i S n P (turn s e ts) d' h' new S':=by
 have h1:=h15 m hl;obtain⟨x,y,xh,yh,w1,S1,c1,u⟩:=ym 40 hw m hl he al (by omega);have hx:=u.hx;obtain⟨x',y',xh',yh',w2,S2,c2,u'⟩:=ym 40 (p:=s) u.wt.at_ u.mx (by rw[z5m];omega) (by rw[z5m];omega) u.ax (by omega);have wt2:=u.wt.two u'.wt;obtain⟨d3,w3,S3,c3,r3,_⟩:=zjv u'.my wt2.at_ u'.ay.two;have r3:=r3.after wt2;obtain⟨d4,h4,w4,S4,c4,r4,_⟩:=ztf r3.wt.at_ u'.mx r3.mm (by simp only[z6o,z5w,z5m];omega) u'.ax.two.app r3.all;have r4:=r4.after r3.wt;obtain⟨d5,h5,w5,S5,c5,r5,_⟩:=ztf r4.wt.at_ r4.mm u.my (by simp only[z42,z6o,z5w,z5m];omega) r4.all u.ay.app.app.app;have r5:=r5.after r4.wt;have es:(ts.take e).take s=ts.take s:=by rw[qav,z7y hs]
 rw[es]at r5;exact⟨d5,h5,_,S5,ju rfl (zh (yo (zi (a_c (e_v rfl) (a_c (e_v rfl) (a_c (e_v rfl) a_n))) (zlk m hs he S))) (zh (zq (zi (a_c (e_v rfl) (a_c (e_v rfl) (a_c (e_v rfl) a_n))) c1)) (zh (zq (zi (a_c (e_v rfl) (a_c (qt (e_v rfl) e_k rfl) (a_c (e_v rfl) a_n))) c2)) (zh (zq (zi (a_c (e_v rfl) (a_c (qt (e_v rfl) e_k rfl) (a_c (xo (e_v rfl) (qw wt2.at_) (zbw _ _) (a_c (qt (e_v rfl) e_k rfl) a_n) c3) a_n))) c4)) (zw (zi (a_c (e_v rfl) (a_c (e_v rfl) (a_c (qt (e_v rfl) e_k rfl) a_n))) c5)))))),r5⟩
end Pg
namespace Pg
open PySem L2 F Mt
variable {k:Nat} [Kd k] {d l r t x y:D}{ts lt rt:List D}{h lh rh i:Nat}{n:Int}{S S0 S1:Sto}{ev e:Ev}{P Q:D->Prop}{a b new:List D}
theorem p1{xh yh h g:Nat}(p:Top xh yh h)(q1:xh<=yh+1)(q2:yh<=xh+1)(g1:xh<=g)(g2:g<=xh+1):(g<=yh+2/\yh<=g+2)/\∀z,Hi g yh z->(g<=yh+1->yh<=g+1->Top g yh z)->h<=z/\z<=h+1:=by
 obtain⟨p1,p2,p3⟩:=p;refine⟨⟨by omega,by omega⟩,fun z hz ht=>?_⟩;by_cases hb:g<=yh+1/\yh<=g+1
 · obtain⟨t1,t2,t3⟩:=ht hb.1 hb.2;omega
 · have:=hz.l;have:=hz.m g (z44 _) (by omega);omega
theorem z11{p:Nat}(h:p<=a.length):(a++t::b).take p++x::(a++t::b).drop p=(a.take p++x::a.drop p)++t::b:=by rw[zso h,ztx h];simp
theorem z10{q:Nat}:(a++t::b).take (a.length+1+q)++x::(a++t::b).drop (a.length+1+q)=a++t::(b.take q++x::b.drop q):=by rw[zsn,ztw];simp
theorem zio(p:Nat):(ts.take p++x::ts.drop p).length=ts.length+1:=by simp only[z42,List.length_cons,z5m,z5w];omega
theorem zdo:∀(f:Nat) {d:D}{ts:List D}{h p:Nat}{n:Int}{S:Sto}{P:D->Prop},S[i]? = some (wd (zad k) n)->Mk k d ts h->ts.length<2000->p<=ts.length->Thing k x->All P d->h<f ->
   ∃d' h' new S',zc9 f [.obj i,d,.int p,x] S=some (d',S')/\Res k i S n P (ts.take p++x::ts.drop p) d' h' new S'/\(h<=h'/\h'<=h+1)/\new.length<=9*h+1
 |0,_,_,_,_,_,_,_,_,_,_,_,_,_,hf=>absurd hf (z8c _)
 | f+1,d,ts,h,p,n,S,P,hw,m,hl,hp,ht,al,hf=>by
   rcases zg3 m with⟨rfl,rfl,rfl⟩ | ⟨⟨xs,ed⟩,u0,r0,e0⟩
   · obtain⟨d1,S1,g1,c1,r1,t1⟩:=yi hw (.non (k:=k)) (.non (k:=k)) ht (z9i 0) (z9i 0) (by decide) (All.non (P:=P)) .non;have e:g1=1:=by have:=t1.e;omega
     subst e;exact⟨d1,1,_,S1,ju rfl (qh (qb (qg (e_2 (e_v rfl) e_k rfl)) (zw (xo (e_v rfl) (qw hw) (xq _ _) (a_c e_k (a_c (e_v rfl) (a_c e_k a_n))) c1)))),by simpa using r1,⟨z54 _,z44 _⟩,z44 _⟩
   · obtain⟨z,v,y,xt,yt,xh,yh,w1,S1,c1,q⟩:=yp m (zbl m (by rw[e0];simp)) hw al;have e1:=q.hts;subst e1;have c2:=j8 q.mx S1;have hx:=q.hh.l;have hy:=q.hh.r;have hi:zdr d .non=some (.bl false):=by rw[ed];rfl
     simp only[z42,List.length_cons]at hl hp;by_cases h1:p<=xt.length
     · obtain⟨d1,g,w2,S2,c3,r2,⟨b1,b2⟩,b3⟩:=zdo f q.wt.at_ q.mx (by omega) h1 ht q.ax (by omega);have r2:=r2.after q.wt;obtain⟨⟨k1,k2⟩,k3⟩:=p1 q.hh q.h1 q.h2 b1 b2;obtain⟨d2,g2,w3,S3,c4,r3,b5,b6,b7⟩:=xj r2.wt.at_ r2.mm q.my q.ht k1 k2 (by rw[zio];omega) r2.all q.ay.app;have r3:=r3.after r2.wt;exact⟨d2,g2,_,S3,ju rfl (zh (zn (qg (e_2 (e_v rfl) e_k hi))) (zh (zq (zi (a_c (e_v rfl) (a_c (e_v rfl) a_n)) c1)) (zh (zq (zi (a_c (qt (e_v rfl) e_k rfl) a_n) c2)) (qh (qb (qg (e_2 (e_v rfl) (e_v rfl) (zwt h1))) (zw (zi (a_c (e_v rfl) (a_c (zi (a_c (e_v rfl) (a_c (qt (e_v rfl) e_k rfl) (a_c (e_v rfl) (a_c (e_v rfl) a_n)))) c3) (a_c (qt (e_v rfl) e_k rfl) (a_c (qt (e_v rfl) e_k rfl) a_n)))) c4))))))),by rw[z11 h1];exact r3,k3 _ b5 b6,zrn q.hh q.few b3 b7⟩
     · obtain⟨z',e⟩:∃z,p=xt.length+1+z:=⟨p-xt.length-1,by omega⟩
       obtain⟨d1,g,w2,S2,c3,r2,⟨b1,b2⟩,b3⟩:=zdo f (p:=z') q.wt.at_ q.my (by omega) (by omega) ht q.ay (by omega);have r2:=r2.after q.wt;obtain⟨⟨k1,k2⟩,k3⟩:=p1 q.hh.sym q.h2 q.h1 b1 b2;obtain⟨d2,g2,w3,S3,c4,r3,b5,b6,b7⟩:=xj r2.wt.at_ q.mx r2.mm q.ht k2 k1 (by rw[zio];omega) q.ax.app r2.all;have r3:=r3.after r2.wt;exact⟨d2,g2,_,S3,ju rfl (zh (zn (qg (e_2 (e_v rfl) e_k hi))) (zh (zq (zi (a_c (e_v rfl) (a_c (e_v rfl) a_n)) c1)) (zh (zq (zi (a_c (qt (e_v rfl) e_k rfl) a_n) c2)) (zh (zn (qg (e_2 (e_v rfl) (e_v rfl) (z3o h1)))) (zw (zi (a_c (e_v rfl) (a_c (qt (e_v rfl) e_k rfl) (a_c (qt (e_v rfl) e_k rfl) (a_c (zi (a_c (e_v rfl) (a_c (qt (e_v rfl) e_k rfl) (a_c (zk1 (e_v rfl) (e_v rfl) e) (a_c (e_v rfl) a_n)))) c3) a_n)))) c4)))))),by rw[e,z10];exact r3,k3 _ b5.sym fun u v=>(b6 v u).sym,ztk q.hh q.few b3 b7⟩
theorem z0m{p m:Nat}{f g w:E}(hp:p<m)(h0:f ev S=some (.int (0:Nat),S))(h1:g ev S=some (.int p,S))(h2:w ev S=some (.int m,S)):zhr zex zgy f g w ev S=some (.bl true,S):=by simp only[zhr,h0,h1,h2,Option.bind_some,zwt (z54 p),z0z hp,Option.map_some]
theorem zfy{p m:Nat}(hp:p<m)(S:Sto):xr [.int p,.int m] S=some (.non,S):=z1d rfl (zn (zt3 (qg (z0m hp e_k (e_v rfl) (e_v rfl)))))
theorem z23{p:Nat}(m:Mk k d ts h)(hl:ts.length<=2000)(hp:ts[p]? = some x)(S:Sto):z2q [d,.int p] S=some (x,S) :=
 ju rfl (zh (yo (zi (a_c (e_v rfl) (a_c (zi (a_c (e_v rfl) a_n) (j8 m S)) a_n)) (zfy (z5b.mp hp).1 S))) (zw (zi (a_c (e_v rfl) (a_c e_k (a_c (e_v rfl) a_n))) (zaf 40 (b:=false) m (z5u (h15 m hl) (by decide)) hp S))))
theorem z3y(x:Nat):qu (.int x) (.int 1)=some (.int (x+1:Nat)):=rfl
theorem zx2{p:Nat}(hw:S[i]? = some (wd (zad k) n))(m:Mk k d ts h)(hl:ts.length<2000)(hp:p<=ts.length)(ht:Thing k x)(al:All P d) :
   ∃d' h' new S',zvy [.obj i,d,.int p,x] S=some (d',S')/\Res k i S n P (ts.take p++x::ts.drop p) d' h' new S'/\new.length<=9*h+1:=by
 have h1:=h15 m (z6y hl);obtain⟨d',h',new,S1,c,r,_,b⟩:=zdo 40 hw m hl hp ht al (by omega);exact⟨d',h',new,S1,ju rfl (zh (yo (zi (a_c (e_v rfl) (a_c (e_2 (zi (a_c (e_v rfl) a_n) (j8 m S)) e_k (z3y _)) a_n)) (zfy (Nat.lt_succ_of_le hp) S))) (zh (yo (zi (a_c (e_2 (zi (a_c (e_v rfl) a_n) (j8 m S)) e_k (z3y _)) a_n) (zim hl S))) (zw (zi (a_c (e_v rfl) (a_c (e_v rfl) (a_c (e_v rfl) (a_c (e_v rfl) a_n)))) c)))),r,b⟩
theorem zyn{p:Nat}(hw:S[i]? = some (wd (zad k) n))(m:Mk k d ts h)(hl:ts.length<=2000)(hp:p<ts.length)(al:All P d) :
   ∃d' h' new S',zrh [.obj i,d,.int p] S=some (d',S')/\Res k i S n P (ts.eraseIdx p) d' h' new S'/\new.length<=9*h+21:=by
 have h1:=h15 m hl;obtain⟨d',h',new,S1,c,r,_,b⟩:=zat 40 hw m hl hp al (by omega);exact⟨d',h',new,S1,ju rfl (zh (yo (zi (a_c (e_v rfl) (a_c (zi (a_c (e_v rfl) a_n) (j8 m S)) a_n)) (zfy hp S))) (zw (zi (a_c (e_v rfl) (a_c (e_v rfl) (a_c (e_v rfl) a_n))) c))),r,b⟩
theorem zdm{q j:Nat}{v:E}{us:List D}(he:ev[q]? = some (some (.obj j)))(hj:S[j]? = some (.lst us))(hv:v ev S=some (x,S))(hl:us.length<16777216):zav (eV q) v ev S=some (.nx ev,S.set j (.lst (us++[x]))):=by have hz:sizeLine=16777216:=z60;simp only[zav,e_v he,Option.bind_some,hj,hv,hz,z5s hl]
theorem zd7:∀(f:Nat) {d:D}{ts:List D}{h j:Nat}{b:Bool}{acc:List D}{S:Sto},Mk k d ts h->h<f->S[j]? = some (.lst acc)->acc.length+ts.length<16777216->zda f [d,.bl b,.obj j] S=some (.non,S.set j (.lst (acc++ord b ts)))
 |0,_,_,_,_,_,_,_,_,hf,_,_=>absurd hf (z8c _)
 | f+1,d,ts,h,j,b,acc,S,m,hf,hj,hl=>by
   rcases zg3 m with⟨rfl,rfl,rfl⟩ | ⟨⟨xs,ed⟩,u0,r0,e0⟩
   · rw[show ord b ([]:List D)=[] by cases b<;>rfl,z50];have:S.set j (.lst acc)=S:=by obtain⟨hj',ej⟩:=z5b.mp hj;rw[<-ej];exact List.set_getElem_self hj'
     rw[this];exact ju rfl (qh (qb (qg (e_2 (e_v rfl) e_k rfl)) rfl))
   · obtain⟨u,t,y,c,xt,yt,xh,yh,c1,s⟩:=zij m (zbl m (by rw[e0];simp)) b S;have hi:zdr d .non=some (.bl false):=by rw[ed];rfl
     have hu:=s.hu;have hlen:ts.length=xt.length+(yt.length+1):=by have:=z7a List.length hu;rw[xx,z42,List.length_cons,xx,xx]at this;exact this
     have hx:=s.hx;have hy:=s.hy;have lx:=xx c xt;have ly:=xx c yt;have c2:=zd7 f (b:=c) (S:=S) s.mx (by omega) hj (by omega);have j2:(S.set j (.lst (acc++ord c xt)))[j]? = some (.lst (acc++ord c xt)):=zng hj;have j3:((S.set j (.lst (acc++ord c xt))).set j (.lst (acc++ord c xt++[t])))[j]? = some (.lst (acc++ord c xt++[t])):=zng j2;have c3:=zd7 f (b:=c) s.my (by omega) j3 (by simp only[z42,List.length_cons,List.length_nil];omega);have e5:((S.set j (.lst (acc++ord c xt))).set j (.lst (acc++ord c xt++[t]))).set j (.lst (acc++ord c xt++[t]++ord c yt))=S.set j (.lst (acc++ord b ts)):=by rw[List.set_set,List.set_set,show acc++ord c xt++[t]++ord c yt=acc++ord b ts by rw[hu];simp]
     rw[e5]at c3;exact z1d rfl (zh (zn (qg (e_2 (e_v rfl) e_k hi))) (zh (zq (zi (a_c (e_v rfl) (a_c (e_v rfl) a_n)) c1)) (zh (yo (zi (a_c (qt (e_v rfl) e_k rfl) (a_c (qt (e_v rfl) e_k rfl) (a_c (e_v rfl) a_n))) c2)) (zh (zdm rfl j2 (qt (e_v rfl) e_k rfl) (by simp only[z42];omega)) (yo (zi (a_c (qt (e_v rfl) e_k rfl) (a_c (qt (e_v rfl) e_k rfl) (a_c (e_v rfl) a_n))) c3))))))
def SB(S:Sto):Prop:=∀m∈S,zsa S.length m=true
theorem zeq{m:Nat}(hx:Thing k x):bnd m x=true:=by
 cases zc6 hx with
 |non=>rfl
 |int i=>rfl
 |str z=>rfl
 |pair a b=>rfl
theorem zbt{m:Nat}:∀{ts:List D},(∀x∈ts,Thing k x)->bndL m ts=true
 | [],_=>rfl
 | t::ts,h=>by unfold bndL;rw[zeq (h t (z5d ..)),zbt fun x hx=>h x (z46 _ hx)];rfl
theorem zw4(m:Nat)(n:Int):zsa m (wd (zad k) n)=true:=by rcases Kd.eq (k:=k)with h | h<;>subst h<;>rfl
theorem zcq(m:Mk k d ts h)(hl:ts.length<=2000)(hb:SB S):jy [d] S=some (.lst ts,S):=by
 have h1:=h15 m hl;have c1:=zd7 40 (b:=false) (S:=S++[.lst []]) (j:=S.length) (acc:=[]) m (by omega) (zdz S _) (by simp only[List.length_nil];omega);have e1:(S++[MO.lst []]).set S.length (.lst ([]++ord false ts))=S++[.lst ts]:=by simp[ord]
 rw[e1]at c1;have c2:qa 2 1 zel [d] S=some (.obj S.length,S++[.lst ts]):=ju rfl (zh (zq (zpi a_n (z54 _))) (zh (yo (zi (a_c (e_v rfl) (a_c e_k (a_c (e_v rfl) a_n))) c1)) (zw (e_v rfl))));have e2:(S++[MO.lst ts]).take S.length=S:=qau;have e3:S.all (zsa S.length)=true:=z6d.mpr hb;unfold jy frz;rw[c2];simp only[Option.bind_some,e2,e3,z61,z69,z6i,zdz,zbt m.things]
end Pg
namespace Pg
open PySem L2 F Mt
variable {k:Nat} [Kd k] {d l r t x y:D}{ts lt rt:List D}{h lh rh i:Nat}{n:Int}{S S0 S1:Sto}{ev e:Ev}{P Q:D->Prop}{a b new:List D}
theorem zsd(m:Mk k d ts h):All (fun _=>True) d:=by
 induction m with
 |non=>exact .non
 |node _ _ _ _ _ il ir=>exact .node trivial il ir
theorem znj(h:∀z∈lt,Thing k z):∀z∈lt.reverse,Thing k z:=fun z hz=>h z (z7n.mp hz)
theorem sx(m d v:Nat):HT.sIx m d (some (v:Int))=min v m:=by show(if(v:Int)<0 then ((v:Int)+(m:Int)).toNat else min (v:Int).toNat m)=min v m;rw[z5y (by omega),Int.toNat_natCast]
theorem z1w(e:Nat):zyv (.lst ts) none (some (e:Int))=some (.lst (ts.take e)):=by show some (D.lst ((ts.drop 0).take (HT.sIx ts.length ts.length (some (e:Int))-0)))=_;rw[sx,z8z,Nat.sub_zero,<-qav,List.take_length]
theorem znd{s:Nat}(hs:s<=ts.length):zyv (.lst ts) (some (s:Int)) none=some (.lst (ts.drop s)):=by show some (D.lst ((ts.drop (HT.sIx ts.length 0 (some (s:Int)))).take (ts.length-HT.sIx ts.length 0 (some (s:Int)))))=_;rw[sx,z7y hs,z6j (by rw[z5w];omega)]
theorem zxi{s e:Nat}(hs:s<=e)(he:e<=ts.length):zyv (.lst ts) (some (s:Int)) (some (e:Int))=some (.lst ((ts.take e).drop s)):=by show some (D.lst ((ts.drop (HT.sIx ts.length 0 (some (s:Int)))).take (HT.sIx ts.length ts.length (some (e:Int))-HT.sIx ts.length 0 (some (s:Int)))))=_;rw[sx,sx,z7y (z5u hs he),z7y he,List.drop_take]
theorem zob(m:Int)(c:Nat):∃e:Nat,e<=c/\jb (.int m) (.int ((c:Int)+1))=some (.int e):=by have x0:=z6z m (show(c:Int)+1≠0 by omega);have x1:=z6f m (show(0:Int)<(c:Int)+1 by omega);exact⟨(m%((c:Int)+1)).toNat,by omega,by rw[yd (by omega),show(((m%((c:Int)+1)).toNat:Nat):Int)=m%((c:Int)+1) by omega]⟩
theorem zf2(m:Int){c:Nat}(hc:0<c):∃e:Nat,e<c/\jb (.int m) (.int (c:Int))=some (.int e):=by have x0:=z6z m (show(c:Int)≠0 by omega);have x1:=z6f m (show(0:Int)<(c:Int) by omega);exact⟨(m%(c:Int)).toNat,by omega,by rw[yd (by omega),show(((m%(c:Int)).toNat:Nat):Int)=m%(c:Int) by omega]⟩
theorem rng{c:Nat}(h:c<=10000):∀x∈j6 0 c,∃i:Int,x=.int i/\0<=i/\i<10000:=fun x hx=>by unfold j6 at hx;obtain⟨j,hj,rfl⟩:=z72.mp hx;have:=List.mem_range.mp hj;exact⟨_,rfl,by omega,by omega⟩
theorem zfx(c:Nat):(j6 0 c).length=c:=by simp[j6]
end Pg
namespace Pg
open PySem L2 F Mt
variable {k:Nat} [Kd k] {d l r t x y:D}{ts us lt rt:List D}{h lh rh i:Nat}{n:Int}{S S0 S1:Sto}{ev e:Ev}{P Q:D->Prop}
theorem zxn(ns:List Int){q:Int}(h0:0<=q)(h1:q<ns.length):∃v:Int,atI (ns.map D.int) q=some (.int v):=by
 have hi:q.toNat<ns.length:=by omega
 have e2:(ns.map D.int)[q.toNat]? = some (.int ns[q.toNat]):=by rw[z6s,z49 hi];rfl
 have e3:=zer e2;rw[show((q.toNat:Nat):Int)=q by omega]at e3;exact⟨_,e3⟩
theorem p30:zdq (.int 10) (.int 30)=some (.int (10^30)):=by
 have:zs5 10 30=some (10^30):=by unfold zs5;rw[z5s (by decide)];rfl
 simp only[zdq,F.opI,this];rfl
theorem yx(ns:List Int)(hn:ns.length<=63){q:Int}(h0:0<=q)(h1:q<=1000000):∃m:Int,0<=m/\m<999999937/\∀S,z5 [.lst (ns.map D.int),.int q] S=some (.int m,S):=by
 have len:∀S:Sto,zfb S [.lst (ns.map D.int)]=some (.int (ns.length:Int)):=fun S=>by simp[zfb]
 have first:∀(S:Sto),qp 2 (e2 qu (e2 zap (e2 zap (eV 1) (eV 1)) (eK (.int 7919))) (eK (.int 17))) [some (.lst (ns.map D.int)),some (.int q),none] S=some (.nx [some (.lst (ns.map D.int)),some (.int q),some (.int (q*q*7919+17))],S):=fun S=>
   zq (e_2 (e_2 (e_2 (e_v rfl) (e_v rfl) (zkj (by omega))) e_k (zki (by decide))) e_k (add_int _ _))
 have last:∀(c:Int) (S:Sto),ql (e2 jb (e2 zap (e2 jb (e2 qu (e2 zap (eV 2) (eK (.int 48271))) (e2 zap (eV 1) (eK (.int 69621)))) (eK (.int 2147483647))) (e2 qu (e2 jb (eV 2) (eK (.int 65521))) (eK (.int 3)))) (eK (.int 999999937))) [some (.lst (ns.map D.int)),some (.int q),some (.int c)] S=some (.rt (.int ((c*48271+q*69621)%2147483647*(c%65521+3)%999999937)),S):=fun c S=>by have y0:=z6z (c*48271+q*69621) (show(2147483647:Int)≠0 by decide);have y1:=z6f (c*48271+q*69621) (show(0:Int)<2147483647 by decide);exact zw (e_2 (e_2 (e_2 (e_2 (e_2 (e_v rfl) e_k (zki (by decide))) (e_2 (e_v rfl) e_k (zki (by decide))) (add_int _ _)) e_k (yd (by decide))) (e_2 (e_2 (e_v rfl) e_k (yd (by decide))) e_k (add_int _ _)) (zkj (by omega))) e_k (yd (by decide)))
 by_cases z:0<(ns.length:Int)
 · have x0:=z6z q (show(ns.length:Int)≠0 by omega);have x1:=z6f q z;obtain⟨v,hv⟩:=zxn ns x0 x1;refine⟨_,z6z _ (by decide),z6f _ (by decide),fun S=>ju rfl (zh (first S) (zh (qb (qg (e_2 (e_a (a_c (e_v rfl) a_n) (len _)) e_k (show zh7 (.int (ns.length:Int)) (.int 0)=some (.bl true) by simp[zh7,zq7];omega)))
     (zq (e_2 (e_2 (qt (e_v rfl) (e_2 (e_v rfl) (e_a (a_c (e_v rfl) a_n) (len _)) (yd z)) hv) (e_2 e_k e_k p30) (yd (by decide))) (e_2 (e_2 (e_v rfl) (e_a (a_c (e_v rfl) a_n) (len _)) (zjc ⟨z,by omega⟩)) e_k (zki (by decide))) (add_int _ _)))) (last _ S)))⟩
 · exact⟨_,z6z _ (by decide),z6f _ (by decide),fun S=>ju rfl (zh (first S) (zh (zn (qg (e_2 (e_a (a_c (e_v rfl) a_n) (len _)) e_k (show zh7 (.int (ns.length:Int)) (.int 0)=some (.bl false) from(by show some (D.bl (decide ((0:Int)<(ns.length:Int))))=_;rw[z5o z]))))) (last _ S)))⟩
theorem zih{i:Nat}{f:E}{b:C}{n:Int}{o:Out}{S2:Sto}(h:f ev S=some (.int n,S1))(h0:0<=n)(h1:n<1000000)(q:zck i b (j6 0 n.toNat) ev S1=some (o,S2)):zil i f b ev S=some (o,S2):=by
 have cnd:-(2^62)<=n/\n<2^62:=by omega
 simp only[zil,h,Option.bind_some,z5s cnd,q]
theorem zf6{i:Nat}{b:C}{d:D}{ds:List D}{e1:Ev}{o:Out}{S2:Sto}(h:b (ev.set i (some d)) S=some (.nx e1,S1))(q:zck i b ds e1 S1=some (o,S2)):zck i b (d::ds) ev S=some (o,S2):=by unfold zck;rw[h];exact q
theorem zui{i j:Nat}{f:E}{x y:D}(h:f ev S=some (.tup [x,y],S1)):zxo [i,j] f ev S=some (.nx ((ev.set i (some x)).set j (some y)),S1):=by simp[zxo,h,y4]
theorem zvn{f:E}(h:f ev S=some (.lst ts,S1)):zk3 (aC f aN) ev S=some (.lst ts,S1):=by simp[zk3,aC,aN,h]
theorem zox{g:G}{ds us:List D}{J:Sto}(hS:SB S)(hg:g ds S=some (.lst us,S++J))(hb:bndL S.length us=true):frz g ds S=some (.lst us,S):=by unfold frz;rw[hg];have e1:(S++J).take S.length=S:=qau;have e2:S.all (zsa S.length)=true:=z6d.mpr hS;simp only[Option.bind_some,e1,e2,z61,bnd,hb]
theorem zlr(lo:Int)(m:Nat):j6 lo (m+1)=.int lo::j6 (lo+1) m:=by
 unfold j6;rw[List.range_succ_eq_map,z5j,z8o];congr 1
 · simp
 · refine List.map_congr_left fun z _=>?_;simp;omega
end Pg
namespace Pg
open PySem L2 F Mt
structure Sw (T:D->Prop) (lt:D->D->Bool):Prop where
 irr:∀x,T x->lt x x=false
 tr:∀x y z,T x->T y->T z->lt x y=true->lt y z=true->lt x z=true
 co:∀x y z,T x->T y->T z->lt x z=true->lt x y=true\/lt y z=true
section
variable {T:D->Prop}{lt:D->D->Bool}
def alk(lt:D->D->Bool)(x y:D):Prop:=lt x y=false/\lt y x=false
def Srt(lt:D->D->Bool)(l:List D):Prop:=l.Pairwise fun x y=>lt x y=true
def Al(T:D->Prop)(l:List D):Prop:=∀x∈l,T x
theorem Al.tail{x:D}{l:List D}(h:Al T (x::l)):Al T l:=fun y hy=>h y (z46 _ hy)
theorem Al.head{x:D}{l:List D}(h:Al T (x::l)):T x:=h x (z5d ..)
open Classical in
def hs(lt:D->D->Bool)(l:List D)(x:D):Bool:=decide (∃y∈l,alk lt y x)
open Classical in
theorem hs_iff{l:List D}{x:D}:hs lt l x=true↔∃y∈l,alk lt y x:=by unfold hs;exact qab
theorem hs_no{l:List D}{x:D}:hs lt l x=false↔∀y∈l,¬ alk lt y x:=by rw[z8v,ne_eq,hs_iff];exact⟨fun h y hy r=>h ⟨y,hy,r⟩,fun h ⟨y,hy,r⟩=>h y hy r⟩
def cb(lt:D->D->Bool)(l:List D)(x:D):Nat:=(l.filter (lt · x)).length
theorem zt0(w:Sw T lt){a b:List D}{t x:D}(al:Al T (a++t::b))(tx:T x)(s:Srt lt (a++t::b)):cb lt (a++t::b) x=if lt t x=true then a.length+1+cb lt b x else cb lt a x:=by
 have tt:T t:=al t (by simp);obtain⟨sa,sb,sab⟩:=z47.mp s;obtain⟨st,sb'⟩:=z63.mp sb;unfold cb;rw[qac,z42,List.filter_cons];split
 · rename_i h;have e:a.filter (lt · x)=a:=z85.mpr fun y hy=>w.tr y t x (al y (by simp[hy])) tt tx (sab y hy t (z5d ..)) h;rw[e,List.length_cons];omega
 · rename_i h;have e:b.filter (lt · x)=[]:=z8l.mpr fun y hy q=>h (w.tr t y x tt (al y (by simp[hy])) tx (st y hy) q);rw[e];simp
theorem zr2(l:List D)(x:D):cb lt l x<=l.length:=List.length_filter_le ..
theorem zca(w:Sw T lt){x:D}(tx:T x):∀{l:List D},Al T l->Srt lt l->(∀y∈l.take (cb lt l x),lt y x=true)/\(∀y∈l.drop (cb lt l x),lt y x=false)
 | [],_,_=>⟨fun y hy=>by simp at hy,fun y hy=>by simp at hy⟩
 | z::l,al,s=>by
   obtain⟨sz,sl⟩:=z63.mp s;have e:=zt0 w (a:=[]) (b:=l) (t:=z) al tx s;rw[List.nil_append]at e;by_cases h:lt z x=true
   · rw[z5s h]at e;obtain⟨i1,i2⟩:=zca w tx al.tail sl;rw[e,show[].length+1+cb lt l x=cb lt l x+1 by simp;omega,List.take_succ_cons,List.drop_succ_cons];exact⟨fun y hy=>(z5p.mp hy).elim (fun q=>q▸h) (i1 y),i2⟩
   · rw[z5y h]at e;have e0:cb lt (z::l) x=0:=e;rw[e0];refine⟨fun y hy=>by simp at hy,fun y hy=>?_⟩;rcases z5p.mp hy with rfl | hy
     · exact z8v.mpr h
     · exact z8v.mpr fun q=>h (w.tr z y x al.head (al.tail y hy) tx (sz y hy) q)
theorem zvu(w:Sw T lt){x:D}(tx:T x){l:List D}(al:Al T l)(s:Srt lt l):hs lt l x=true↔∃y,l[cb lt l x]? = some y/\lt x y=false:=by
 obtain⟨h1,h2⟩:=zca w tx al s;constructor
 · intro h;obtain⟨y,hy,r⟩:=hs_iff.mp h;have hy':y∈l.drop (cb lt l x):=by
     rw[<-z6a (cb lt l x) l]at hy;rcases z5x.mp hy with q | q
     · have:=r.1;rw[h1 y q]at this;cases this
     · exact q
   cases q:l.drop (cb lt l x) with
   |nil=>rw[q]at hy';cases hy'
   | cons z m=>
     have hz:l[cb lt l x]? = some z:=by have:=z9d (xs:=l) (i:=cb lt l x) (j:=0);rw[q]at this;simpa using this.symm
     refine⟨z,hz,?_⟩;have sd:Srt lt (z::m):=q▸List.Pairwise.drop s;rw[q]at hy';rcases z5p.mp hy' with rfl | hm
     · exact r.2
     · cases g:lt x z with
       |false=>rfl
       | true=>
         have tz:=al z (z51 hz);have:=w.tr x z y tx tz (al y hy) g ((z63.mp sd).1 y hm);rw[r.2]at this;cases this
 · intro⟨y,hy,r⟩;have hm:y∈l.drop (cb lt l x):=z51 (i:=0) (by rw[z9d];simpa using hy);exact hs_iff.mpr ⟨y,z51 hy,h2 y hm,r⟩
theorem zu0(w:Sw T lt){x:D}(tx:T x){l:List D}(al:Al T l)(s:Srt lt l)(h:hs lt l x=false):Srt lt (l.take (cb lt l x)++x::l.drop (cb lt l x)):=by
 obtain⟨h1,h2⟩:=zca w tx al s;have hd:∀y∈l.drop (cb lt l x),lt x y=true:=fun y hy=>by
   have:=hs_no.mp h y (z7b hy);cases q:lt x y with
   |true=>rfl
   |false=>exact absurd ⟨h2 y hy,q⟩ this
 have s0:Srt lt (l.take (cb lt l x)++l.drop (cb lt l x)):=by rw[z6a];exact s
 obtain⟨sa,sb,sab⟩:=z47.mp s0;refine z47.mpr ⟨sa,z63.mpr ⟨hd,sb⟩,fun y hy z hz=>?_⟩;rcases z5p.mp hz with rfl | hz
 · exact h1 y hy
 · exact sab y hy z hz
end
variable {k:Nat} [Kd k] {d d0 l r t x y:D}{ts us rt:List D}{h i j g rh:Nat}{n:Int}{S S0 S1:Sto}{ev:Ev}{T:D->Prop}{lt:D->D->Bool}{f:LT}{vs:List D}
theorem zto(w c:Int):kh (.int w) (.int c)=some (.bl (decide (w=c))):=by rw[zfj];rfl
theorem zy4(w c:Int):zgy (.int w) (.int c)=some (.bl (decide (w<c))):=rfl
structure Bf (k:Nat) (T:D->Prop) (lt:D->D->Bool) (f:LT) (vs:List D):Prop where
 two:f.params.args.length=2
 no:noCL vs=true
 th:∀x,T x->Thing k x
 nc:∀x,T x->noC x=true
 ca:∃g,ztz f=some g/\∀x y,T x->T y->∀S,g ([x,y]++vs) S=some (.bl (lt x y),S)
 sw:Sw T lt
theorem bef{q:Nat}{e1 e2:E}(B:Bf k T lt f vs)(hn:noCS S=true)(hq:ev[q]? = some (some (.clo f vs)))(h1:e1 ev S=some (x,S))(h2:e2 ev S=some (y,S))(tx:T x)(ty:T y):zfl ft zhf ztz (eV q) (aC e1 (aC e2 aN)) ev S=some (.bl (lt x y),S):=by
 obtain⟨g,hg,hc⟩:=B.ca;have nn:(noCL [x,y]&&noCL vs&&noCS S)=true/\[x,y].length=f.params.args.length:=⟨by rw[B.no,hn];simp only[noCL,B.nc x tx,B.nc y ty,z9w],B.two.symm⟩
 simp only[zfl,e_v hq,Option.bind_some,hg,a_c h1 (a_c h2 a_n),z5s nn,hc x y tx ty]
theorem zgk(B:Bf k T lt f vs)(hn:noCS S=true)(tx:T x):∀(q:Nat) {d:D}{ts:List D}{h:Nat}{b:Bool},Mk k d ts h->h<q->Al T (ord b ts)->Srt lt (ord b ts)->x4 q [d,.bl b,x,.clo f vs] S=some (.int (cb lt (ord b ts) x:Nat),S)
 |0,_,_,_,_,_,hq,_,_=>absurd hq (z8c _)
 | q+1,d,ts,h,b,m,hq,al,s=>by
   rcases zg3 m with⟨rfl,rfl,rfl⟩ | ⟨⟨xs,rfl⟩,u0,rest,e0⟩
   · have e:ord b ([]:List D)=[]:=by unfold ord;split<;>rfl
     rw[e];exact ju rfl (qh (qb (qg (e_2 (e_v rfl) e_k rfl)) (zw e_k)))
   · have hh:0<h:=zbl m (by rw[e0];simp);obtain⟨u,t,y,c,xt,yt,xh,yh,c1,sn⟩:=zij m hh b S;have hu:=sn.hu;have hx:=sn.hx;have hy:=sn.hy;rw[hu]at al s ⊢;have tt:T t:=al t (by simp);obtain⟨sa,sb,_⟩:=z47.mp s;have sb':=(z63.mp sb).2;have aX:Al T (ord c xt):=fun z hz=>al z (by simp[hz]);have aY:Al T (ord c yt):=fun z hz=>al z (by simp[hz]);rw[zt0 B.sw al tx s];have e1:bE (zfl ft zhf ztz (eV 3) (aC (e2s qf (eV 4) (eK (.int 1))) (aC (eV 2) aN))) [some (.tup xs),some (.bl b),some x,some (.clo f vs),some (.tup [u,t,y,.bl c])] S=some (lt t x,S):=qg (bef B hn rfl (qt (e_v rfl) e_k rfl) (e_v rfl) tt tx);by_cases g:lt t x=true
     · rw[z5s g];rw[g]at e1;refine ju rfl (zh (zn (qg (e_2 (e_v rfl) e_k (zhi xs)))) (zh (zq (zi (a_c (e_v rfl) (a_c (e_v rfl) a_n)) c1)) (qh (qb e1 (zw (e_2 (e_2 (zi (a_c (qt (e_v rfl) e_k rfl) a_n) (j8 sn.mx S)) e_k (add_int _ _)) (zi (a_c (qt (e_v rfl) e_k rfl) (a_c (qt (e_v rfl) e_k rfl) (a_c (e_v rfl) (a_c (e_v rfl) a_n)))) (zgk B hn tx q sn.my (by omega) aY sb')) ?_))))));rw[add_int,xx];congr 2
     · have g':lt t x=false:=z8v.mpr g;rw[z5y g];rw[g']at e1;exact ju rfl (zh (zn (qg (e_2 (e_v rfl) e_k (zhi xs)))) (zh (zq (zi (a_c (e_v rfl) (a_c (e_v rfl) a_n)) c1)) (zh (zn e1) (zw (zi (a_c (qt (e_v rfl) e_k rfl) (a_c (qt (e_v rfl) e_k rfl) (a_c (e_v rfl) (a_c (e_v rfl) a_n)))) (zgk B hn tx q sn.mx (by omega) aX sa))))))
structure Ste (k:Nat) (T:D->Prop) (lt:D->D->Bool) (d:D) (ts:List D) (h:Nat):Prop where
 mm:Mk k d ts h
 al:Al T ts
 sr:Srt lt ts
theorem zb2(B:Bf k T lt f vs)(hn:noCS S=true)(tx:T x)(s:Ste k T lt d ts h)(hl:ts.length<=2000):ko [d,x,.clo f vs] S=some (.int (cb lt ts x:Nat),S):=by have h1:=h15 s.mm hl;have:=zgk B hn tx 40 (b:=false) s.mm (by omega) (show Al T (ord false ts)from s.al) (show Srt lt (ord false ts)from s.sr);exact ju rfl (zw (zi (a_c (e_v rfl) (a_c e_k (a_c (e_v rfl) (a_c (e_v rfl) a_n)))) this))
theorem zdj(B:Bf k T lt f vs)(hn:noCS S=true)(tx:T x)(s:Ste k T lt d ts h)(hl:ts.length<=2000):j5 [d,.int (cb lt ts x:Nat),x,.clo f vs] S=some (.bl (hs lt ts x),S):=by
 have hat:=zvu B.sw tx s.al s.sr;by_cases hp:cb lt ts x<ts.length
 · have hy:ts[cb lt ts x]? = some ts[cb lt ts x]:=z49 hp;have ty:=s.al _ (z8g hp);have e:hs lt ts x=!lt x ts[cb lt ts x]:=by
     rw[z93,hat];constructor
     · rintro⟨y,q,r⟩;rw[hy]at q;cases q;rw[r];rfl
     · intro q;exact⟨_,hy,by cases g:lt x ts[cb lt ts x]with | false=>rfl | true=>rw[g]at q;cases q⟩
   rw[e];exact ju rfl (zw (zts (e_2 (e_v rfl) (zi (a_c (e_v rfl) a_n) (j8 s.mm S)) ((zy4 _ _).trans (by rw[z5z (by omega)]))) (z0f (bef B hn rfl (e_v rfl) (zi (a_c (e_v rfl) (a_c (e_v rfl) a_n)) (z23 s.mm hl hy S)) tx ty))))
 · have e:hs lt ts x=false:=by
     cases g:hs lt ts x with
     |false=>rfl
     |true=>obtain⟨y,q,_⟩:=hat.mp g;exact absurd (z5b.mp q).1 hp
   rw[e];exact ju rfl (zw (z0g (e_2 (e_v rfl) (zi (a_c (e_v rfl) a_n) (j8 s.mm S)) ((zy4 _ _).trans (by rw[z5o (by omega)])))))
end Pg
namespace Pg
open PySem L2 F Mt
variable {d d0 l r t x y:D}{ts us rt:List D}{h i j g rh:Nat}{n:Int}{S S0 S1:Sto}{ev:Ev}{T:D->Prop}{lt:D->D->Bool}{f:LT}{vs:List D}
theorem ztg(a b:Int):([a] < [b])↔a<b:=by rw[z6n];simp
theorem zzk(a b c d:Int):([a,b] < [c,d])↔(a<c\/a=c/\b<d):=by rw[z6n,ztg]
theorem zzl(a c:Int)(b d:Str):(a::Srt.nums b<c::Srt.nums d)↔(a<c\/a=c/\b.cps.toList<d.cps.toList):=by rw[z6n];have:(Srt.nums b<Srt.nums d)↔b.cps.toList<d.cps.toList:=Srt.map_lt _ _;rw[this]
theorem zkd{a b:Str}(h:Srt.nums a=Srt.nums b):a=b:=by obtain⟨a⟩:=a;obtain⟨b⟩:=b;refine z7a Str.mk (Array.toList_inj.mp ?_);exact(List.map_inj_right fun x y e=>Int.ofNat.inj e).mp h
theorem zvp(h:x5 x<4)(e:x5 x=x5 y)(c:zf9 x=zf9 y):x=y:=by
 have h':x5 y<4:=e▸h;rcases jx h with⟨n,rfl⟩ | ⟨z,rfl⟩ | ⟨a,b,rfl⟩ | ⟨a,z,rfl⟩<;>rcases jx h' with⟨m,rfl⟩ | ⟨w,rfl⟩ | ⟨u,v,rfl⟩ | ⟨u,w,rfl⟩<;>first | (simp[x5]at e;done) | skip
 · rw[show n=m from List.head_eq_of_cons_eq c]
 · rw[zkd c]
 · obtain⟨c1,c2⟩:=qam c;rw[c1,List.head_eq_of_cons_eq c2]
 · obtain⟨c1,c2⟩:=qam c;rw[c1,zkd c2]
theorem zzh(h:x5 x<4)(e:x5 x=x5 y):kh x y=some (.bl (decide (zf9 x=zf9 y))):=by
 have h':x5 y<4:=e▸h;have ei:∀(m:Nat) (i j:Int),eqN m (.int i) (.int j)=some (i==j):=fun m i j=>by cases m<;>rfl
 have es:∀(m:Nat) (i j:Str),eqN m (.str i) (.str j)=some (i==j):=fun m i j=>by cases m<;>rfl
 have key:∀b:Bool,eqN 150 x y=some b->(b=true↔x=y)->kh x y=some (.bl (decide (zf9 x=zf9 y))):=fun b h1 h2=>by
   unfold kh;rw[h1];have:b=decide (zf9 x=zf9 y):=by rw[z93,h2,qab];exact⟨fun q=>q▸rfl,zvp h e⟩
   rw[this];rfl
 rcases jx h with⟨n,rfl⟩ | ⟨z,rfl⟩ | ⟨a,b,rfl⟩ | ⟨a,z,rfl⟩<;>rcases jx h' with⟨m,rfl⟩ | ⟨w,rfl⟩ | ⟨u,v,rfl⟩ | ⟨u,w,rfl⟩<;>first | (simp[x5]at e;done) | skip
 · exact key _ (ei _ _ _) (by simp)
 · exact key _ (es _ _ _) (by simp)
 · exact key ((a==u)&&((b==v)&&true)) (by show eqL (eqN 149) [.int a,.int b] [.int u,.int v]=_;simp[eqL,ei]) (by simp)
 · exact key ((a==u)&&((z==w)&&true)) (by show eqL (eqN 149) [.int a,.str z] [.int u,.str w]=_;simp[eqL,ei,es]) (by simp)
theorem zze(h:x5 x<4)(e:x5 x=x5 y):zlx x y=some (.bl (decide (zf9 x<zf9 y))):=by
 have h':x5 y<4:=e▸h;rcases jx h with⟨n,rfl⟩ | ⟨z,rfl⟩ | ⟨a,b,rfl⟩ | ⟨a,z,rfl⟩<;>rcases jx h' with⟨m,rfl⟩ | ⟨w,rfl⟩ | ⟨u,v,rfl⟩ | ⟨u,w,rfl⟩<;>first | (simp[x5]at e;done) | skip
 · show some (D.bl (decide (n<m)))=some (.bl (decide ([n] < [m])));rw[z6q.mpr (ztg n m)]
 · show some (D.bl (decide (z.cps.toList<w.cps.toList)))=some (.bl (decide (Srt.nums z<Srt.nums w)));rw[z6q.mpr (show(Srt.nums z<Srt.nums w)↔z.cps.toList<w.cps.toList from Srt.map_lt _ _)]
 · show(zl3 [.int a,.int b] [.int u,.int v]).map D.bl=some (.bl (decide ([a,b] < [u,v])));rw[z6q.mpr (zzk a b u v)];simp only[zl3];by_cases h:a=u
   · subst h;by_cases g:b=v
     · subst g;rw[z5o (show ¬ (a<a\/a=a/\b<b) by omega)];simp
     · simp[g]
   · simp[h]
 · show(zl3 [.int a,.str z] [.int u,.str w]).map D.bl=some (.bl (decide (a::Srt.nums z<u::Srt.nums w)));rw[z6q.mpr (zzl a u z w)];simp only[zl3];by_cases h:a=u
   · subst h;by_cases g:z=w
     · subst g;rw[z5o (show ¬ (a<a\/a=a/\z.cps.toList<z.cps.toList)from fun q=>q.elim (fun z=>by omega) fun z=>z80 _ z.2)];simp
     · simp[g]
   · simp[h]
def Ti(x:D):Prop:=∃i,x=.int i
def Tw(x:D):Prop:=∃z,x=.str z/\z.length<=8
def iv:D->Int
 | .int i=>i
 |_=>0
def sv:D->Str
 | .str z=>z
 |_=>⟨#[]⟩
theorem zxj(z:Str)(lo hi:Option Int):(zcg z lo hi).length<=z.length:=by
 unfold zcg;split
 · exact z44 _
 · have h1:=PyProof.Rows.indices_len_le lo hi z.length;refine z5u ?_ h1;show(List.filterMap _ _).toArray.size<=_;rw[z5f];exact List.length_filterMap_le _ _
def zfd(κ:Int)(x:D):D:=if κ=1 then .int (0-iv x)else if κ=2 then .tup [.int (iv x%7),x]else if κ=3 then .int (iv x/3)else if κ=4 then .int (if iv x<0 then-iv x else iv x)else if κ=6 then .tup [.int (sv x).length,x]else if κ=7 then .str (zcg (sv x) none (some 1))else x
def zao(κ:Int):D->Prop:=if κ<5 then Ti else Tw
theorem zhh{κ:Int}(h0:0<=κ)(h1:κ<8)(tx:zao κ x):qv [.int κ,x] S=some (zfd κ x,S):=by
 have hz:sizeLine=16777216:=z60;have:κ=0\/κ=1\/κ=2\/κ=3\/κ=4\/κ=5\/κ=6\/κ=7:=by omega
 rcases this with rfl | rfl | rfl | rfl | rfl | rfl | rfl | rfl
 · exact ju rfl (zh (zn (qg (e_2 (e_v rfl) e_k rfl))) (zh (zn (qg (e_2 (e_v rfl) e_k rfl))) (zh (zn (qg (e_2 (e_v rfl) e_k rfl))) (zh (zn (qg (e_2 (e_v rfl) e_k rfl))) (zh (zn (qg (e_2 (e_v rfl) e_k rfl))) (zh (zn (qg (e_2 (e_v rfl) e_k rfl))) (zw (e_v rfl))))))))
 · obtain⟨i,rfl⟩:=(show Ti x from tx)
   exact ju rfl (qh (qb (qg (e_2 (e_v rfl) e_k rfl)) (zw (e_2 e_k (e_v rfl) (sub_int _ _)))))
 · obtain⟨i,rfl⟩:=(show Ti x from tx)
   exact ju rfl (zh (zn (qg (e_2 (e_v rfl) e_k rfl))) (qh (qb (qg (e_2 (e_v rfl) e_k rfl)) (zw (yf (a_c (e_2 (e_v rfl) e_k (yd (by decide))) (a_c (e_v rfl) a_n)) (z5r rfl))))))
 · obtain⟨i,rfl⟩:=(show Ti x from tx)
   exact ju rfl (zh (zn (qg (e_2 (e_v rfl) e_k rfl))) (zh (zn (qg (e_2 (e_v rfl) e_k rfl))) (qh (qb (qg (e_2 (e_v rfl) e_k rfl)) (zw (e_2 (e_v rfl) e_k (zjc (by decide))))))))
 · obtain⟨i,rfl⟩:=(show Ti x from tx)
   exact ju rfl (zh (zn (qg (e_2 (e_v rfl) e_k rfl))) (zh (zn (qg (e_2 (e_v rfl) e_k rfl))) (zh (zn (qg (e_2 (e_v rfl) e_k rfl))) (qh (qb (qg (e_2 (e_v rfl) e_k rfl)) (zw (e_a (a_c (e_v rfl) a_n) rfl)))))))
 · exact ju rfl (zh (zn (qg (e_2 (e_v rfl) e_k rfl))) (zh (zn (qg (e_2 (e_v rfl) e_k rfl))) (zh (zn (qg (e_2 (e_v rfl) e_k rfl))) (zh (zn (qg (e_2 (e_v rfl) e_k rfl))) (zh (zn (qg (e_2 (e_v rfl) e_k rfl))) (zh (zn (qg (e_2 (e_v rfl) e_k rfl))) (zw (e_v rfl))))))))
 · obtain⟨z,rfl,hl⟩:=(show Tw x from tx)
   have ln:zfb S [.str z]=some (.int z.length):=by show(if z.length<=sizeLine then some (D.int z.length)else none)=_;rw[z5s (by omega)]
   exact ju rfl (zh (zn (qg (e_2 (e_v rfl) e_k rfl))) (zh (zn (qg (e_2 (e_v rfl) e_k rfl))) (zh (zn (qg (e_2 (e_v rfl) e_k rfl))) (zh (zn (qg (e_2 (e_v rfl) e_k rfl))) (qh (qb (qg (e_2 (e_v rfl) e_k rfl)) (zw (yf (a_c (e_a (a_c (e_v rfl) a_n) ln) (a_c (e_v rfl) a_n)) (z5r rfl)))))))))
 · obtain⟨z,rfl,hl⟩:=(show Tw x from tx)
   have sl:z1c (eV 1) pN (pE (eK (.int 1))) [some (.int 7),some (.str z)] S=some (.str (zcg z none (some 1)),S):=by
     have h2:=zxj z none (some 1);have h3:(zcg z none (some 1)).length<=sizeLine:=by omega
     simp[z1c,eV,pN,pE,eK,zyu,h3]
   exact ju rfl (zh (zn (qg (e_2 (e_v rfl) e_k rfl))) (zh (zn (qg (e_2 (e_v rfl) e_k rfl))) (zh (zn (qg (e_2 (e_v rfl) e_k rfl))) (zh (zn (qg (e_2 (e_v rfl) e_k rfl))) (zh (zn (qg (e_2 (e_v rfl) e_k rfl))) (qh (qb (qg (e_2 (e_v rfl) e_k rfl)) (zw sl))))))))
def kq(κ:Int):Nat:=if κ=2 then 2 else if κ=6 then 3 else if κ<5 then 0 else 1
theorem kq4(κ:Int):kq κ<4:=by
 unfold kq;split
 · decide
 split
 · decide
 split<;>decide
theorem zay{κ:Int}(h0:0<=κ)(h1:κ<8)(tx:zao κ x):x5 (zfd κ x)=kq κ:=by
 have:κ=0\/κ=1\/κ=2\/κ=3\/κ=4\/κ=5\/κ=6\/κ=7:=by omega
 rcases this with rfl | rfl | rfl | rfl | rfl | rfl | rfl | rfl
 · obtain⟨i,rfl⟩:=(show Ti x from tx);rfl
 · obtain⟨i,rfl⟩:=(show Ti x from tx);rfl
 · obtain⟨i,rfl⟩:=(show Ti x from tx);rfl
 · obtain⟨i,rfl⟩:=(show Ti x from tx);rfl
 · obtain⟨i,rfl⟩:=(show Ti x from tx);rfl
 · obtain⟨z,rfl,hl⟩:=(show Tw x from tx);rfl
 · obtain⟨z,rfl,hl⟩:=(show Tw x from tx);rfl
 · obtain⟨z,rfl,hl⟩:=(show Tw x from tx);rfl
def cc(κ:Int)(x:D):List Int:=zf9 (zfd κ x)
def ltk(κ:Int)(x y:D):Bool:=decide (cc κ x<cc κ y)
theorem z1u(κ:Int):Sw T (ltk κ) :=
 ⟨fun x _=>z5o (z80 _),fun x y z _ _ _ p q=>z5z (List.lt_trans (z7e p) (z7e q)),fun x y z _ _ _ p=>by
   have p:=z7e p;by_cases q:cc κ x<cc κ y
   · exact .inl (z5z q)
   · refine .inr (z5z ?_);by_cases g:cc κ y<cc κ z
     · exact g
     · exact absurd p (z62.mpr (List.le_trans (z62.mp g) (z62.mp q)))⟩
theorem alk_cc{κ:Int}:alk (ltk κ) x y↔cc κ x=cc κ y:=by
 unfold alk ltk;rw[z8e,z8e];constructor
 · rintro⟨a,b⟩;exact z9u (z62.mp b) (z62.mp a)
 · intro e;rw[e];exact⟨z80 _,z80 _⟩
theorem zzj{κ:Int}(h0:0<=κ)(h1:κ<8)(tx:zao κ x)(ty:zao κ y):kh (zfd κ x) (zfd κ y)=some (.bl (decide (cc κ x=cc κ y))) :=
 zzh (by rw[zay h0 h1 tx];exact kq4 κ) (by rw[zay h0 h1 tx,zay h0 h1 ty])
theorem zzb{κ:Int}(h0:0<=κ)(h1:κ<8)(tx:zao κ x)(ty:zao κ y):zlx (zfd κ x) (zfd κ y)=some (.bl (ltk κ x y)) :=
 zze (by rw[zay h0 h1 tx];exact kq4 κ) (by rw[zay h0 h1 tx,zay h0 h1 ty])
theorem zg4{κ:Int}(tx:zao κ x):Thing 0 x:=by
 unfold zao at tx;split at tx
 · exact .inl tx
 · exact .inr tx
theorem zw6{k:Nat}[Kd k]{κ:Int}(hk:k=0\/5<=κ)(tx:zao κ x):Thing k x:=by
 rcases Kd.eq (k:=k)with e | e
 · subst e;exact zg4 tx
 · subst e;unfold zao at tx;rw[z5y (by rcases hk with h | h<;>omega)]at tx;obtain⟨z,rfl,h⟩:=tx;exact⟨z,rfl,by omega⟩
theorem zhb{κ:Int}(tx:zao κ x):noC x=true:=by rcases zg4 tx with⟨i,rfl⟩ | ⟨z,rfl,_⟩<;>rfl
theorem zk7{cn:B}{fr:Ev}{p:D->Bool}:∀(ds:List D),(∀x∈ds,cn (some x::fr) S=some (p x,S))->zme cn (eV 0) fr ds S=some (ds.filter p,S)
 | [],_=>rfl
 | x::ds,hc=>by
   have ih:=zk7 ds fun y hy=>hc y (z46 _ hy);unfold zme;rw[hc x (z5d ..)];simp only[Option.bind_some];cases g:p x with
   | true=>
     rw[z5s rfl,List.filter_cons_of_pos g];show((eV 0 (some x::fr) S).bind fun q=>(zme cn (eV 0) fr ds q.2).bind fun r=>some (q.1::r.1,r.2))=_;rw[show eV 0 (some x::fr) S=some (x,S)from rfl];simp only[Option.bind_some,ih]
   | false=>
     rw[z5y (by simp),z9e (by rw[g];simp)];exact ih
theorem zpo{fr:List Nat}{e:E}{cn:B}{p:D->Bool}(he:e ev S=some (.lst ts,S))(hc:∀x∈ts,cn (some x::fr.map (zh8 ev)) S=some (p x,S)):xw fr (zj1 e) cn (eV 0) ev S=some (.lst (ts.filter p),S):=by unfold xw zj1;rw[he];simp only[Option.bind_some,zbs,zk7 ts hc,Option.map_some]
theorem zyx{κ:Int}(h0:0<=κ)(h1:κ<8)(tx:zao κ x):noC (zfd κ x)=true:=by
 have h:x5 (zfd κ x)<4:=by rw[zay h0 h1 tx];exact kq4 κ
 rcases jx h with⟨n,e⟩ | ⟨z,e⟩ | ⟨a,b,e⟩ | ⟨a,z,e⟩<;>rw[e]<;>rfl
theorem zkq{c:D->List Int}(al:Al T ts):Al T (j9 c ts):=fun x hx=>al x ((xf ts).mem_iff.mp hx)
theorem zol{κ:Int}(hd:ts.Pairwise fun x y=>cc κ x≠cc κ y):Srt (ltk κ) (j9 (cc κ) ts):=by
 have p1:=zd3 (c:=cc κ) ts;have p2:(j9 (cc κ) ts).Pairwise fun x y=>cc κ x≠cc κ y:=(xf ts).symm.pairwise hd fun h=>h.symm;refine(p1.and p2).imp fun {x y} q=>z5z ?_;by_cases g:cc κ x<cc κ y
 · exact g
 · exact absurd (z9u (z62.mp q.1) (z62.mp g)) q.2
theorem zqg{κ:Int}(h0:0<=κ)(h1:κ<8)(al:Al (zao κ) ts)(hd:ts.Pairwise fun x y=>cc κ x≠cc κ y):zna (ts.map (zfd κ)) ts=some (j9 (cc κ) ts):=by
 have hk:∀d∈ts.map (zfd κ),x5 d=kq κ:=fun d hd=>by obtain⟨x,hx,rfl⟩:=z72.mp hd;exact zay h0 h1 (al x hx)
 have hkn:(ts=[]/\kn (ts.map (zfd κ))=0)\/kn (ts.map (zfd κ))=kq κ:=by
   cases ts with
   |nil=>exact .inl ⟨rfl,rfl⟩
   |cons x ts=>exact .inr (hk _ (by simp))
 unfold zna;have hp:(ts.map (zfd κ)).map zf9=ts.map (cc κ):=by rw[z8o];rfl
 have hcond:kn (ts.map (zfd κ))<4/\(∀d∈ts.map (zfd κ),x5 d=kn (ts.map (zfd κ)))/\((ts.map (zfd κ)).map zf9).Pairwise (·≠·):=by
   refine⟨?_,?_,?_⟩
   · rcases hkn with⟨_,e⟩ | e
     · rw[e];decide
     · rw[e];exact kq4 κ
   · rcases hkn with⟨e,_⟩ | e
     · subst e;intro d hd;cases hd
     · rw[e];exact hk
   · rw[hp,z9l];exact hd
 rw[z5s hcond,hp];have e:(ts.map (cc κ)).zip ts=ts.map (fun d=>(cc κ d,d)):=by
   clear al hd hk hkn hp hcond
   induction ts with
   |nil=>rfl
   |cons x ts ih=>rw[z5j,z5j,List.zip_cons_cons,ih]
 rw[e,zbf (c:=cc κ) (c':=fun p:List Int×D=>p.1) (fun d=>(cc κ d,d)) (fun _=>rfl),z8o];exact z7a some (List.map_id _)
theorem zhs{cn:B}{fr:Ev}{p:D->Bool}{a:Nat}(ha:S[a]? = some (.lst us)):∀(ds:List D),(∀x∈ds,cn (some x::fr) S=some (p x,S))->yn a us cn (eV 0) fr ds S=some (ds.filter p,S)
 | [],_=>zfn ha
 | x::ds,hc=>by
   have ih:=zhs ha ds fun y hy=>hc y (z46 _ hy);rw[zej ha,hc x (z5d ..)];simp only[Option.bind_some];cases g:p x with
   | true=>
     rw[z5s rfl,List.filter_cons_of_pos g];show((eV 0 (some x::fr) S).bind fun q=>(yn a us cn (eV 0) fr ds q.2).bind fun r=>some (q.1::r.1,r.2))=_;rw[show eV 0 (some x::fr) S=some (x,S)from rfl];simp only[Option.bind_some,ih]
   | false=>
     rw[z5y (by simp),z9e (by rw[g];simp)];exact ih
theorem z0j{fr:List Nat}{e:E}{cn:B}{p:D->Bool}{a:Nat}(he:e ev S=some (.obj a,S))(ha:S[a]? = some (.lst us))(hc:∀x∈us,cn (some x::fr.map (zh8 ev)) S=some (p x,S)):xw fr (zj1 e) cn (eV 0) ev S=some (.lst (us.filter p),S):=by unfold xw zj1;rw[he];simp only[Option.bind_some,ha,zbs,zhs ha us hc,Option.map_some]
end Pg
namespace Pg
open PySem L2 F Mt
variable {k:Nat} [Kd k] {d d0 l r t x y:D}{ts us rt:List D}{h i j g rh:Nat}{n:Int}{S S0 S1:Sto}{ev:Ev}{T:D->Prop}{lt:D->D->Bool}{f:LT}{vs:List D}
theorem z24:(Str.ofString "abc").length<=sizeLine:=by decide +kernel
theorem z0u:(Str.ofString "abc").cps.toList.length=3:=by decide +kernel
theorem z25(c:Int):∃z,∀S:Sto,qf S (.str (Str.ofString "abc")) (.int (c%3))=some (.str ⟨#[z]⟩):=by
 have x0:=z6z c (show(3:Int)≠0 by decide);have x1:=z6f c (show(0:Int)<3 by decide);generalize c%3=z at x0 x1;have hat:∃c,atI (Str.ofString "abc").cps.toList z=some c:=by
   have hz:z.toNat<(Str.ofString "abc").cps.toList.length:=by rw[z0u];omega
   have e3:=zer (z49 hz);rw[show((z.toNat:Nat):Int)=z by omega]at e3;exact⟨_,e3⟩
 obtain⟨y,hy⟩:=hat;refine⟨y,fun S=>?_⟩;unfold qf;simp only[z5s z24,hy];rfl
def tE8:E:=zar (aC (eK (.int 8)) (aC (eK (.int 24)) (aC (eK (.int 72)) (aC (eK (.int 216)) (aC (eK (.int 648)) (aC (eK (.int 1944)) (aC (eK (.int 5832)) (aC (eK (.int 17496)) aN))))))))
theorem z1q:tE8 ev S=some (.tup [.int 8,.int 24,.int 72,.int 216,.int 648,.int 1944,.int 5832,.int 17496],S):=yf (a_c e_k (a_c e_k (a_c e_k (a_c e_k (a_c e_k (a_c e_k (a_c e_k (a_c e_k a_n)))))))) (z5r rfl)
def tB:C:=qp 2 (e2 qu (eV 2) (e2s qf (eK (.str (Str.ofString "abc"))) (e2 jb (e2 zbp (eV 1) (e2s qf tE8 (eV 3))) (eK (.int 3)))))
theorem zsp(κ c:Int):∀(m lo:Nat) (z:Str) (o:Option D),lo+m<=8->z.length<=lo->∃z':Str,z'.length<=8/\∃o',∀S,zck 3 tB (j6 (lo:Int) m) [some (.int κ),some (.int c),some (.str z),o] S=some (.nx [some (.int κ),some (.int c),some (.str z'),o'],S)
 |0,lo,z,o,hm,hz=>⟨z,by omega,o,fun S=>rfl⟩
 | m+1,lo,z,o,hm,hz=>by
   have hs:sizeLine=16777216:=z60;obtain⟨q,hq,iq⟩:∃q:Int,(0<q/\q<1073741824)/\∀S:Sto,qf S (.tup [.int 8,.int 24,.int 72,.int 216,.int 648,.int 1944,.int 5832,.int 17496]) (.int lo)=some (.int q):=by
     have:lo=0\/lo=1\/lo=2\/lo=3\/lo=4\/lo=5\/lo=6\/lo=7:=by omega
     rcases this with rfl | rfl | rfl | rfl | rfl | rfl | rfl | rfl
     · exact⟨8,by decide,fun S=>rfl⟩
     · exact⟨24,by decide,fun S=>rfl⟩
     · exact⟨72,by decide,fun S=>rfl⟩
     · exact⟨216,by decide,fun S=>rfl⟩
     · exact⟨648,by decide,fun S=>rfl⟩
     · exact⟨1944,by decide,fun S=>rfl⟩
     · exact⟨5832,by decide,fun S=>rfl⟩
     · exact⟨17496,by decide,fun S=>rfl⟩
   obtain⟨y,hy⟩:=z25 (c/q);have l1:(⟨#[y]⟩:Str).length=1:=rfl;have ad:qu (.str z) (.str ⟨#[y]⟩)=some (.str (z++⟨#[y]⟩)):=by show(if z.length+(⟨#[y]⟩:Str).length<=sizeLine then some (D.str (z++⟨#[y]⟩))else none)=_;rw[z5s (by omega)]
   obtain⟨z',hz',o',ih⟩:=zsp κ c m (lo+1) (z++⟨#[y]⟩) (some (.int lo)) (by omega) (by rw[Mt.str_len];omega);refine⟨z',hz',o',fun S=>?_⟩;rw[zlr,show((lo:Int)+1)=((lo+1:Nat):Int)from rfl];exact zf6 (zq (e_2 (e_v rfl) (qt e_k (e_2 (e_2 (e_v rfl) (qt z1q (e_v rfl) (iq _)) (zjc hq)) e_k (yd (by decide))) (hy _)) ad)) (ih S)
theorem p60:zdq (.int 10) (.int 60)=some (.int (10^60)):=by
 have:zs5 10 60=some (10^60):=by unfold zs5;rw[z5s (by decide)];rfl
 simp only[zdq,F.opI,this];rfl
theorem p6:zdq (.int 982451653) (.int 6)=some (.int (982451653^6)):=by
 have:zs5 982451653 6=some (982451653^6):=by unfold zs5;rw[z5s (by decide)];rfl
 simp only[zdq,F.opI,this];rfl
theorem zjx{κ:Int}(h0:0<=κ)(h1:κ<8)(c:Int)(c0:0<=c)(c1:c<999999937):∃x,zao κ x/\∀S,ji [.int κ,.int c] S=some (x,S):=by
 by_cases q:κ<5
 · have lt5:∀S,bE (e2 zgy (eV 0) (eK (.int 5))) [some (.int κ),some (.int c),none,none] S=some (true,S):=fun S=>qg (e_2 (e_v rfl) e_k ((zy4 _ _).trans (by rw[z5z q])));by_cases z:c%9=0
   · refine⟨.int ((c+5)*982451653^6%(2*10^60-1)+1-10^60),?_,fun S=>ju rfl (qh (qb (zc1 (lt5 S) (qg (e_2 (e_2 (e_v rfl) e_k (yd (by decide))) e_k ((zto _ _).trans (by rw[z5z z]))))) (zw (e_2 (e_2 (e_2 (e_2 (e_2 (e_v rfl) e_k (add_int _ _)) (e_2 e_k e_k p6) (zkj (by omega))) (e_2 (e_2 e_k (e_2 e_k e_k p60) (zkj (by decide))) e_k (sub_int _ _)) (yd (by decide))) e_k (add_int _ _)) (e_2 e_k e_k p60) (sub_int _ _)))))⟩;unfold zao;rw[z5s q];exact⟨_,rfl⟩
   · refine⟨.int (c/9%81-40),?_,fun S=>ju rfl (zh (zn (zc1 (lt5 S) (qg (e_2 (e_2 (e_v rfl) e_k (yd (by decide))) e_k ((zto _ _).trans (by rw[z5o z])))))) (qh (qb (lt5 S) (zw (e_2 (e_2 (e_2 (e_v rfl) e_k (zjc (by decide))) e_k (yd (by decide))) e_k (sub_int _ _))))))⟩;unfold zao;rw[z5s q];exact⟨_,rfl⟩
 · have lt5:∀S,bE (e2 zgy (eV 0) (eK (.int 5))) [some (.int κ),some (.int c),none,none] S=some (false,S):=fun S=>qg (e_2 (e_v rfl) e_k ((zy4 _ _).trans (by rw[z5o q])));have w0:=z6z c (show(8:Int)≠0 by decide);have w1:=z6f c (show(0:Int)<8 by decide);obtain⟨z,hz,o',lp⟩:=zsp κ c (1+c%8).toNat 0 ⟨#[]⟩ none (by omega) (by decide);refine⟨.str z,?_,fun S=>ju rfl (zh (zn (zh6 (lt5 S))) (zh (zn (lt5 S)) (zh (zq (d:=.str ⟨#[]⟩) e_k) (zh (zih (b:=tB) (e_2 e_k (e_2 (e_v rfl) e_k (yd (by decide))) (add_int _ _)) (by omega) (by omega) (lp S)) (zw (e_v rfl))))))⟩;unfold zao;rw[z5y q];exact⟨z,rfl,hz⟩
theorem zuk{e:E}{g:G}{j:Nat}{y:Str}{t:LT}{is:List Nat}{kv us ks r:List D}(he:e ev S=some (d,S))(hs:z1x S d=some us)(hj:S[j]? = some (.tab y t.qual))(hl:us.length<=100000)(hc:za6 ev is=some kv)(hk:zi0 g t.params.args.length kv us S=some (ks,S))(hr:zna ks us=some r):zhq e g j y t is ev S=some (.lst r,S):=by unfold zhq;simp only[he,Option.bind_some,hs,hj,hc,hk,hr,Option.map_some];exact z5s ⟨trivial,trivial,hl⟩
theorem zkn{g:G}{kv:List D}{ky:D->D}(hn:noCS S=true)(hv:noCL kv=true):∀{us:List D},(∀d∈us,noC d=true/\noC (ky d)=true/\g ([d]++kv) S=some (ky d,S))->zi0 g 1 kv us S=some (us.map ky,S)
 | [],_=>rfl
 | d::us,h=>by obtain⟨h1,h2,h3⟩:=h d (z5d ..);have ih:=zkn hn hv fun z hz=>h z (z46 _ hz);unfold zi0;rw[z5s ⟨by rw[hn,hv];simp[noCL,h1],rfl⟩,h3];simp only[Option.bind_some,h2,hn,Bool.and_self,z61,ih,Option.map_some,z5j]
theorem z0n{is:List Nat}{F:List D->E}{kv:List D}{r:D×Sto}(hc:za6 ev is=some kv)(hi:zfo kv=true)(h:F kv ev S=some r):zma is F ev S=some r:=by unfold zma;simp only[hc,Option.bind_some,hi,z61,h]
theorem zwh{g:G}{a:As}{q:Nat}{t:LT}{cl:zLA}{ds kv:List D}{S2:Sto}(hq:ev[q]? = some (some (.lam { t with cl:=cl })))(ha:a ev S=some (ds,S1))(hn:(noCL ds&&noCL kv&&noCS S1)=true)(hl:ds.length=t.params.args.length)(hg:g (ds++kv) S1=some (d,S2))(h1:noC d=true)(h2:noCS S2=true):zfm g q t cl kv a ev S=some (d,S2):=by unfold zfm;simp only[hq,z61,ha,Option.bind_some,hg,h1,h2,Bool.and_self];exact z5s ⟨hn,hl⟩
theorem zgn{g:G}{a:As}{q:Nat}{t:LT}{cl:zLA}{is:List Nat}{ds kv:List D}{S2:Sto}(ha:a ev S=some (ds,S1))(hq:ev[q]? = some (some (.lam { t with cl:=cl })))(hc:za6 ev is=some kv)(hg:g (ds++[.clo t kv]) S1=some (d,S2))(h1:noC d=true)(h2:noCS S2=true):zcx g a q t cl is ev S=some (d,S2):=by simp only[zcx,ha,Option.bind_some,hq,z61,hc,hg,h1,h2,Bool.and_self]
theorem zza{j:Nat}{y:Str}{t:LT}(ht':S[j]? = some (.tab y ((y++".<locals>.")++"<lambda>")))(ht:t.qual=(y++".<locals>.")++"<lambda>"):ztt j y t ev S=some (.lam t,S):=by unfold ztt;rw[ht'];exact z5s ⟨rfl,ht.symm⟩
theorem zhd{f:E}(h:f ev S=some (.lst ts,S1)):zb7 f ev S=some (.lst ts.reverse,S1):=by simp[zb7,h]
theorem zkg(l:List D):zew (.lst l) (.lst [])=some (.bl !l.isEmpty):=by cases l<;>rfl
theorem z4k:lt_1≠lt_0:=fun e=>by have:=z7a (fun t:LT=>t.params.args.length) e;exact absurd this (by decide)
theorem zti{κ:Int}(h0:0<=κ)(h1:κ<8)(tx:zao κ x)(ty:zao κ y):zwv ([x,y]++[.int κ]) S=some (.bl (ltk κ x y),S):=by show z06 [some x,some y,some (.int κ)] S=_;exact e_2 (zi (a_c (e_v rfl) (a_c (e_v rfl) a_n)) (zhh h0 h1 tx)) (zi (a_c (e_v rfl) (a_c (e_v rfl) a_n)) (zhh h0 h1 ty)) (zzb h0 h1 tx ty)
theorem zzv{κ:Int}(h0:0<=κ)(h1:κ<8)(tx:zao κ x):z04 ([x]++[.int κ]) S=some (zfd κ x,S):=by show z07 [some x,some (.int κ)] S=_;exact zi (a_c (e_v rfl) (a_c (e_v rfl) a_n)) (zhh h0 h1 tx)
theorem z22{k:Nat}[Kd k]{κ:Int}(hk:k=0\/5<=κ)(h0:0<=κ)(h1:κ<8):Bf k (zao κ) (ltk κ) lt_1 [.int κ] :=
 ⟨rfl,rfl,fun x hx=>zw6 hk hx,fun x hx=>zhb hx,⟨zwv,by unfold ztz;rw[z5y z4k,z5s rfl],fun x y hx hy S=>zti h0 h1 hx hy⟩,z1u κ⟩
def kT:B:=(bE (e2 kh (zm qv (aC (eV 1) (aC (eV 0) aN))) (zm qv (aC (eV 1) (aC (eV 2) aN)))))
theorem zzm{κ:Int}(h0:0<=κ)(h1:κ<8)(tx:zao κ x)(ty:zao κ y):kT [some x,some (.int κ),some y] S=some (decide (cc κ x=cc κ y),S) :=
 qg (e_2 (zi (a_c (e_v rfl) (a_c (e_v rfl) a_n)) (zhh h0 h1 tx)) (zi (a_c (e_v rfl) (a_c (e_v rfl) a_n)) (zhh h0 h1 ty)) (zzj h0 h1 tx ty))
def sB:C:=(z8 (qp 6 (zm ji (aC (eV 1) (aC (zm z5 (aC (eV 0) (aC (e2 qu (eV 2) (eV 5)) aN))) aN)))) (sIf (bE (e2 kh (xw [1,6] (zj1 (eV 4)) kT (eV 0)) (zk2 aN))) (zav (eV 4) (eV 6)) jc))
theorem zdn(ns:List Int)(hn:ns.length<=63){κ:Int}(h0:0<=κ)(h1:κ<8){f m:Int}(f0:0<=f)(f1:f<10000):∀(js:List D),(∀x∈js,∃i:Int,x=.int i/\0<=i/\i<10000)->∀(us:List D) (o5 o6:Option D),Al (zao κ) us->us.Pairwise (fun x y=>cc κ x≠cc κ y)->us.length+js.length<100000 ->
   ∃us' o5' o6',Al (zao κ) us'/\us'.Pairwise (fun x y=>cc κ x≠cc κ y)/\us'.length<=us.length+js.length/\zck 5 sB js [some (.lst (ns.map D.int)),some (.int κ),some (.int f),some (.int m),some (.obj S.length),o5,o6] (S++[.lst us])=some (.nx [some (.lst (ns.map D.int)),some (.int κ),some (.int f),some (.int m),some (.obj S.length),o5',o6'],S++[.lst us'])
 | [],_,us,o5,o6,al,pw,hl=>⟨us,o5,o6,al,pw,by simp,rfl⟩
 | jj::js,hj,us,o5,o6,al,pw,hl=>by
   obtain⟨i,rfl,i0,i1⟩:=hj jj (z5d ..);rw[List.length_cons]at hl;obtain⟨c,c0,c1,hc⟩:=yx ns hn (q:=f+i) (by omega) (by omega);obtain⟨x,tx,cx⟩:=zjx h0 h1 c c0 c1;have hat:(S++[MO.lst us])[S.length]? = some (.lst us):=zdz S _;have cmp:xw [1,6] (zj1 (eV 4)) kT (eV 0) [some (.lst (ns.map D.int)),some (.int κ),some (.int f),some (.int m),some (.obj S.length),some (.int i),some x] (S++[.lst us])=some (.lst (us.filter fun z=>decide (cc κ z=cc κ x)),S++[.lst us]):=z0j (e_v rfl) hat fun z hz=>zzm h0 h1 (al z hz) tx;have step1:qp 6 (zm ji (aC (eV 1) (aC (zm z5 (aC (eV 0) (aC (e2 qu (eV 2) (eV 5)) aN))) aN))) [some (.lst (ns.map D.int)),some (.int κ),some (.int f),some (.int m),some (.obj S.length),some (.int i),o6] (S++[.lst us])=some (.nx [some (.lst (ns.map D.int)),some (.int κ),some (.int f),some (.int m),some (.obj S.length),some (.int i),some x],S++[.lst us]):=zq (zi (a_c (e_v rfl) (a_c (zi (a_c (e_v rfl) (a_c (e_2 (e_v rfl) (e_v rfl) (add_int _ _)) a_n)) (hc _)) a_n)) (cx _));have tst:=qg (e_2 cmp (zef (ds:=[]) a_n (z54 _)) (zpg _));by_cases hf:us.filter (fun z=>decide (cc κ z=cc κ x))=[]
   · have hne:∀z∈us,cc κ z≠cc κ x:=fun z hz e=>by have:=z8l.mp hf z hz;exact this (z5z e)
     rw[hf]at tst;obtain⟨us',o5',o6',al',pw',l',ih⟩:=zdn ns hn h0 h1 f0 f1 js (fun x hx=>hj x (z46 _ hx)) (us++[x]) (some (.int i)) (some x) (fun z hz=>(z5x.mp hz).elim (al z) fun e=>by rw[z5g.mp e];exact tx) (z47.mpr ⟨pw,z7s _ _,fun a ha b hb=>by rw[z5g.mp hb];exact hne a ha⟩) (by rw[z42];simp;omega);refine⟨us',o5',o6',al',pw',by rw[z42]at l';simp at l' ⊢;omega,zf6 (zh step1 (qb tst ?_)) ih⟩;have:=zdm (q:=4) (j:=S.length) (S:=S++[.lst us]) (us:=us) (v:=eV 6) (x:=x) (ev:=[some (.lst (ns.map D.int)),some (.int κ),some (.int f),some (.int m),some (.obj S.length),some (.int i),some x]) rfl hat (e_v rfl) (by omega);simpa using this
   · have he:(us.filter fun z=>decide (cc κ z=cc κ x)).isEmpty=false:=by
       cases g:us.filter fun z=>decide (cc κ z=cc κ x) with
       |nil=>exact absurd g hf
       |cons _ _=>rfl
     rw[he]at tst;obtain⟨us',o5',o6',al',pw',l',ih⟩:=zdn ns hn h0 h1 f0 f1 js (fun x hx=>hj x (z46 _ hx)) us (some (.int i)) (some x) al pw (by omega);exact⟨us',o5',o6',al',pw',by rw[List.length_cons];omega,zf6 (zh step1 (zn tst)) ih⟩
theorem zn9{κ:Int}:∀{l:List D},Al (zao κ) l->noCL l=true
 | [],_=>rfl
 | x::l,h=>by unfold noCL;rw[zhb h.head,zn9 h.tail];rfl
theorem zul(ns:List Int)(hn:ns.length<=63){κ:Int}(h0:0<=κ)(h1:κ<8){f:Int}(f0:0<=f)(f1:f<10000){m:Nat}(hm:m<=1000)(hS:SB S)(hc:noCS S=true)(ht:S[1]? = some (.tab "_law_some" ((("_law_some":Str)++".<locals>.")++"<lambda>")))(h2:2<=S.length) :
   ∃ts,Al (zao κ) ts/\Srt (ltk κ) ts/\ts.length<=m/\ya [.lst (ns.map D.int),.int κ,.int f,.int m] S=some (.lst ts,S):=by
 obtain⟨us,o5,o6,al,pw,hl,lp⟩:=zdn ns hn h0 h1 f0 f1 (S:=S) (m:=m) (j6 0 m) (rng (by omega)) [] none none (fun x hx=>by cases hx) List.Pairwise.nil (by rw[zfx];simp;omega);rw[zfx]at hl;have hn2:noCS (S++[.lst us])=true:=by unfold noCS at *;rw[List.all_append,hc];show(true&&(zn8 (.lst us)&&true))=true;rw[show zn8 (.lst us)=noCL us from rfl,zn9 al];rfl
 refine⟨j9 (cc κ) us,zkq al,zol pw,by rw[(xf us).length_eq];simpa using hl,?_⟩;refine zox (J:=[.lst us]) hS (ju rfl (zh (zq (zpi a_n (z54 _))) (zh (zih (n:=(m:Int)) (b:=sB) (S1:=S++[.lst []]) (e_v rfl) (by omega) (by omega) (by rw[Int.toNat_natCast];exact lp)) (zw (zuk (us:=us) (kv:=[.int κ]) (ks:=us.map (zfd κ)) (e_v rfl) ?_ ?_ (by simp at hl;omega) rfl ?_ (zqg h0 h1 al pw)))))) (zbt (k:=0) fun x hx=>zg4 (zkq al x hx))
 · show(match (S++[MO.lst us])[S.length]? with | some (.lst ds)=>some ds | _=>none)=some us;rw[zdz]
 · rw[z55 (by omega)];exact ht
 · exact zkn hn2 rfl fun x hx=>⟨zhb (al x hx),zyx h0 h1 (al x hx),zzv h0 h1 (al x hx)⟩
def tS:MO:=.tab "_law_some" ((("_law_some":Str)++".<locals>.")++"<lambda>")
def tD:MO:=.tab "_law_done" ((("_law_done":Str)++".<locals>.")++"<lambda>")
def tL:MO:=.tab "law" ((("law":Str)++".<locals>.")++"<lambda>")
def Z(k:Nat)(n:Int)(R:Sto):Sto:=tD::tS::tL::wd (zad k) n::R
theorem zt8{R:Sto}{new:List D}{T:Sto}(w:Wt k 3 (Z k n R) n new T):T=Z k (n+new.length) R:=by
 apply List.ext_getElem?;intro q
 match q with
 |0=>rw[w.ne 0 (by omega)];rfl
 |1=>rw[w.ne 1 (by omega)];rfl
 |2=>rw[w.ne 2 (by omega)];rfl
 |3=>exact w.at_
 |q+4=>rw[w.ne (q+4) (by omega)];rfl
structure Rk (R:Sto):Prop where
 no:R.all zn8=true
 bd:∀m∈R,zsa (R.length+4) m=true
theorem zvi:zn8 (wd (zad k) n)=true:=by rcases Kd.eq (k:=k)with h | h<;>subst h<;>rfl
theorem Rk.noCS{R:Sto}(q:Rk R):noCS (Z k n R)=true:=by show(zn8 tD&&(zn8 tS&&(zn8 tL&&(zn8 (wd (zad k) n)&&R.all zn8))))=true;rw[q.no,zvi];rfl
theorem Rk.sb{R:Sto}(q:Rk R):SB (Z k n R):=fun m hm=>by
 show zsa (R.length+4) m=true;rcases z5p.mp hm with rfl | hm
 · rfl
 rcases z5p.mp hm with rfl | hm
 · rfl
 rcases z5p.mp hm with rfl | hm
 · rfl
 rcases z5p.mp hm with rfl | hm
 · exact zw4 (k:=k) _ _
 exact q.bd m hm
theorem Rk.nil:Rk []:=⟨rfl,fun m hm=>by cases hm⟩
theorem zm3{s e:Nat}(hs:s<=e)(he:e<=ts.length):turn s e (turn s e ts)=ts:=by
 unfold turn;have l1:(ts.take s).length=s:=by rw[z5m];omega
 have l2:(((ts.take e).drop s).reverse).length=e-s:=by rw[z6o,z5w,z5m];omega
 have t1:(ts.take s++((ts.take e).drop s).reverse++ts.drop e).take s=ts.take s:=by rw[z5i,z67 (by omega),z6j (by omega)]
 have t2:(ts.take s++((ts.take e).drop s).reverse++ts.drop e).take e=ts.take s++((ts.take e).drop s).reverse:=by rw[z67 (by rw[z42];omega),z6j (by rw[z42];omega)]
 have t3:(ts.take s++((ts.take e).drop s).reverse++ts.drop e).drop e=ts.drop e:=by rw[z66 (by rw[z42];omega),z64 (by rw[z42];omega),List.nil_append]
 rw[t1,t2,t3,z66 (by omega),z64 (by omega),List.nil_append,z7p];have:ts.take s++(ts.take e).drop s=ts.take e:=by have h:=z6a s (ts.take e);rw[qav,z7y hs]at h;exact h
 rw[this,z6a]
theorem zxk{R:Sto}(ns:List Int)(hn:ns.length<=63)(ht:∀x∈ts,Thing k x)(hl:ts.length<=1000):∃d h n',Mk k d ts h/\y8 [.lst (ns.map D.int),.obj 3,.lst ts] (Z k n R)=some (d,Z k n' R):=by
 obtain⟨c,c0,c1,hc⟩:=yx ns hn (q:=3) (by decide) (by decide);obtain⟨w,hw,ew⟩:=zf2 c (c:=3) (by decide);have s1:qp 3 (e2 jb (zm z5 (aC (eV 0) (aC (eK (.int 3)) aN))) (eK (.int 3))) [some (.lst (ns.map D.int)),some (.obj 3),some (.lst ts),none,none,none,none] (Z k n R)=some (.nx [some (.lst (ns.map D.int)),some (.obj 3),some (.lst ts),some (.int w),none,none,none],Z k n R):=zq (e_2 (zi (a_c (e_v rfl) (a_c e_k a_n)) (hc _)) e_k ew);have:w=0\/w=1\/w=2:=by omega
 rcases this with rfl | rfl | rfl
 · obtain⟨d,h,new,T1,c,rr⟩:=zcj (k:=k) (i:=3) (n:=n) (P:=fun _=>True) (S:=Z k n R) rfl ht (by omega);have eT:=zt8 rr.wt;subst eT;exact⟨d,h,_,rr.mm,ju rfl (zh s1 (qh (qb (qg (e_2 (e_v rfl) e_k rfl)) (zw (zi (a_c (e_v rfl) (a_c (zvn (e_v rfl)) a_n)) c)))))⟩
 · obtain⟨d,h,new,T1,c,rr⟩:=zcj (k:=k) (i:=3) (n:=n) (P:=fun _=>True) (S:=Z k n R) (ts:=ts.reverse) rfl (znj ht) (by rw[z6o];omega);have eT:=zt8 rr.wt;subst eT;obtain⟨d',new',T2,c',rr',_⟩:=zjv (k:=k) (i:=3) (n:=n+new.length) (P:=fun _=>True) (S:=Z k (n+new.length) R) rr.mm rfl (zsd rr.mm);have eT:=zt8 rr'.wt;subst eT;have mm:=rr'.mm;rw[z7p]at mm;exact⟨d',h,_,mm,ju rfl (zh s1 (zh (zn (qg (e_2 (e_v rfl) e_k rfl))) (qh (qb (qg (e_2 (e_v rfl) e_k rfl)) (zw (xo (e_v rfl) (qw (n:=n) rfl) (zbw _ _) (a_c (zi (a_c (e_v rfl) (a_c (zhd (e_v rfl)) a_n)) c) a_n) c'))))))⟩
 · obtain⟨c4,_,_,hc4⟩:=yx ns hn (q:=4) (by decide) (by decide);obtain⟨c5,_,_,hc5⟩:=yx ns hn (q:=5) (by decide) (by decide);obtain⟨s,hs,es⟩:=zob c4 ts.length;obtain⟨e,he,ee⟩:=zob c5 (ts.length-s);have e1:jb (.int c5) (.int ((ts.length:Int)+1-(s:Int)))=some (.int e):=by rw[show(ts.length:Int)+1-(s:Int)=((ts.length-s:Nat):Int)+1 by omega];exact ee
   have hse:s<=s+e:=by omega
   have hel:s+e<=ts.length:=by omega
   have tt:∀z∈turn s (s+e) ts,Thing k z:=fun z hz=>ht z (by
     unfold turn at hz;rcases z5x.mp hz with q | q
     · rcases z5x.mp q with q | q
       · exact z57 q
       · exact z57 (z7b (z7n.mp q))
     · exact z7b q)
   obtain⟨d,h,new,T1,c,rr⟩:=zcj (k:=k) (i:=3) (n:=n) (P:=fun _=>True) (S:=Z k n R) (ts:=turn s (s+e) ts) rfl tt (by rw[zft hse hel];omega);have eT:=zt8 rr.wt;subst eT;obtain⟨d',h',new',T2,c',rr'⟩:=zev (k:=k) (i:=3) (n:=n+new.length) (P:=fun _=>True) (S:=Z k (n+new.length) R) (s:=s) (e:=s+e) rfl rr.mm (by rw[zft hse hel];omega) hse (by rw[zft hse hel];exact hel) (zsd rr.mm);have eT:=zt8 rr'.wt;subst eT;have mm:=rr'.mm;rw[zm3 hse hel]at mm;refine⟨d',h',_,mm,ju rfl (zh s1 (zh (zn (qg (e_2 (e_v rfl) e_k rfl))) (zh (zn (qg (e_2 (e_v rfl) e_k rfl))) (zh (zq (e_2 (zi (a_c (e_v rfl) (a_c e_k a_n)) (hc4 _)) (e_2 (e_a (a_c (e_v rfl) a_n) rfl) e_k (add_int _ _)) es)) (zh (zq (d:=.int ((s+e:Nat):Int)) (e_2 (e_v rfl) (e_2 (zi (a_c (e_v rfl) (a_c e_k a_n)) (hc5 _)) (e_2 (e_2 (e_a (a_c (e_v rfl) a_n) rfl) e_k (add_int _ _)) (e_v rfl) (sub_int _ _)) e1) (add_int _ _))) (zh (zq (zhd (z1b (e_v rfl) (p_e (e_v rfl)) (p_e (e_v rfl)) (zxi hse hel)))) (zw (zi (a_c (e_v rfl) (a_c (zi (a_c (e_v rfl) (a_c (e_2 (e_2 (z1b (e_v rfl) p_n (p_e (e_v rfl)) (z1w s)) (e_v rfl) (zgw (by simp only[z5m,z6o,z5w];omega))) (z1b (e_v rfl) (p_e (e_v rfl)) p_n (znd hel)) (zgw (by simp only[z42,z5m,z6o,z5w];omega))) a_n)) c) (a_c (e_v rfl) (a_c (e_v rfl) a_n)))) c'))))))))⟩
end Pg
namespace Pg
open PySem L2 F Mt
variable {k:Nat}{d l r t:D}{ts lt rt:List D}{h lh rh:Nat}{S S1 S2:Sto}{ev e:Ev}
theorem zxu{u:B}{a b:R}(h:u ev S=some (true,S1)):rIf u a b ev S=a ev S1:=by simp[rIf,h]
theorem z1y{c:C}{q:R}(h:c ev S=some (.nx e,S1)):zxv c q ev S=q e S1:=by simp[zxv,h]
theorem zsy{g:GR}{a:As}{ds:List D}(h:a ev S=some (ds,S1)):znp g a ev S=g ds S1:=by simp[znp,h]
theorem zux{c:Str}{a:As}{ds:List D}(h:a ev S=some (ds,S1))(hl:ds.length<=16777216):zj7 c a ev S=some (c,S1):=by have hz:sizeLine=16777216:=z60;simp[zj7,h,hz,hl]
theorem zsz{N n:Nat}{q:R}{ds:List D}(hl:ds.length=n):zh1 N n q ds S=q (ds.map some++List.replicate (N-ds.length) none) S:=by simp[zh1,hl]
theorem zuj{c a:C}{q:R}{cat:Str->Bool}{i:Nat}{cls:Str}(h:c ev S=none)(hr:q ev S=some (cls,S1))(hc:cat cls=true)(ha:a (ev.set i (some (.obj S1.length))) (S1++[.exc cls])=some (.nx e,S2)) :
   zxp c q cat i a ev S=some (.nx (e.set i none),S2):=by simp[zxp,h,hr,hc,ha]
theorem isx{u:Up}{j:Nat}{c:Str}{d:D}{b:Bool}(h:S[j]? = some (.exc c))(q:u.ask c d=some b):zth u S [.obj j,d]=some (.bl b):=by simp[zth,h,q]
theorem zqd{c:B}{b:C}(h:c ev S=some (true,S1)):sIf c zcr b ev S=none:=by simp[sIf,h,zcr]
theorem zt2{N n:Nat}{c:C}{ds:List D}(h:c (ds.map some++List.replicate (N-ds.length) none) S=none):qa N n c ds S=none:=by simp[qa,h]
theorem zqj{a b:C}(h:a ev S=none):z8 a b ev S=none:=by simp[z8,h]
theorem znh{a b:C}(h:a ev S=some (.nx e,S1))(q:b e S1=none):z8 a b ev S=none:=by simp[z8,h,q]
theorem zpl{f:E}(h:f ev S=none):zbj f ev S=none:=by simp[zbj,h]
theorem zqr{f:E}(h:f ev S=none):ql f ev S=none:=by simp[ql,h]
theorem zhw{g:G}{a:As}{ds:List D}(h:a ev S=some (ds,S1))(q:g ds S1=none):zm g a ev S=none:=by simp[zm,h,q]
theorem zsx{f:E}{r:R}(h:f ev S=some (d,S1)):zls f r ev S=r ev S1:=by simp[zls,h]
end Pg
namespace Pg
open PySem L2 F Mt
variable {k:Nat} [Kd k] {d d0 l r t x y:D}{ts us rt:List D}{h i j g rh p:Nat}{n:Int}{S S0 S1 R:Sto}{ev:Ev}{T:D->Prop}{lt:D->D->Bool}{f:LT}{vs:List D}
theorem zsh{f:E}{g:As}(h:f ev S=none):aC f g ev S=none:=by simp[aC,h]
theorem zlf{f:E}{g:As}(h:f ev S=some (d,S1))(q:g ev S1=none):aC f g ev S=none:=by simp[aC,h,q]
theorem zmg{g:G}{a:As}(h:a ev S=none):zm g a ev S=none:=by simp[zm,h]
theorem zrm(w:Sw T lt)(tx:T x)(al:Al T ts)(s:Srt lt ts):ts.filter (lt · x)=ts.take (cb lt ts x):=by
 obtain⟨h1,h2⟩:=zca w tx al s;have e:ts.filter (lt · x)=(ts.take (cb lt ts x)).filter (lt · x)++(ts.drop (cb lt ts x)).filter (lt · x):=by rw[<-qac,z6a]
 rw[e,z85.mpr h1,z8l.mpr fun y hy=>by rw[h2 y hy];simp,z50]
theorem zsf(B:Bf k T lt f vs)(q:Rk R)(tx:T x)(s:Ste k T lt d ts h)(hl:ts.length<=2000)(g:hs lt ts x=true):zd9 [.obj 3,d,x,.clo f vs] (Z k n R)=some (d,Z k n R):=by have c1:=zb2 B (q.noCS (k:=k) (n:=n)) tx s hl;have c2:=zdj B (q.noCS (k:=k) (n:=n)) tx s hl;rw[g]at c2;exact ju rfl (zh (zq (zi (a_c (e_v rfl) (a_c (e_v rfl) (a_c (e_v rfl) a_n))) c1)) (qh (qb (qg (zi (a_c (e_v rfl) (a_c (e_v rfl) (a_c (e_v rfl) (a_c (e_v rfl) a_n)))) c2)) (zw (e_v rfl)))))
theorem zp4(B:Bf k T lt f vs)(q:Rk R)(tx:T x)(s:Ste k T lt d ts h)(hl:ts.length<2000)(g:hs lt ts x=false):∃d' h' n',zd9 [.obj 3,d,x,.clo f vs] (Z k n R)=some (d',Z k n' R)/\Ste k T lt d' (ts.take (cb lt ts x)++x::ts.drop (cb lt ts x)) h':=by
 have c1:=zb2 B (q.noCS (k:=k) (n:=n)) tx s (by omega);have c2:=zdj B (q.noCS (k:=k) (n:=n)) tx s (by omega);rw[g]at c2;obtain⟨d',h',new,T1,c,rr,few⟩:=zx2 (k:=k) (i:=3) (S:=Z k n R) (n:=n) (p:=cb lt ts x) (x:=x) rfl s.mm hl (zr2 ts x) (B.th x tx) (zsd s.mm);have eT:=zt8 rr.wt;subst eT;exact⟨d',h',n+new.length,ju rfl (zh (zq (zi (a_c (e_v rfl) (a_c (e_v rfl) (a_c (e_v rfl) a_n))) c1)) (zh (zn (qg (zi (a_c (e_v rfl) (a_c (e_v rfl) (a_c (e_v rfl) (a_c (e_v rfl) a_n)))) c2))) (zw (zi (a_c (e_v rfl) (a_c (e_v rfl) (a_c (e_v rfl) (a_c (e_v rfl) a_n)))) c)))),⟨rr.mm,fun z hz=>by
   rcases z5x.mp hz with q | q
   · exact s.al z (z57 q)
   · rcases z5p.mp q with rfl | q
     · exact tx
     · exact s.al z (z7b q),zu0 B.sw tx s.al s.sr g⟩⟩
theorem zx9(B:Bf k T lt f vs)(hn:noCS S=true)(tx:T x)(s:Ste k T lt d ts h)(hl:ts.length<=2000)(g:hs lt ts x=true):jq [d,x,.clo f vs] S=some (.int (cb lt ts x:Nat),S):=by have c1:=zb2 B hn tx s hl;have c2:=zdj B hn tx s hl;rw[g]at c2;exact ju rfl (zh (zq (zi (a_c (e_v rfl) (a_c (e_v rfl) (a_c (e_v rfl) a_n))) c1)) (zh (zn (zt3 (qg (zi (a_c (e_v rfl) (a_c (e_v rfl) (a_c (e_v rfl) (a_c (e_v rfl) a_n)))) c2)))) (zw (e_v rfl))))
theorem zya(B:Bf k T lt f vs)(hn:noCS S=true)(tx:T x)(s:Ste k T lt d ts h)(hl:ts.length<=2000)(g:hs lt ts x=false):jq [d,x,.clo f vs] S=none/\ja [d,x,.clo f vs] S=some (Str.ofString "NoThing",S):=by have c1:=zb2 B hn tx s hl;have c2:=zdj B hn tx s hl;rw[g]at c2;have s1:qp 3 (zm ko (aC (eV 0) (aC (eV 1) (aC (eV 2) aN)))) [some d,some x,some (.clo f vs),none] S=some (.nx [some d,some x,some (.clo f vs),some (.int (cb lt ts x:Nat))],S):=zq (zi (a_c (e_v rfl) (a_c (e_v rfl) (a_c (e_v rfl) a_n))) c1);have t1:zdi (bE (zm j5 (aC (eV 0) (aC (eV 3) (aC (eV 1) (aC (eV 2) aN)))))) [some d,some x,some (.clo f vs),some (.int (cb lt ts x:Nat))] S=some (true,S):=z4t (qg (zi (a_c (e_v rfl) (a_c (e_v rfl) (a_c (e_v rfl) (a_c (e_v rfl) a_n)))) c2));refine⟨zt2 (znh s1 (zqj (zqd t1))),?_⟩;unfold ja;rw[zsz (n:=3) rfl];unfold y6;show zxv _ _ [some d,some x,some (.clo f vs),none] S=_;rw[z1y s1,zxu t1];exact zux (a_c e_k a_n) (by simp)
theorem zmb(B:Bf k T lt f vs)(q:Rk R)(tx:T x)(s:Ste k T lt d ts h)(hl:ts.length<=2000)(g:hs lt ts x=true):∃d' h' n',za3 [.obj 3,d,x,.clo f vs] (Z k n R)=some (d',Z k n' R)/\Mk k d' (ts.eraseIdx (cb lt ts x)) h':=by have c1:=zx9 B (q.noCS (k:=k) (n:=n)) tx s hl g;obtain⟨y,hy,_⟩:=(zvu B.sw tx s.al s.sr).mp g;have hp:cb lt ts x<ts.length:=(z5b.mp hy).1;obtain⟨d',h',new,T1,c,rr,few⟩:=zyn (k:=k) (i:=3) (S:=Z k n R) (n:=n) (p:=cb lt ts x) rfl s.mm hl hp (zsd s.mm);have eT:=zt8 rr.wt;subst eT;exact⟨d',h',_,ju rfl (zw (zi (a_c (e_v rfl) (a_c (e_v rfl) (a_c (zi (a_c (e_v rfl) (a_c (e_v rfl) (a_c (e_v rfl) a_n))) c1) a_n))) c)),rr.mm⟩
theorem zmc(B:Bf k T lt f vs)(hn:noCS S=true)(tx:T x)(s:Ste k T lt d ts h)(hl:ts.length<=2000)(g:hs lt ts x=false):za3 [.obj 3,d,x,.clo f vs] S=none/\y7 [.obj 3,d,x,.clo f vs] S=some (Str.ofString "NoThing",S):=by
 obtain⟨c1,c2⟩:=zya B hn tx s hl g;constructor
 · refine zt2 (zqr ?_);show zm zrh (aC (eV 0) (aC (eV 1) (aC (zm jq (aC (eV 1) (aC (eV 2) (aC (eV 3) aN)))) aN))) [some (.obj 3),some d,some x,some (.clo f vs)] S=none;exact zmg (zlf (e_v rfl) (zlf (e_v rfl) (zsh (zhw (a_c (e_v rfl) (a_c (e_v rfl) (a_c (e_v rfl) a_n))) c1))))
 · unfold y7;rw[zsz (n:=4) rfl];unfold ze9;show zls _ _ [some (.obj 3),some d,some x,some (.clo f vs)] S=_;rw[zsx (e_v rfl),zsx (e_v rfl),zsy (a_c (e_v rfl) (a_c (e_v rfl) (a_c (e_v rfl) a_n)))];exact c2
theorem zlq(B:Bf k T lt f vs)(q:Rk R)(tx:T x)(s:Ste k T lt d ts h)(hl:ts.length<=2000)(g:hs lt ts x=false):yu [.obj 3,d,x,.clo f vs] (Z k n R)=some (.lst [.bl true,.bl true,.bl false],Z k n R):=by obtain⟨c1,c2⟩:=zmc B (q.noCS (k:=k) (n:=n)) tx s hl g;have hx:(Z k n R++[MO.exc (Str.ofString "NoThing")])[(Z k n R).length]? = some (.exc (Str.ofString "NoThing")):=zdz _ _;refine zox (J:=[.exc (Str.ofString "NoThing")]) q.sb (ju rfl (zh (zq (zef (ds:=[]) a_n (z54 _))) (zh (zuj (zpl (zhw (a_c (e_v rfl) (a_c (e_v rfl) (a_c (e_v rfl) (a_c (e_v rfl) a_n)))) c1)) ((zsy (a_c (e_v rfl) (a_c (e_v rfl) (a_c (e_v rfl) (a_c (e_v rfl) a_n))))).trans c2) (by decide +kernel) (zh (zq (e_a (a_c (e_v rfl) (a_c (yf (a_c e_k (a_c e_k (a_c e_k (a_c e_k (a_c e_k (a_c e_k (a_c e_k (a_c e_k (a_c e_k (a_c e_k a_n)))))))))) (z5r rfl)) a_n)) (isx hx (b:=false) (by decide +kernel)))) (zq (zef (a_c (e_a (a_c (e_v rfl) (a_c e_k a_n)) (isx hx (b:=true) (by decide +kernel))) (a_c (e_a (a_c (e_v rfl) (a_c e_k a_n)) (isx hx (b:=true) (by decide +kernel))) (a_c (e_v rfl) a_n))) (z5r rfl))))) (zw (e_v rfl))))) rfl
theorem zn7(h:∀x∈ts,Thing k x):noC (yg k ts)=true:=by have:=zsr h;generalize yg k ts=z at this ⊢;cases this<;>rfl
theorem ztd(hx:Thing k x):noC x=true:=by cases zc6 hx<;>rfl
theorem zkk(m:Mk k d ts h):noC d=true:=by
 induction m with
 |non=>rfl
 | @node num a l t r lt rt lh rh ml mr ht h1 h2 i1 i2=>
   have ta:∀x∈ord a (lt++t::rt),Thing k x:=(Mk.node (num:=num) (a:=a) ml mr ht h1 h2).things;have tb:∀x∈(ord a (lt++t::rt)).reverse,Thing k x:=znj ta;unfold mkD;show noCL _=true;simp only[noCL,i1,i2,ztd ht,zn7 ta,zn7 tb,F.noC,z9w]
theorem zpx{q:Nat}(h:∀x∈ts,Thing k x):bnd q (yg k ts)=true:=by have:=zsr h;generalize yg k ts=z at this ⊢;cases this<;>rfl
theorem zy2(m:Mk k d ts h)(q:Nat):bnd q d=true:=by
 induction m with
 |non=>rfl
 | @node num a l t r lt rt lh rh ml mr ht h1 h2 i1 i2=>
   have ta:∀x∈ord a (lt++t::rt),Thing k x:=(Mk.node (num:=num) (a:=a) ml mr ht h1 h2).things;have tb:∀x∈(ord a (lt++t::rt)).reverse,Thing k x:=znj ta;unfold mkD;show bndL q _=true;simp only[bndL,i1,i2,zeq ht,zpx ta,zpx tb,bnd,z9w]
end Pg
namespace Pg
open PySem L2 F
noncomputable section
def z0q:C :=
 (z8 (qp 1 (e2 jb (zm z5 (aC (eV 0) (aC (eK (.int 0)) aN))) (eK (.int 8)))) (z8 (qp 2 (e2 jb (zm z5 (aC (eV 0) (aC (eK (.int 1)) aN))) (eK (.int 15)))) (z8 (sIf (bE (e2 kh (e2 jb (zm z5 (aC (eV 0) (aC (eK (.int 2)) aN))) (eK (.int 8))) (eK (.int 3)))) (qp 2 (eK (.int 70))) jc) (z8 (qp 3 (eK .non)) (z8 (sIf (zp0 (bE (e2 kh (e2 jb (zm z5 (aC (eV 0) (aC (eK (.int 6)) aN))) (eK (.int 2))) (eK (.int 0)))) (bE (e2 zh7 (eV 1) (eK (.int 4))))) (qp 3 (ztt 2 "law" lt_2)) jc) (z8 (qp 4 (zl9 "Wood" q8 (aC (eV 3) aN))) (z8 (qp 5 (zm ya (aC (eV 0) (aC (eV 1) (aC (eK (.int 20)) (aC (eV 2) aN)))))) (z8 (qp 6 (zm y8 (aC (eV 0) (aC (eV 4) (aC (eV 5) aN))))) (z8 (qp 7 (zja (aC (zar (aC (eV 6) (aC (zeg (aC (eV 5) aN)) aN))) aN))) (z8 (zil 8 (e2 jb (zm z5 (aC (eV 0) (aC (eK (.int 7)) aN))) (eK (.int 13))) (z8 (qp 9 (zm z5 (aC (eV 0) (aC (e2 qu (eK (.int 100)) (eV 8)) aN)))) (z8 (qp 10 (zm ji (aC (eV 1) (aC (e2 zbp (eV 9) (eK (.int 4))) aN)))) (z8 (sIf (zp0 (bE (e2 kh (e2 jb (eV 9) (eK (.int 4))) (eK (.int 1)))) (bE (e2 zew (eV 5) (zk2 aN)))) (qp 10 (e2s qf (eV 5) (e2 jb (e2 zbp (eV 9) (eK (.int 4))) (eA zfb (aC (eV 5) aN))))) jc) (z8 (qp 11 (zm yb (aC (eV 4) (aC (eV 6) (aC (eV 5) (aC (eV 10) (aC (eV 1) (aC (e2 zgy (e2 jb (eV 9) (eK (.int 4))) (eK (.int 2))) aN)))))))) (z8 (sIf (bE (e2 zdr (eV 11) (eK .non))) (ql (eK (.bl false))) jc) (z8 (zxo [6,5] (eV 11)) (z8 (sIf (bOr (zdi (bE (zm (xy 40) (aC (eV 6) (aC (eV 3) aN))))) (bE (e2 zew (zm jy (aC (eV 6) aN)) (eV 5)))) (ql (eK (.bl false))) jc) (zav (eV 7) (zar (aC (eV 6) (aC (zeg (aC (eV 5) aN)) aN)))))))))))) (z8 (zg7 [12,13] (eV 7) (sIf (bE (e2 zew (zm jy (aC (eV 12) aN)) (eV 13))) (ql (eK (.bl false))) jc)) (ql (eK (.bl true))))))))))))))
def g_law:G:=qa 14 1 z0q
end
end Pg
namespace Pg
open PySem L2 F Mt
variable {k:Nat} [Kd k] {d d0 l r t x y:D}{ts us rt:List D}{h i j g rh p:Nat}{n:Int}{S S0 S1 R:Sto}{ev:Ev}{T:D->Prop}{lt:D->D->Bool}{f:LT}{vs:List D}
theorem zss{κ:Int}(s:Srt (ltk κ) ts):ts.Pairwise fun x y=>cc κ x≠cc κ y:=s.imp fun {x y} q e=>by have:=z7e q;rw[e]at this;exact z80 _ this
theorem zsk{κ:Int}(s:Srt (ltk κ) ts){x y:D}(hx:x∈ts)(hy:y∈ts)(e:cc κ x=cc κ y):x=y:=by
 obtain⟨i,hi,rfl⟩:=z5v hx;obtain⟨j,hj,rfl⟩:=z5v hy;have q:=z6t.mp (zss s);rcases Nat.lt_trichotomy i j with h | h | h
 · exact absurd e (q i j hi hj h)
 · subst h;rfl
 · exact absurd e.symm (q j i hj hi h)
theorem zse{κ:Int}(tx:zao κ x)(al:Al (zao κ) ts)(s:Srt (ltk κ) ts):(hs (ltk κ) ts x=false/\ts.filter (fun z=>decide (cc κ z=cc κ x))=[])\/∃y,hs (ltk κ) ts x=true/\ts[cb (ltk κ) ts x]? = some y/\cc κ y=cc κ x/\∃m,ts.filter (fun z=>decide (cc κ z=cc κ x))=y::m:=by
 cases g:hs (ltk κ) ts x with
 | false=>
   refine .inl ⟨rfl,z8l.mpr fun z hz q=>?_⟩;exact hs_no.mp g z hz (alk_cc.mpr (z7e q))
 | true=>
   obtain⟨y,hy,r⟩:=(zvu (z1u κ) tx al s).mp g;obtain⟨z,hz,a⟩:=hs_iff.mp g;have my:=z51 hy;obtain⟨_,h2⟩:=zca (z1u κ) tx al s;have ly:ltk κ y x=false:=h2 y (z51 (i:=0) (by rw[z9d];simpa using hy));have ey:cc κ y=cc κ x:=alk_cc.mp ⟨ly,r⟩;refine .inr ⟨y,rfl,hy,ey,?_⟩;have hm:y∈ts.filter (fun z=>decide (cc κ z=cc κ x)):=z9a.mpr ⟨my,z5z ey⟩;cases q:ts.filter (fun z=>decide (cc κ z=cc κ x)) with
   |nil=>rw[q]at hm;cases hm
   | cons w m=>
     have hw:w∈ts.filter (fun z=>decide (cc κ z=cc κ x)):=by rw[q];exact z5d ..
     obtain⟨w1,w2⟩:=z9a.mp hw;rw[zsk s w1 my ((z7e w2).trans ey.symm)];exact⟨m,rfl⟩
theorem zpf{κ:Int}(s:Srt (ltk κ) ts)(hy:ts[p]? = some y):ts.filter (fun z=>!decide (cc κ z=cc κ y))=ts.eraseIdx p:=by
 obtain⟨hp,rfl⟩:=z5b.mp hy;have q:=z6t.mp (zss s);have e:ts=ts.take p++ts[p]::ts.drop (p+1):=by rw[<-z7i hp,z6a]
 have e1:(ts.take p).filter (fun z=>!decide (cc κ z=cc κ ts[p]))=ts.take p:=z85.mpr fun z hz=>by obtain⟨i,hi,rfl⟩:=z5v hz;rw[z5m]at hi;rw[z7f];have:=q i p (by omega) hp (by omega);rw[z5o this];rfl
 have e2:(ts.drop (p+1)).filter (fun z=>!decide (cc κ z=cc κ ts[p]))=ts.drop (p+1):=z85.mpr fun z hz=>by obtain⟨i,hi,rfl⟩:=z5v hz;rw[z5w]at hi;rw[z7g];have:=q p (p+1+i) hp (by omega) (by omega);rw[z5o (fun z=>this z.symm)];rfl
 have e3:(ts.take p++ts[p]::ts.drop (p+1)).filter (fun z=>!decide (cc κ z=cc κ ts[p]))=ts.take p++ts.drop (p+1):=by rw[qac,z9e (by simp),e1,e2]
 rw[<-e]at e3;rw[e3,List.eraseIdx_eq_take_drop_succ]
theorem z2b{κ:Int}(al:Al (zao κ) ts)(s:Srt (ltk κ) ts)(hx:x∈ts)(hy:y∈ts):zew x y=some (.bl (!decide (cc κ x=cc κ y))):=by
 obtain⟨b,e,q⟩:=z1v (zc6 (zg4 (al x hx))) (zc6 (zg4 (al y hy))) 149;unfold zew;rw[e];have:b=decide (cc κ x=cc κ y):=by rw[z93,q,qab];exact⟨fun e=>e▸rfl,zsk s hx hy⟩
 rw[this];rfl
def Ed(k:Nat)(d:D)(ts:List D)(x:D)(κ:Int)(b:Bool)(cl:zLA)(o7 o8 o9:Option D):Ev:=[some (.obj 3),some d,some (.lst ts),some x,some (.int κ),some (.bl b),some (.lam { lt_1 with cl:=cl }),o7,o8,o9]
theorem zwg{κ:Int}(hk:k=0\/5<=κ)(h0:0<=κ)(h1:κ<8)(q:Rk R)(s:Ste k (zao κ) (ltk κ) d ts h)(hl:ts.length<2000)(tx:zao κ x)(b:Bool):∃d' ts' h' n',yb [.obj 3,d,.lst ts,x,.int κ,.bl b] (Z k n R)=some (.tup [d',.lst ts'],Z k n' R)/\Ste k (zao κ) (ltk κ) d' ts' h'/\ts'.length<=ts.length+1:=by
 have B:=z22 hk h0 h1;have sw:=B.sw;have alk:∀{cl},xw [4,3] (zj1 (eV 2)) kT (eV 0) (Ed k d ts x κ b cl none none none) (Z k n R)=some (.lst (ts.filter fun z=>decide (cc κ z=cc κ x)),Z k n R):=zpo (e_v rfl) fun z hz=>zzm h0 h1 (s.al z hz) tx;have l1:∀{cl},qp 6 (ztt 0 "_law_done" { lt_1 with cl:=cl }) [some (.obj 3),some d,some (.lst ts),some x,some (.int κ),some (.bl b),none,none,none,none] (Z k n R)=some (.nx (Ed k d ts x κ b cl none none none),Z k n R):=zq (zza (y:="_law_done") rfl rfl);rcases zse tx s.al s.sr with⟨hn,hf⟩ | ⟨y,hh,hy,ey,m,hf⟩
 · rw[hf]at alk;cases b with
   | true=>
     have cr:=zlq (n:=n) B q tx s (by omega) hn;refine⟨d,ts,h,n,zrj fun cl=>?_,s,by omega⟩;exact ju rfl (zh l1 (zh (zq alk) (qh (qb (zc1 (qg (e_v rfl)) (qg (e_2 (e_v rfl) (zef (ds:=[]) a_n (z54 _)) (zpg _)))) (zh (zn (qg (e_2 (zgn (a_c (e_v rfl) (a_c (e_v rfl) (a_c (e_v rfl) a_n))) rfl rfl cr rfl q.noCS) (zef (a_c e_k (a_c e_k (a_c e_k a_n))) (z5r rfl)) rfl))) (zw (yf (a_c (e_v rfl) (a_c (e_v rfl) a_n)) (z5r rfl))))))))
   | false=>
     obtain⟨d',h',n',ca,s'⟩:=zp4 (n:=n) B q tx s hl hn;refine⟨d',_,h',n',zrj fun cl=>?_,s',Nat.le_of_eq (zio _)⟩;have ahd:zma [4] (fun kv=>xw [6,3] (zj1 (eV 2)) (bE (zfm zwv 1 lt_1 cl kv (aC (eV 0) (aC (eV 2) aN)))) (eV 0)) (Ed k d ts x κ false cl (some (.lst [])) none none) (Z k n R)=some (.lst (ts.take (cb (ltk κ) ts x)),Z k n R):=by rw[<-zrm sw tx s.al s.sr];refine z0n (kv:=[.int κ]) rfl rfl (zpo (p:=fun z=>ltk κ z x) (e_v rfl) fun z hz=>qg (zwh (ds:=[z,x]) rfl (a_c (e_v rfl) (a_c (e_v rfl) a_n)) ?_ rfl (zti h0 h1 (s.al z hz) tx) rfl q.noCS));rw[q.noCS];simp only[noCL,zhb (s.al z hz),zhb tx,noC,z9w]
     have lc:(ts.take (cb (ltk κ) ts x)).length=cb (ltk κ) ts x:=by rw[z5m];exact z7y (zr2 ts x)
     have pl:qu (.lst (ts.take (cb (ltk κ) ts x)++[x])) (.lst (ts.drop (cb (ltk κ) ts x)))=some (.lst (ts.take (cb (ltk κ) ts x)++x::ts.drop (cb (ltk κ) ts x))):=by rw[zgw (by simp only[z42,z5m,z5w,List.length_cons,List.length_nil];omega)];simp
     refine ju rfl (zh l1 (zh (zq alk) (zh (zn (zh6 (qg (e_v rfl)))) (zh (zn (qg (e_v rfl))) (zh (zn (qg (e_2 (e_v rfl) (zef (ds:=[]) a_n (z54 _)) (zkg _)))) (zh (zq ahd) (zw (yf (a_c (zgn (a_c (e_v rfl) (a_c (e_v rfl) (a_c (e_v rfl) a_n))) rfl rfl ca (zkk s'.mm) q.noCS) (a_c (e_2 (e_2 (e_v rfl) (zef (a_c (e_v rfl) a_n) (z5r rfl)) (zgw (by rw[lc];have:=zr2 (lt:=ltk κ) ts x;simp;omega))) (z1b (e_v rfl) (p_e (e_a (a_c (e_v rfl) a_n) (show zfb _ [.lst (ts.take (cb (ltk κ) ts x))]=some (.int (cb (ltk κ) ts x:Nat)) by show some (D.int ((ts.take (cb (ltk κ) ts x)).length:Int))=_;rw[lc]))) p_n (znd (zr2 ts x))) pl) a_n)) (z5r rfl)))))))))
 · rw[hf]at alk;have my:=z51 hy;cases b with
   | true=>
     obtain⟨d',h',n',cd,m'⟩:=zmb (n:=n) B q tx s (by omega) hh;have flt:ts.filter (fun z=>!decide (cc κ z=cc κ y))=ts.eraseIdx (cb (ltk κ) ts x):=zpf s.sr hy;refine⟨d',ts.filter (fun z=>!decide (cc κ z=cc κ y)),h',n',zrj fun cl=>?_,⟨flt▸m',fun z hz=>s.al z (z9a.mp hz).1,List.Pairwise.filter _ s.sr⟩,Nat.le_succ_of_le (List.length_filter_le ..)⟩;have rest:xw [7] (zj1 (eV 2)) (bE (e2 zew (eV 0) (e2s qf (eV 1) (eK (.int 0))))) (eV 0) (Ed k d ts x κ true cl (some (.lst (y::m))) none none) (Z k n' R)=some (.lst (ts.filter (fun z=>!decide (cc κ z=cc κ y))),Z k n' R):=zpo (e_v rfl) fun z hz=>qg (e_2 (e_v rfl) (qt (e_v rfl) e_k (show atI (y::m) ((0:Nat):Int)=some y from zer rfl)) (z2b s.al s.sr hz my));exact ju rfl (zh l1 (zh (zq alk) (zh (zn (zc1 (qg (e_v rfl)) (qg (e_2 (e_v rfl) (zef (ds:=[]) a_n (z54 _)) (zpg _))))) (qh (qb (qg (e_v rfl)) (zw (yf (a_c (zgn (a_c (e_v rfl) (a_c (e_v rfl) (a_c (e_v rfl) a_n))) rfl rfl cd (zkk m') q.noCS) (a_c rest a_n)) (z5r rfl))))))))
   | false=>
     have ca:=zsf (n:=n) B q tx s (by omega) hh;have eqd:zew d d=some (.bl false):=zvj (zaw (by have:=h15 s.mm (by omega);omega) (z13 s.mm));refine⟨d,ts,h,n,zrj fun cl=>?_,s,by omega⟩;exact ju rfl (zh l1 (zh (zq alk) (zh (zn (zh6 (qg (e_v rfl)))) (zh (zn (qg (e_v rfl))) (qh (qb (qg (e_2 (e_v rfl) (zef (ds:=[]) a_n (z54 _)) (zkg _))) (zh (zq (zgn (a_c (e_v rfl) (a_c (e_v rfl) (a_c (e_v rfl) a_n))) rfl rfl ca (zkk s.mm) q.noCS)) (zh (zn (qg (e_2 (e_v rfl) (e_v rfl) eqd))) (zw (yf (a_c (e_v rfl) (a_c (e_v rfl) a_n)) (z5r rfl)))))))))))
def Kp(k:Nat)(ks:List D):Prop:=∀e∈ks,∃d ts h,e=.tup [d,.lst ts]/\Mk k d ts h/\ts.length<=2000
theorem zit:∀{l:List D},(∀d∈l,noC d=true)->noCL l=true
 | [],_=>rfl
 |x::l,h=>by unfold noCL;rw[h x (z5d ..),zit fun y hy=>h y (z46 _ hy)];rfl
theorem zjm{q:Nat}:∀{l:List D},(∀d∈l,bnd q d=true)->bndL q l=true
 | [],_=>rfl
 |x::l,h=>by unfold bndL;rw[h x (z5d ..),zjm fun y hy=>h y (z46 _ hy)];rfl
theorem Kp.rk{ks:List D}(hm:Kp k ks):Rk [.lst ks]:=by
 refine⟨?_,fun m hq=>?_⟩
 · show(noCL ks&&true)=true;rw[zit fun e he=>?_];rfl;obtain⟨d,ts,h,rfl,mm,_⟩:=hm e he;show(noC d&&(noCL ts&&true))=true;rw[zkk mm,zit fun x hx=>ztd (mm.things x hx)];rfl
 · rw[z5g.mp hq];refine zjm fun e he=>?_;obtain⟨d,ts,h,rfl,mm,_⟩:=hm e he;show(bnd _ d&&(bndL _ ts&&true))=true;rw[zy2 mm,zjm fun x hx=>zeq (mm.things x hx)];rfl
theorem Kp.app{ks:List D}(hm:Kp k ks)(m:Mk k d ts h)(hl:ts.length<=2000):Kp k (ks++[.tup [d,.lst ts]]):=fun e he=>(z5x.mp he).elim (hm e) fun z=>⟨d,ts,h,z5g.mp z,m,hl⟩
theorem zog{f:E}(h:f ev S=some (.lst ts,S1)):zeg (aC f aN) ev S=some (.lst ts,S1):=by simp[zeg,aC,aN,h]
def El(ns:List Int)(κ:Int)(m:Int)(k:Nat)(ts:List D)(d:D)(o8 o9 o10 o11 o12 o13:Option D):Ev:=[some (.lst (ns.map D.int)),some (.int κ),some (.int m),some (zad k),some (.obj 3),some (.lst ts),some d,some (.obj 4),o8,o9,o10,o11,o12,o13]
def oB:C:=(z8 (qp 9 (zm z5 (aC (eV 0) (aC (e2 qu (eK (.int 100)) (eV 8)) aN)))) (z8 (qp 10 (zm ji (aC (eV 1) (aC (e2 zbp (eV 9) (eK (.int 4))) aN)))) (z8 (sIf (zp0 (bE (e2 kh (e2 jb (eV 9) (eK (.int 4))) (eK (.int 1)))) (bE (e2 zew (eV 5) (zk2 aN)))) (qp 10 (e2s qf (eV 5) (e2 jb (e2 zbp (eV 9) (eK (.int 4))) (eA zfb (aC (eV 5) aN))))) jc) (z8 (qp 11 (zm yb (aC (eV 4) (aC (eV 6) (aC (eV 5) (aC (eV 10) (aC (eV 1) (aC (e2 zgy (e2 jb (eV 9) (eK (.int 4))) (eK (.int 2))) aN)))))))) (z8 (sIf (bE (e2 zdr (eV 11) (eK .non))) (ql (eK (.bl false))) jc) (z8 (zxo [6,5] (eV 11)) (z8 (sIf (bOr (zdi (bE (zm (xy 40) (aC (eV 6) (aC (eV 3) aN))))) (bE (e2 zew (zm jy (aC (eV 6) aN)) (eV 5)))) (ql (eK (.bl false))) jc) (zav (eV 7) (zar (aC (eV 6) (aC (zeg (aC (eV 5) aN)) aN)))))))))))
theorem turn_ok(ns:List Int)(hn:ns.length<=63){κ:Int}(hk:k=0\/5<=κ)(h0:0<=κ)(h1:κ<8){m i:Int}(i0:0<=i)(i1:i<10000){ks:List D}(hm:Kp k ks)(lk:ks.length<1000)(s:Ste k (zao κ) (ltk κ) d ts h)(hl:ts.length<1000)(o9 o10 o11:Option D) :
   ∃d' ts' h' n' o9' o10' o11',Ste k (zao κ) (ltk κ) d' ts' h'/\ts'.length<=ts.length+1/\Kp k (ks++[.tup [d',.lst ts']])/\oB (El ns κ m k ts d (some (.int i)) o9 o10 o11 none none) (Z k n [.lst ks])=some (.nx (El ns κ m k ts' d' (some (.int i)) o9' o10' o11' none none),Z k n' [.lst (ks++[.tup [d',.lst ts']])]):=by
 obtain⟨c,c0,c1,hc⟩:=yx ns hn (q:=100+i) (by omega) (by omega);obtain⟨x0,tx0,cx⟩:=zjx h0 h1 (c/4) (by omega) (by omega);have w0:=z6z c (show(4:Int)≠0 by decide);have w1:=z6f c (show(0:Int)<4 by decide);obtain⟨x,tx,s3⟩:∃x,zao κ x/\sIf (zp0 (bE (e2 kh (e2 jb (eV 9) (eK (.int 4))) (eK (.int 1)))) (bE (e2 zew (eV 5) (zk2 aN)))) (qp 10 (e2s qf (eV 5) (e2 jb (e2 zbp (eV 9) (eK (.int 4))) (eA zfb (aC (eV 5) aN))))) jc (El ns κ m k ts d (some (.int i)) (some (.int c)) (some x0) o11 none none) (Z k n [.lst ks])=some (.nx (El ns κ m k ts d (some (.int i)) (some (.int c)) (some x) o11 none none),Z k n [.lst ks]):=by
   by_cases q:c%4=1
   · by_cases e:ts=[]
     · refine⟨x0,tx0,zn (zc1 (qg (e_2 (e_2 (e_v rfl) e_k (yd (by decide))) e_k ((zto _ _).trans (by rw[z5z q])))) (qg (e_2 (e_v rfl) (zef (ds:=[]) a_n (z54 _)) ((zkg _).trans (by rw[e];rfl)))))⟩
     · have hp:0<ts.length:=z7z.mpr e;obtain⟨p,hp2,ep⟩:=zf2 (c/4) (c:=ts.length) hp;have he:ts.isEmpty=false:=by cases ts with | nil=>exact absurd rfl e | cons _ _=>rfl
       exact⟨ts[p],s.al _ (z8g hp2),qb (zc1 (qg (e_2 (e_2 (e_v rfl) e_k (yd (by decide))) e_k ((zto _ _).trans (by rw[z5z q])))) (qg (e_2 (e_v rfl) (zef (ds:=[]) a_n (z54 _)) ((zkg _).trans (by rw[he];rfl))))) (zq (qt (e_v rfl) (e_2 (e_2 (e_v rfl) e_k (zjc (by decide))) (e_a (a_c (e_v rfl) a_n) rfl) ep) (zer (z49 hp2))))⟩
   · exact⟨x0,tx0,zn (zh6 (qg (e_2 (e_2 (e_v rfl) e_k (yd (by decide))) e_k ((zto _ _).trans (by rw[z5o q])))))⟩
 obtain⟨d',ts',h',n',cd,s',l'⟩:=zwg (n:=n) hk h0 h1 hm.rk s (by omega) tx (decide (c%4<2));have km:=hm.app s'.mm (by omega);have ir:xy 40 [d',zad k] (Z k n' [.lst ks])=some (.bl true,Z k n' [.lst ks]):=zi1 s'.mm (n:=40) (by have:=h15 s'.mm (by omega);omega) (by omega) _;refine⟨d',ts',h',n',some (.int c),some x,some (.tup [d',.lst ts']),s',l',km,?_⟩;refine zh (zq (zi (a_c (e_v rfl) (a_c (e_2 e_k (e_v rfl) (add_int _ _)) a_n)) (hc _))) (zh (zq (zi (a_c (e_v rfl) (a_c (e_2 (e_v rfl) e_k (zjc (by decide))) a_n)) (cx _))) (zh s3 (zh (zq (zi (a_c (e_v rfl) (a_c (e_v rfl) (a_c (e_v rfl) (a_c (e_v rfl) (a_c (e_v rfl) (a_c (e_2 (e_2 (e_v rfl) e_k (yd (by decide))) e_k (zy4 _ _)) a_n)))))) cd)) (zh (zn (qg (e_2 (e_v rfl) e_k (zhi _)))) (zh (zui (e_v rfl)) (zh (zn (z0s (zt3 (qg (zi (a_c (e_v rfl) (a_c (e_v rfl) a_n)) ir))) (qg (e_2 (zi (a_c (e_v rfl) a_n) (zcq s'.mm (by omega) hm.rk.sb)) (e_v rfl) (zvj (zaw (by decide) (zs7 s'.mm.things))))))) ?_))))));exact zdm (j:=4) (us:=ks) (S:=Z k n' [.lst ks]) rfl rfl (yf (a_c (e_v rfl) (a_c (zog (e_v rfl)) a_n)) (z5r rfl)) (by omega)
theorem zoe(ns:List Int)(hn:ns.length<=63){κ:Int}(hk:k=0\/5<=κ)(h0:0<=κ)(h1:κ<8){m:Int}:∀(js:List D),(∀x∈js,∃i:Int,x=.int i/\0<=i/\i<10000)->∀{n:Int}{d:D}{ts ks:List D}{h:Nat} (o8 o9 o10 o11:Option D),Kp k ks->Ste k (zao κ) (ltk κ) d ts h->ks.length+js.length<1000->ts.length+js.length<1000 ->
   ∃d' ts' n' ks' o8' o9' o10' o11',Kp k ks'/\zck 8 oB js (El ns κ m k ts d o8 o9 o10 o11 none none) (Z k n [.lst ks])=some (.nx (El ns κ m k ts' d' o8' o9' o10' o11' none none),Z k n' [.lst ks'])
 | [],_,n,d,ts,ks,h,o8,o9,o10,o11,hm,s,_,_=>⟨d,ts,n,ks,o8,o9,o10,o11,hm,rfl⟩
 | jj::js,hj,n,d,ts,ks,h,o8,o9,o10,o11,hm,s,lk,lt'=>by obtain⟨i,rfl,i0,i1⟩:=hj jj (z5d ..);rw[List.length_cons]at lk lt';obtain⟨d1,ts1,h1',n1,a9,a10,a11,s1,l1,km,c1⟩:=turn_ok (n:=n) (m:=m) ns hn hk h0 h1 i0 i1 hm (by omega) s (by omega) o9 o10 o11;obtain⟨d2,ts2,n2,ks2,b8,b9,b10,b11,km2,ih⟩:=zoe ns hn hk h0 h1 (m:=m) js (fun x hx=>hj x (z46 _ hx)) (n:=n1) (some (.int i)) a9 a10 a11 km s1 (by simp;omega) (by omega);exact⟨d2,ts2,n2,ks2,b8,b9,b10,b11,km2,zf6 c1 ih⟩
def kB:C:=(sIf (bE (e2 zew (zm jy (aC (eV 12) aN)) (eV 13))) (ql (eK (.bl false))) jc)
theorem zok{ks:List D}{ns:List Int}{κ m:Int}(hm:Kp k ks)(hk:S[4]? = some (.lst ks))(hS:SB S):∀(q j:Nat),ks.length-j<q->∀(o8 o9 o10 o11 o12 o13:Option D),∃o12' o13',zbn 4 [12,13] kB q j (El ns κ m k ts d o8 o9 o10 o11 o12 o13) S=some (.nx (El ns κ m k ts d o8 o9 o10 o11 o12' o13'),S)
 |0,j,hq,_,_,_,_,_,_=>absurd hq (z8c _)
 | q+1,j,hq,o8,o9,o10,o11,o12,o13=>by
   by_cases hj:j<ks.length
   · obtain⟨e,us,h,ee,mm,ll⟩:=hm ks[j] (z8g hj);obtain⟨p12,p13,ih⟩:=zok hm hk hS q (j+1) (by omega) o8 o9 o10 o11 (some e) (some (.lst us));refine⟨p12,p13,?_⟩;unfold zbn;simp only[hk,z49 hj,ee];show(kB (El ns κ m k ts d o8 o9 o10 o11 (some e) (some (.lst us))) S).bind _=_;have c:kB (El ns κ m k ts d o8 o9 o10 o11 (some e) (some (.lst us))) S=some (.nx (El ns κ m k ts d o8 o9 o10 o11 (some e) (some (.lst us))),S):=zn (qg (e_2 (zi (a_c (e_v rfl) a_n) (zcq mm ll hS)) (e_v rfl) (zvj (zaw (by decide) (zs7 mm.things)))));rw[c];exact ih
   · refine⟨o12,o13,?_⟩;unfold zbn;simp only[hk,List.getElem?_eq_none (z8i.mp hj)]
theorem zqe{is:List Nat}{f:E}{b:C}{a:Nat}{ds:List D}{o':Out}{S2:Sto}(h:f ev S=some (.obj a,S1))(ha:S1[a]? = some (.lst ds))(q:zbn a is b (ds.length+1) 0 ev S1=some (o',S2)):zg7 is f b ev S=some (o',S2):=by simp only[zg7,h,Option.bind_some,ha,q]
theorem znl(ns:List Int)(hn:ns.length<=63){κ:Int}(hk:k=0\/5<=κ)(h0:0<=κ)(h1:κ<8){m:Nat}(hm:m<=70):∃S',(z8 (qp 4 (zl9 "Wood" q8 (aC (eV 3) aN))) (z8 (qp 5 (zm ya (aC (eV 0) (aC (eV 1) (aC (eK (.int 20)) (aC (eV 2) aN)))))) (z8 (qp 6 (zm y8 (aC (eV 0) (aC (eV 4) (aC (eV 5) aN))))) (z8 (qp 7 (zja (aC (zar (aC (eV 6) (aC (zeg (aC (eV 5) aN)) aN))) aN))) (z8 (zil 8 (e2 jb (zm z5 (aC (eV 0) (aC (eK (.int 7)) aN))) (eK (.int 13))) oB) (z8 (zg7 [12,13] (eV 7) kB) (ql (eK (.bl true)))))))))
   [some (.lst (ns.map D.int)),some (.int κ),some (.int m),some (zad k),none,none,none,none,none,none,none,none,none,none] [tD,tS,tL]=some (.rt (.bl true),S'):=by
 obtain⟨ts,al,sr,tl,cs⟩:=zul (S:=Z k 0 []) ns hn h0 h1 (f:=20) (by decide) (by decide) (m:=m) (by omega) Rk.nil.sb Rk.nil.noCS rfl (by show 2<=4;decide);obtain⟨d,h,n',mm,cd⟩:=zxk (k:=k) (R:=[]) (n:=0) ns hn (ts:=ts) (fun x hx=>zw6 hk (al x hx)) (by omega);have s:Ste k (zao κ) (ltk κ) d ts h:=⟨mm,al,sr⟩
 have k0:Kp k [.tup [d,.lst ts]]:=fun e he=>⟨d,ts,h,z5g.mp he,mm,by omega⟩
 obtain⟨c7,_,_,hc7⟩:=yx ns hn (q:=7) (by decide) (by decide);obtain⟨e,he,ee⟩:=zf2 c7 (c:=13) (by decide);obtain⟨d2,ts2,n2,ks2,o8,o9,o10,o11,km,lp⟩:=zoe ns hn hk h0 h1 (m:=m) (j6 0 e) (rng (by omega)) (n:=n') none none none none k0 s (by rw[zfx];simp;omega) (by rw[zfx];omega);obtain⟨o12,o13,lo⟩:=zok (d:=d2) (ts:=ts2) (ns:=ns) (κ:=κ) (m:=m) (S:=Z k n2 [.lst ks2]) km rfl km.rk.sb (ks2.length+1) 0 (by omega) o8 o9 o10 o11 none none;refine⟨Z k n2 [.lst ks2],zh (zq (zw3 (e_v rfl))) (zh (zq (zi (a_c (e_v rfl) (a_c (e_v rfl) (a_c e_k (a_c (e_v rfl) a_n)))) cs)) (zh (zq (zi (a_c (e_v rfl) (a_c (e_v rfl) (a_c (e_v rfl) a_n))) cd)) (zh (zq (zpi (S1:=Z k n' []) (a_c (yf (a_c (e_v rfl) (a_c (zog (e_v rfl)) a_n)) (z5r rfl)) a_n) (z5r rfl))) (zh (zih (b:=oB) (n:=(e:Int)) (S1:=Z k n' [.lst [.tup [d,.lst ts]]]) (e_2 (zi (a_c (e_v rfl) (a_c e_k a_n)) (hc7 _)) e_k ee) (by omega) (by omega) (by rw[Int.toNat_natCast];exact lp)) (zh (zqe (a:=4) (ds:=ks2) (e_v rfl) rfl lo) (zw e_k))))))⟩
theorem law_ok:zt7 tabs g_law:=by
 intro ns hn;obtain⟨c0,_,_,hc0⟩:=yx ns hn (q:=0) (by decide) (by decide);obtain⟨c1,_,_,hc1⟩:=yx ns hn (q:=1) (by decide) (by decide);obtain⟨c2,_,_,hc2⟩:=yx ns hn (q:=2) (by decide) (by decide);obtain⟨c6,_,_,hc6⟩:=yx ns hn (q:=6) (by decide) (by decide);have h0:=z6z c0 (show(8:Int)≠0 by decide);have h1:=z6f c0 (show(0:Int)<8 by decide);generalize hκ:c0%8=κ at *;obtain⟨m0,hm0,em0⟩:=zf2 c1 (c:=15) (by decide);obtain⟨m,hm,s3⟩:∃m:Nat,m<=70/\sIf (bE (e2 kh (e2 jb (zm z5 (aC (eV 0) (aC (eK (.int 2)) aN))) (eK (.int 8))) (eK (.int 3)))) (qp 2 (eK (.int 70))) jc [some (.lst (ns.map D.int)),some (.int κ),some (.int m0),none,none,none,none,none,none,none,none,none,none,none] [tD,tS,tL]=some (.nx [some (.lst (ns.map D.int)),some (.int κ),some (.int m),none,none,none,none,none,none,none,none,none,none,none],[tD,tS,tL]):=by
   by_cases q:c2%8=3
   · exact⟨70,by omega,qb (qg (e_2 (e_2 (zi (a_c (e_v rfl) (a_c e_k a_n)) (hc2 _)) e_k (yd (by decide))) e_k ((zto _ _).trans (by rw[z5z q])))) (zq e_k)⟩
   · exact⟨m0,by omega,zn (qg (e_2 (e_2 (zi (a_c (e_v rfl) (a_c e_k a_n)) (hc2 _)) e_k (yd (by decide))) e_k ((zto _ _).trans (by rw[z5o q]))))⟩
 have fst:∀{c:C}{o:Out}{S'},c [some (.lst (ns.map D.int)),some (.int κ),some (.int m),some .non,none,none,none,none,none,none,none,none,none,none] [tD,tS,tL]=some (o,S')->(z8 (qp 1 (e2 jb (zm z5 (aC (eV 0) (aC (eK (.int 0)) aN))) (eK (.int 8)))) (z8 (qp 2 (e2 jb (zm z5 (aC (eV 0) (aC (eK (.int 1)) aN))) (eK (.int 15)))) (z8 (sIf (bE (e2 kh (e2 jb (zm z5 (aC (eV 0) (aC (eK (.int 2)) aN))) (eK (.int 8))) (eK (.int 3)))) (qp 2 (eK (.int 70))) jc) (z8 (qp 3 (eK .non)) c)))) [some (.lst (ns.map D.int)),none,none,none,none,none,none,none,none,none,none,none,none,none] [tD,tS,tL]=some (o,S'):=fun hc=>
   zh (zq (d:=.int κ) (e_2 (zi (a_c (e_v rfl) (a_c e_k a_n)) (hc0 _)) e_k ((yd (by decide)).trans (by rw[hκ])))) (zh (zq (e_2 (zi (a_c (e_v rfl) (a_c e_k a_n)) (hc1 _)) e_k em0)) (zh s3 (zh (zq e_k) hc)))
 have t6:∀S,bE (e2 kh (e2 jb (zm z5 (aC (eV 0) (aC (eK (.int 6)) aN))) (eK (.int 2))) (eK (.int 0))) [some (.lst (ns.map D.int)),some (.int κ),some (.int m),some .non,none,none,none,none,none,none,none,none,none,none] S=some (decide (c6%2=0),S):=fun S=>qg (e_2 (e_2 (zi (a_c (e_v rfl) (a_c e_k a_n)) (hc6 _)) e_k (yd (by decide))) e_k (zto _ _));have t4:∀S,bE (e2 zh7 (eV 1) (eK (.int 4))) [some (.lst (ns.map D.int)),some (.int κ),some (.int m),some .non,none,none,none,none,none,none,none,none,none,none] S=some (decide (4<κ),S):=fun S=>qg (e_2 (e_v rfl) e_k rfl);by_cases q:c6%2=0/\4<κ
 · obtain⟨S',c⟩:=znl (k:=2) ns hn (.inr (by omega)) h0 h1 hm;exact⟨S',ju rfl (fst (zh (qb (zc1 ((t6 _).trans (by rw[z5z q.1])) ((t4 _).trans (by rw[z5z q.2]))) (zq (zza (y:="law") rfl rfl))) c))⟩
 · obtain⟨S',c⟩:=znl (k:=0) ns hn (.inl rfl) h0 h1 hm;refine⟨S',ju rfl (fst (zh (zn ?_) c))⟩;by_cases q6:c6%2=0
   · exact zc1 ((t6 _).trans (by rw[z5z q6])) ((t4 _).trans (by rw[z5o fun z=>q ⟨q6,z⟩]))
   · exact zh6 ((t6 _).trans (by rw[z5o q6]))
end Pg
namespace Pg
open PySem L2 F PySem.Spec PyProof.Rows
variable {P:Program}{w:World}{K:zFr}{mg:zMg}{base:Heap}{f:Addr}{cdv:Value}{A:Around}{outer:List Env}{s:Shared}{H:Hp}{E:XK}
seal F.FE F.FB F.FW F.FA F.FS F.FSs F.FPt F.RE F.RS F.RSs F.RTs
def top(i:Nat):Stmt:=PySem.Challenge.pw_ownshelf_k21_added_and_dropped.main.body.getD i (.Pass ⟨0,0,0,0⟩)
theorem _root_.L2.FnScope.auto7{N P:List Str}{sc:Scope}(h1:sc.kind=.function:=by rfl)(h2:sc.isCoroutine=false:=by rfl)(h3:sc.isGenerator=false:=by rfl)(h4:N.Nodup:=by decide +kernel)(h5:N.take P.length=P:=by rfl)(h6:∀x∈P,sc.names.lookup x=some .local\/sc.names.lookup x=some .cell:=by decide +kernel)(h7:∀y∈sc.names,y.2≠.free:=by decide +kernel):L2.FnScope N P sc:=⟨h1,h2,h3,h4,h5,h6,h7⟩
theorem _root_.L2.Room.rmd{j k:Nat}{A:Around}(r:Room k A)(h:j<=k:=by decide):Room j A:=r.mono h
abbrev s_Wood___init__:Stmt:=zgc (top 54) 0
abbrev s__law_cell:Stmt:=top 79
abbrev s__law_key:Stmt:=top 80
abbrev s_check_place:Stmt:=top 56
abbrev s_size:Stmt:=top 29
abbrev s_Wood_numbered:Stmt:=zgc (top 54) 4
abbrev s_check_room:Stmt:=top 53
abbrev s_height:Stmt:=top 30
abbrev s_height_above:Stmt:=top 36
abbrev s_in_balance:Stmt:=top 37
abbrev s_size_above:Stmt:=top 35
abbrev s_back:Stmt:=top 32
abbrev s_backward_sum:Stmt:=top 40
abbrev s_total:Stmt:=top 31
abbrev s_onward_sum:Stmt:=top 39
abbrev s_sums_above:Stmt:=top 38
abbrev s_Wood_node:Stmt:=zgc (top 54) 2
abbrev s_Wood_turned:Stmt:=zgc (top 54) 3
abbrev s_parts:Stmt:=top 33
abbrev s_lifted_left:Stmt:=top 49
abbrev s_lifted_right:Stmt:=top 50
abbrev s_balanced:Stmt:=top 48
abbrev s_joined:Stmt:=top 47
abbrev s_seen:Stmt:=top 34
abbrev s_thing_at:Stmt:=top 63
abbrev s_laid_together:Stmt:=top 68
abbrev s_taken_out:Stmt:=top 67
abbrev s_out:Stmt:=top 66
abbrev s_at:Stmt:=top 62
abbrev s_is_alike_at:Stmt:=top 74
abbrev s_count_before:Stmt:=top 73
abbrev s_place_of:Stmt:=top 72
abbrev s_place_of_alike:Stmt:=top 77
abbrev s_dropped:Stmt:=top 76
abbrev s__law_refusal:Stmt:=top 84
abbrev s_put_in:Stmt:=top 65
abbrev s_put:Stmt:=top 64
abbrev s_added:Stmt:=top 75
abbrev s__law_done:Stmt:=top 85
abbrev s_built:Stmt:=top 59
abbrev s_make_of:Stmt:=top 58
abbrev s_check_stretch:Stmt:=top 57
abbrev s_cut_ahead:Stmt:=top 69
abbrev s_turned_part:Stmt:=top 70
abbrev s__law_set:Stmt:=top 83
abbrev s__law_thing:Stmt:=top 81
abbrev s__law_some:Stmt:=top 82
abbrev s_is_whole:Stmt:=top 43
abbrev s_has_form:Stmt:=top 42
abbrev s_has_right_measures:Stmt:=top 44
abbrev s_has_right_sums:Stmt:=top 45
abbrev s_is_right:Stmt:=top 41
abbrev s_gather:Stmt:=top 61
abbrev s_things_of:Stmt:=top 60
abbrev s_law:Stmt:=top 86
structure TX (K:zFr) (mg:zMg) (base:Heap):Prop where
 udv:mg "ValueError"=none
 ugb:mg "abs"=none
 ufp:mg "bool"=none
 ug4:mg "int"=none
 uag:mg "isinstance"=none
 uar:mg "len"=none
 ubs:mg "list"=none
 ug5:mg "max"=none
 uc2:mg "range"=none
 uca:mg "reversed"=none
 ufu:mg "sorted"=none
 ugm:mg "tuple"=none
 ubg:∃t,mg "ABOUT"=some (.int 1 t)
 uaa:∃t,mg "AHEAD"=some (.int 0 t)
 ud8:∃t,mg "BACK"=some (.int 8 t)
 uab:∃t,mg "BEHIND"=some (.int 2 t)
 ub0:∃t,mg "HEIGHT"=some (.int 6 t)
 ua3:∃t,mg "LEFT"=some (.int 2 t)
 uad:∃t,mg "MIDDLE"=some (.int 1 t)
 udn:∃t,mg "MOST_THINGS"=some (.int 2000 t)
 ufs:∃t,mg "NUMBER"=some (.int 0 t)
 uao:∃t,mg "RIGHT"=some (.int 4 t)
 udo:∃t,mg "SIZE"=some (.int 5 t)
 ua6:∃t,mg "THING"=some (.int 3 t)
 ucs:∃t,mg "TOTAL"=some (.int 7 t)
 uaz:∃t,mg "TURNED"=some (.int 3 t)
 ubq:∃t,mg "VALUES_OF_A_NODE"=some (.int 9 t)
 ubm:Fld K mg "Wood" "adding"
 uam:Fld K mg "Wood" "nodes_made"
 ufd:∃f,mg "Changed"=some (.ref f)
 ueq:∃f,mg "NoBalance"=some (.ref f)
 uf8:∃f,mg "NoMore"=some (.ref f)
 ufz:∃f,mg "NoName"=some (.ref f)
 uet:∃f,mg "NoNumber"=some (.ref f)
 ufm:∃f,mg "NoPlace"=some (.ref f)
 ugf:∃f,mg "NoRow"=some (.ref f)
 ugp:∃f,mg "NoSum"=some (.ref f)
 ufc:∃f,mg "NoThing"=some (.ref f)
 ugl:∃f,mg "NoWay"=some (.ref f)
 ufq:∃f,mg "TooMany"=some (.ref f)
 ufa:ExcCls K mg "NoThing"
 up:UpOk K mg up
 blt:zms base mg
 ucd:HasMk K mg "Wood" "Wood.__init__" s_Wood___init__ 1
 uej:HasDef K mg "_law_cell" s__law_cell 0
 ue3:HasDef K mg "_law_key" s__law_key 0
 udb:HasDef K mg "check_place" s_check_place 0
 ugs:HasDef K mg "size" s_size 0
 uci:HasMth K mg "Wood" "numbered" "Wood.numbered" s_Wood_numbered
 ud2:HasDef K mg "check_room" s_check_room 0
 uf3:HasDef K mg "height" s_height 0
 ucv:HasDef K mg "height_above" s_height_above 0
 udx:HasDef K mg "in_balance" s_in_balance 0
 udw:HasDef K mg "size_above" s_size_above 0
 ugu:HasDef K mg "back" s_back 0
 uc4:HasDef K mg "backward_sum" s_backward_sum 0
 ugq:HasDef K mg "total" s_total 0
 udu:HasDef K mg "onward_sum" s_onward_sum 0
 udy:HasDef K mg "sums_above" s_sums_above 0
 ueo:HasMth K mg "Wood" "node" "Wood.node" s_Wood_node
 uc8:HasMth K mg "Wood" "turned" "Wood.turned" s_Wood_turned
 ugk:HasDef K mg "parts" s_parts 0
 udj:HasDef K mg "lifted_left" s_lifted_left 0
 ucu:HasDef K mg "lifted_right" s_lifted_right 0
 ue1:HasDef K mg "balanced" s_balanced 0
 udt:HasDef K mg "joined" s_joined 0
 ugt:HasDef K mg "seen" s_seen 0
 ucc:HasDef K mg "thing_at" s_thing_at 0
 uck:HasDef K mg "laid_together" s_laid_together 0
 uby:HasDef K mg "taken_out" s_taken_out 0
 ug1:HasDef K mg "out" s_out 0
 ug8:HasDef K mg "at" s_at 0
 uc9:HasDef K mg "is_alike_at" s_is_alike_at 0
 ubf:HasDef K mg "count_before" s_count_before 0
 uey:HasDef K mg "place_of" s_place_of 0
 ua8:HasDef K mg "place_of_alike" s_place_of_alike 0
 uc6:HasDef K mg "dropped" s_dropped 0
 uct:HasDef K mg "_law_refusal" s__law_refusal 0
 ud5:HasDef K mg "put_in" s_put_in 0
 ug6:HasDef K mg "put" s_put 0
 ugo:HasDef K mg "added" s_added 0
 uee:HasDef K mg "_law_done" s__law_done 0
 uer:HasDef K mg "built" s_built 0
 ufl:HasDef K mg "make_of" s_make_of 0
 ucj:HasDef K mg "check_stretch" s_check_stretch 0
 ubx:HasDef K mg "cut_ahead" s_cut_ahead 0
 udf:HasDef K mg "turned_part" s_turned_part 0
 uew:HasDef K mg "_law_set" s__law_set 0
 udz:HasDef K mg "_law_thing" s__law_thing 0
 ueb:HasDef K mg "_law_some" s__law_some 0
 uex:HasDef K mg "is_whole" s_is_whole 0
 ue4:HasDef K mg "has_form" s_has_form 0
 ubl:HasDef K mg "has_right_measures" s_has_right_measures 0
 ub8:HasDef K mg "has_right_sums" s_has_right_sums 0
 uch:HasDef K mg "is_right" s_is_right 1
 udp:HasDef K mg "gather" s_gather 0
 uef:HasDef K mg "things_of" s_things_of 0
 ug9:HasDef K mg "law" s_law 0
theorem z4d:CloScope ["_law_thing_here"] ["_law_kind"] lt_0.scope:=⟨rfl,rfl,rfl,by decide +kernel,(z52.mpr ⟨rfl,(fun _ h=>nomatch h)⟩),(z52.mpr ⟨rfl,(fun _ h=>nomatch h)⟩),by decide +kernel,by decide +kernel⟩
theorem z4r(T:TX K mg base)(uai:Cal P w K mg base 1 "_law_key" qv){a c:Addr}{cl:zLA}{A:Around}{outer:List Env}{s:Shared}{H H1:Hp}{E:XK}(hr:Room 1 (A.deeper (PySem.W.envX lt_0.qual lt_0.scope s.heap.objs.size a (.ref c) cl))) :
   FE (cxC P w K mg base ["_law_thing_here", "_law_kind"] lt_0.qual lt_0.scope a (.ref c) cl A outer s H H1 E).nox lt_0.body z07:=by
 exact(zg uai hr.rmd (zb (zf 1) (zb (zf 0) ze)))
theorem z3q(T:TX K mg base)(uai:Cal P w K mg base 1 "_law_key" qv):CCal P w K mg base 2 lt_0 z04:=CCal.of (t:=lt_0) (ps:=["_law_thing_here"]) (k:=1) (f:=z07) z4d rfl (fun _ _ _ _=>ls1 fun _=>rfl) (fun a c cl A outer s H H1 E hr=>z4r T uai hr)
theorem z4c:CloScope ["_law_one", "_law_other"] ["_law_kind"] lt_1.scope:=⟨rfl,rfl,rfl,by decide +kernel,(z52.mpr ⟨rfl,(z52.mpr ⟨rfl,(fun _ h=>nomatch h)⟩)⟩),(z52.mpr ⟨rfl,(fun _ h=>nomatch h)⟩),by decide +kernel,by decide +kernel⟩
theorem z4q(T:TX K mg base)(uai:Cal P w K mg base 1 "_law_key" qv){a c:Addr}{cl:zLA}{A:Around}{outer:List Env}{s:Shared}{H H1:Hp}{E:XK}(hr:Room 1 (A.deeper (PySem.W.envX lt_1.qual lt_1.scope s.heap.objs.size a (.ref c) cl))) :
   FE (cxC P w K mg base ["_law_one", "_law_other", "_law_kind"] lt_1.qual lt_1.scope a (.ref c) cl A outer s H H1 E).nox lt_1.body z06:=by
 exact(zz4 hr (zg uai hr.rmd (zb (zf 2) (zb (zf 0) ze))) (zg uai hr.rmd (zb (zf 2) (zb (zf 1) ze))))
theorem z3p(T:TX K mg base)(uai:Cal P w K mg base 1 "_law_key" qv):CCal P w K mg base 2 lt_1 zwv:=CCal.of (t:=lt_1) (ps:=["_law_one", "_law_other"]) (k:=1) (f:=z06) z4c rfl (fun _ _ _ _=>ls2 fun _ _=>rfl) (fun a c cl A outer s H H1 E hr=>z4q T uai hr)
theorem sl_2:FnScope ["_law_one", "_law_other"] ["_law_one", "_law_other"] lt_2.scope:=.auto7
theorem z4p(T:TX K mg base){a c:Addr}{A:Around}{outer:List Env}{s:Shared}{H:Hp}{E:XK}(hr:Room 0 (A.deeper (envOfC lt_2.qual lt_2.scope s.heap.objs.size a (.ref c)))) :
   FE (zcd CX0 P w K mg base ["_law_one", "_law_other"] lt_2.qual lt_2.scope a (.ref c) A outer s H E).nox lt_2.body z3s:=by
 have nd:=sl_2.nd;exact(q0 (zf 0) (zf 1))
theorem z4l(T:TX K mg base):LCal P w K mg base 1 lt_2 z2p:=LCal.of sl_2 (fun _ _ _=>ls2 fun _ _=>rfl) (fun a c A outer s H E hr=>z4p T hr)
theorem sc_Wood___init__:FnScope ["self", "add"] ["self", "add"] (zk s_Wood___init__):=.auto7
theorem sc__law_cell:FnScope ["_law_script", "_law_k", "_law_cell_here"] ["_law_script", "_law_k"] (zk s__law_cell):=.auto7
theorem sc__law_key:FnScope ["_law_kind", "_law_thing_here"] ["_law_kind", "_law_thing_here"] (zk s__law_key):=.auto7
theorem sc_check_place:FnScope ["place", "end"] ["place", "end"] (zk s_check_place):=.auto7
theorem sc_size:FnScope ["make"] ["make"] (zk s_size):=.auto7
theorem sc_Wood_numbered:FnScope ["self", "rest", "number"] ["self", "rest"] (zk s_Wood_numbered):=.auto7
theorem sc_check_room:FnScope ["things"] ["things"] (zk s_check_room):=.auto7
theorem sc_height:FnScope ["make"] ["make"] (zk s_height):=.auto7
theorem sc_height_above:FnScope ["left", "right"] ["left", "right"] (zk s_height_above):=.auto7
theorem sc_in_balance:FnScope ["left", "right"] ["left", "right"] (zk s_in_balance):=.auto7
theorem sc_size_above:FnScope ["left", "right"] ["left", "right"] (zk s_size_above):=.auto7
theorem sc_back:FnScope ["make"] ["make"] (zk s_back):=.auto7
theorem sc_backward_sum:FnScope ["add", "left", "thing", "right", "result"] ["add", "left", "thing", "right"] (zk s_backward_sum):=.auto7
theorem sc_total:FnScope ["make"] ["make"] (zk s_total):=.auto7
theorem sc_onward_sum:FnScope ["add", "left", "thing", "right", "result"] ["add", "left", "thing", "right"] (zk s_onward_sum):=.auto7
theorem sc_sums_above:FnScope ["add", "left", "thing", "right"] ["add", "left", "thing", "right"] (zk s_sums_above):=.auto7
theorem sc_Wood_node:FnScope ["self", "left", "thing", "right", "things", "measures", "sums"] ["self", "left", "thing", "right"] (zk s_Wood_node):=.auto7
theorem sc_Wood_turned:FnScope ["self", "make", "row"] ["self", "make"] (zk s_Wood_turned):=.auto7
theorem sc_parts:FnScope ["wood", "make", "ahead", "behind"] ["wood", "make"] (zk s_parts):=.auto7
theorem sc_lifted_left:FnScope ["wood", "left", "thing", "right", "outer", "inner", "ahead", "behind"] ["wood", "left", "thing", "right"] (zk s_lifted_left):=.auto7
theorem sc_lifted_right:FnScope ["wood", "left", "thing", "right", "outer", "inner", "ahead", "behind"] ["wood", "left", "thing", "right"] (zk s_lifted_right):=.auto7
theorem sc_balanced:FnScope ["wood", "left", "thing", "right"] ["wood", "left", "thing", "right"] (zk s_balanced):=.auto7
theorem sc_joined:FnScope ["wood", "left", "thing", "right", "row"] ["wood", "left", "thing", "right"] (zk s_joined):=.auto7
theorem sc_seen:FnScope ["make", "turned"] ["make", "turned"] (zk s_seen):=.auto7
theorem sc_thing_at:FnScope ["make", "turned", "place", "row", "middle"] ["make", "turned", "place"] (zk s_thing_at):=.auto7
theorem sc_laid_together:FnScope ["wood", "one", "other"] ["wood", "one", "other"] (zk s_laid_together):=.auto7
theorem zeh(T:TX K mg base)(uay:Cal P w K mg base (7+40) "joined" (kj 40))(uak:Cal P w K mg base (2+40) "thing_at" (xk 40)){self:G}{n:Nat}(hself:Cal P w K mg base (48+2*n) "taken_out" self)(hr0:Room (48+2*n) (A.deeper (envOfC "laid_together" (zk s_laid_together) s.heap.objs.size f cdv))) :
   FSs (zcd CX0 P w K mg base ["wood", "one", "other"] "laid_together" (zk s_laid_together) f cdv A outer s H E).nox (jo s_laid_together) (za8 self):=by
 have nd:=sc_laid_together.nd;have hr:=hr0.mono (z5h 48 (2*n));exact(zd (qj (zcn (zf 1) q9) (zj (zp (zf 2))) zt) (zd (qj (zcn (zf 2) q9) (zj (zp (zf 1))) zt) (zj (zp (zg uay hr.rmd (zb (zf 0) (zb (zf 1) (zb (zg uak hr.rmd (zb (zf 2) (zb y9 (zb zo ze)))) (zb (zg hself hr0 (zb (zf 0) (zb (zf 2) (zb zo ze)))) ze)))))))))
theorem zan(T:TX K mg base)(uay:Cal P w K mg base (7+40) "joined" (kj 40))(uak:Cal P w K mg base (2+40) "thing_at" (xk 40)){self:G}{n:Nat}(hself:Cal P w K mg base (48+2*n) "taken_out" self):Cal P w K mg base (48+2*n+1) "laid_together" (jp self):=T.uck.cal sc_laid_together (fun _ _ _ _ _ _=>ls3 fun _ _ _=>rfl) (fun f cdv A outer s H E hr=>zeh T uay uak hself hr)
theorem sc_taken_out:FnScope ["wood", "make", "place", "row", "middle"] ["wood", "make", "place"] (zk s_taken_out):=.auto7
theorem zjd(T:TX K mg base)(uaq:Cal P w K mg base 6 "balanced" jt)(ubu:Cal P w K mg base 3 "parts" xi)(ucg:Cal P w K mg base 1 "size" xn){self aux:G}{n:Nat}(hself:Cal P w K mg base (48+2*n) "taken_out" self)(haux:Cal P w K mg base (48+2*n+1) "laid_together" aux)(hr0:Room (48+2*n+1) (A.deeper (envOfC "taken_out" (zk s_taken_out) s.heap.objs.size f cdv))) :
   FSs (zcd CX0 P w K mg base ["wood", "make", "place", "row", "middle"] "taken_out" (zk s_taken_out) f cdv A outer s H E).nox (jo s_taken_out) (zem self aux):=by
 have nd:=sc_taken_out.nd;have hr1:=hr0.mono (z9i (48+2*n));have hr:=hr1.mono (z5h 48 (2*n));exact(zd (zv 3 (zg ubu hr.rmd (zb (zf 0) (zb (zf 1) ze))) nd) (zd (zv 4 (zg ucg hr.rmd (zb (zu (zf 3) (zx T.uaa)) ze)) nd) (zd (qj (zrs (zf 2) (zf 4)) (zj (zp (zg uaq hr.rmd (zb (zf 0) (zb (zg hself hr1 (zb (zf 0) (zb (zu (zf 3) (zx T.uaa)) (zb (zf 2) ze)))) (zb (zu (zf 3) (zx T.uad)) (zb (zu (zf 3) (zx T.uab)) ze))))))) zt) (zd (qj (zi7 (zf 2) (zf 4)) (zj (zp (zg uaq hr.rmd (zb (zf 0) (zb (zu (zf 3) (zx T.uaa)) (zb (zu (zf 3) (zx T.uad)) (zb (zg hself hr1 (zb (zf 0) (zb (zu (zf 3) (zx T.uab)) (zb (yk (yk (zf 2) (zf 4)) zo) ze)))) ze))))))) zt) (zj (zp (zg haux hr0 (zb (zf 0) (zb (zu (zf 3) (zx T.uaa)) (zb (zu (zf 3) (zx T.uab)) ze))))))))))
theorem zcs(T:TX K mg base)(uaq:Cal P w K mg base 6 "balanced" jt)(ubu:Cal P w K mg base 3 "parts" xi)(ucg:Cal P w K mg base 1 "size" xn)(uay:Cal P w K mg base (7+40) "joined" (kj 40))(uak:Cal P w K mg base (2+40) "thing_at" (xk 40)):∀n:Nat,Cal P w K mg base (48+2*n) "taken_out" (jn n)
 |0=>T.uby.none0 (ps:=["wood", "make", "place"]) (fun _ _ _ _ _ _=>ls3 fun _ _ _=>rfl)
 | n+1=>by have ih:=zcs T uaq ubu ucg uay uak n;exact(show Cal P w K mg base ((48+2*n+1)+1) "taken_out" (jn (n+1))from T.uby.cal sc_taken_out (fun _ _ _ _ _ _=>ls3 fun _ _ _=>rfl) (fun f cdv A outer s H E hr=>zjd T uaq ubu ucg ih (zan T uay uak ih) hr))
theorem sc_out:FnScope ["wood", "make", "place"] ["wood", "make", "place"] (zk s_out):=.auto7
theorem sc_at:FnScope ["make", "place"] ["make", "place"] (zk s_at):=.auto7
theorem sc_is_alike_at:FnScope ["make", "place", "thing", "before"] ["make", "place", "thing", "before"] (zk s_is_alike_at):=.auto7
theorem sc_count_before:FnScope ["make", "turned", "thing", "before", "row"] ["make", "turned", "thing", "before"] (zk s_count_before):=.auto7
theorem sc_place_of:FnScope ["make", "thing", "before"] ["make", "thing", "before"] (zk s_place_of):=.auto7
theorem sc_place_of_alike:FnScope ["make", "thing", "before", "place"] ["make", "thing", "before"] (zk s_place_of_alike):=.auto7
theorem sc_dropped:FnScope ["wood", "make", "thing", "before"] ["wood", "make", "thing", "before"] (zk s_dropped):=.auto7
theorem sc__law_refusal:FnScope ["_law_wood", "_law_make", "_law_thing_here", "_law_before", "_law_heard", "e", "_law_others"] ["_law_wood", "_law_make", "_law_thing_here", "_law_before"] (zk s__law_refusal):=.auto7
theorem sc_put_in:FnScope ["wood", "make", "place", "thing", "row", "middle"] ["wood", "make", "place", "thing"] (zk s_put_in):=.auto7
theorem sc_put:FnScope ["wood", "make", "place", "thing"] ["wood", "make", "place", "thing"] (zk s_put):=.auto7
theorem sc_added:FnScope ["wood", "make", "thing", "before", "place"] ["wood", "make", "thing", "before"] (zk s_added):=.auto7
theorem sc__law_done:FnScope ["_law_wood", "_law_make", "_law_things", "_law_thing_here", "_law_kind", "_law_drop", "_law_before", "_law_alike", "_law_found", "_law_ahead"] ["_law_wood", "_law_make", "_law_things", "_law_thing_here", "_law_kind", "_law_drop"] (zk s__law_done):=.auto7
theorem sc_built:FnScope ["wood", "things", "start", "end", "middle", "left", "right"] ["wood", "things", "start", "end"] (zk s_built):=.auto7
theorem sc_make_of:FnScope ["wood", "things"] ["wood", "things"] (zk s_make_of):=.auto7
theorem sc_check_stretch:FnScope ["make", "start", "end"] ["make", "start", "end"] (zk s_check_stretch):=.auto7
theorem sc_cut_ahead:FnScope ["wood", "make", "place", "row", "middle", "halves"] ["wood", "make", "place"] (zk s_cut_ahead):=.auto7
theorem sc_turned_part:FnScope ["wood", "make", "start", "end", "behind", "ahead", "begin"] ["wood", "make", "start", "end"] (zk s_turned_part):=.auto7
theorem sc__law_set:FnScope ["_law_script", "_law_wood", "_law_things", "_law_way", "_law_start", "_law_end", "_law_amid"] ["_law_script", "_law_wood", "_law_things"] (zk s__law_set):=.auto7
theorem sc__law_thing:FnScope ["_law_kind", "_law_cell_here", "_law_text", "_law_k"] ["_law_kind", "_law_cell_here"] (zk s__law_thing):=.auto7
theorem sc__law_some:FnScope ["_law_script", "_law_kind", "_law_first", "_law_many", "_law_found", "_law_k", "_law_thing_here"] ["_law_script", "_law_kind", "_law_first", "_law_many"] (zk s__law_some):=.auto7
theorem sc_is_whole:FnScope ["value"] ["value"] (zk s_is_whole):=.auto7
theorem sc_has_form:FnScope ["make"] ["make"] (zk s_has_form):=.auto7
theorem sc_has_right_measures:FnScope ["make", "left", "right"] ["make"] (zk s_has_right_measures):=.auto7
theorem sc_has_right_sums:FnScope ["make", "add", "asked"] ["make", "add"] (zk s_has_right_sums):=.auto7
theorem sc_is_right:FnScope ["make", "add"] ["make", "add"] (zk s_is_right):=.auto7
theorem sc_gather:FnScope ["make", "turned", "found", "row"] ["make", "turned", "found"] (zk s_gather):=.auto7
theorem sc_things_of:FnScope ["make", "found"] ["make"] (zk s_things_of):=.auto7
theorem sc_law:FnScope ["_law_script", "_law_kind", "_law_many", "_law_add", "_law_wood", "_law_things", "_law_make", "_law_kept", "_law_k", "_law_cell_here", "_law_thing_here", "_law_told", "_law_one", "_law_due"] ["_law_script"] (zk s_law):=.auto7
structure CX_law (P:Program) (w:World) (K:zFr) (mg:zMg) (base:Heap):Prop where
 mk ::
 uap:Mak P w K mg base 1 "Wood" q8
 uae:Cal P w K mg base 1 "_law_cell" z5
 ubc:Cal P w K mg base 132 "_law_done" yb
 ubh:Cal P w K mg base 131 "_law_set" y8
 ubb:Cal P w K mg base 5 "_law_some" ya
 uav:Cal P w K mg base 1 "_law_thing" ji
 uaw:Cal P w K mg base (5+40) "is_right" (xy 40)
 ua1:Cal P w K mg base 43 "things_of" jy
theorem z2y(T:TX K mg base)(C:CX_law P w K mg base){f:Addr}{cdv:Value}(hco:zcc K mg "law" cdv){A:Around}{outer:List Env}{s:Shared}{H:Hp}{E:XK}(hr:Room 132 (A.deeper (envOfC "law" (zk s_law) s.heap.objs.size f cdv))) :
   FSs (zcd CX0 P w K mg base ["_law_script", "_law_kind", "_law_many", "_law_add", "_law_wood", "_law_things", "_law_make", "_law_kept", "_law_k", "_law_cell_here", "_law_thing_here", "_law_told", "_law_one", "_law_due"] "law" (zk s_law) f cdv A outer s H E).nox (jo s_law) z0q:=by
 have nd:=sc_law.nd;exact(zd (zv 1 (j7 (zg C.uae hr.rmd (zb (zf 0) (zb zo ze))) zo) nd) (zd (zv 2 (j7 (zg C.uae hr.rmd (zb (zf 0) (zb zo ze))) zo) nd) (zd (qj (zab hr (j7 (zg C.uae hr.rmd (zb (zf 0) (zb zo ze))) zo) zo) (zj (zv 2 zo nd)) zt) (zd (zv 3 q9 nd) (zd (qj (zv7 (zku (zab hr (j7 (zg C.uae hr.rmd (zb (zf 0) (zb zo ze))) zo) zo) (zgf (zi7 (zf 1) zo)))) (zj (zv 3 (zz6 2 hco T.blt) nd)) zt) (zd (zv 4 (zv5 C.uap hr.rmd (zb (zf 3) ze)) nd) (zd (zv 5 (zg C.ubb hr.rmd (zb (zf 0) (zb (zf 1) (zb zo (zb (zf 2) ze))))) nd) (zd (zv 6 (zg C.ubh hr.rmd (zb (zf 0) (zb (zf 4) (zb (zf 5) ze)))) nd) (zd (zv 7 (zi6 (zb (jl (zb (zf 6) (zb (zkw T.ubs (zb (zf 5) ze)) ze))) ze)) nd) (zd (zi4 8 nd T.uc2 (j7 (zg C.uae hr.rmd (zb (zf 0) (zb zo ze))) zo) (zd (zv 9 (zg C.uae hr.rmd (zb (zf 0) (zb (q0 zo (zf 8)) ze))) nd) (zd (zv 10 (zg C.uav hr.rmd (zb (zf 1) (zb (zee (zf 9) zo) ze))) nd) (zd (qj (zv7 (zku (zab hr (j7 (zf 9) zo) zo) (zgf (zhp hr (zf 5) (zcu ze))))) (zj (zv 10 (zu (zf 5) (j7 (zee (zf 9) zo) (za4 T.uar (zb (zf 5) ze)))) nd)) zt) (zd (zv 11 (zg C.ubc hr.rmd (zb (zf 4) (zb (zf 6) (zb (zf 5) (zb (zf 10) (zb (zf 1) (zb (zz5 (j7 (zf 9) zo) zo) ze))))))) nd) (zd (qj (zcn (zf 11) q9) (zj (zp y9)) zt) (zd (zzx [6,5] (zbd 6 nd (zbd 5 nd Names.nil)) (zf 11)) (zd (qj (zv7 (zvz (zaa (xu (zg C.uaw hr.rmd (zb (zf 6) (zb (zf 3) ze))))) (zov (zhp hr (zg C.ua1 hr.rmd (zb (zf 6) ze)) (zf 5))))) (zj (zp y9)) zt) (zj (zea (zf 7) (jl (zb (zf 6) (zb (zkw T.ubs (zb (zf 5) ze)) ze)))))))))))) z94) (zd (zrk [12,13] (zbd 12 nd (zbd 13 nd Names.nil)) (zf 7) (zj (qj (zhp hr (zg C.ua1 hr.rmd (zb (zf 12) ze)) (zf 13)) (zj (zp y9)) zt)) z94) (zj (zp y9)))))))))))))
theorem law_fn{P:Program}{w:World}{K:zFr}{mg:zMg}(T0:HasDef K mg "law" s_law 0)(C:∀base,zms base mg->TX K mg base/\CX_law P w K mg base):∃fa fd,mg "law"=some (.ref fa)/\(∀(s:Shared) (v:Value),BindsTo s fd ⟨[v],[]⟩ [("_law_script",v)])/\∀base,zms base mg->FnOk P w K mg base CX0 133 fa fd ["_law_script"] (spG K mg g_law):=by obtain⟨f,fd,dV,F,hm,rfl⟩:=T0.ex;have B:=F.binds0 (ps:=["_law_script"]) (fun _ _ _ _ _ _=>ls1 fun _=>rfl);refine⟨f,fd,hm,?_,fun base hB=>F.okL hm sc_law fun cdv co A outer s H E hr=>z2y (C base hB).1 (C base hB).2 co hr⟩;obtain⟨oc,od,kV,doc,pm,an,cdv,ct,osl,rfl,lk,hcd⟩:=F.ex;exact fun s v=>.of_eq rfl
theorem law_all{P:Program}{w:World}{K:zFr}{mg:zMg}(T:∀base,zms base mg->TX K mg base)(T0:HasDef K mg "law" s_law 0):∃fa fd,mg "law"=some (.ref fa)/\(∀(s:Shared) (v:Value),BindsTo s fd ⟨[v],[]⟩ [("_law_script",v)])/\∀base,zms base mg->FnOk P w K mg base CX0 133 fa fd ["_law_script"] (spG K mg g_law):=by
 refine law_fn T0 fun base hB=>?_;have T:=T base hB;have uap:Mak P w K mg base 1 "Wood" q8:=T.ucd.mk1 sc_Wood___init__ (fun _ _ _ _ _ _ _=>ls2 fun _ _=>⟨_,rfl,rfl⟩) (fun f cdv A outer s H E hr=>by as_aux_lemma=>
   have nd:=sc_Wood___init__.nd;exact(zd (zow T.ubm (zf 0) (zf 1)) (zj (zow T.uam (zf 0) zo))))
 have uae:Cal P w K mg base 1 "_law_cell" z5:=(T.uej.cal sc__law_cell (fun _ _ _ _ _ _=>ls2 fun _ _=>rfl) (fun f cdv A outer s H E hr=>by as_aux_lemma=>
   have nd:=sc__law_cell.nd;exact(zd (zv 2 (q0 (zct (zct (zf 1) (zf 1)) zo) zo) nd) (zd (qj (zi7 (za4 T.uar (zb (zf 0) ze)) zo) (zj (zv 2 (q0 (j7 (zu (zf 0) (j7 (zf 1) (za4 T.uar (zb (zf 0) ze)))) (zkv zo zo)) (zct (zee (zf 1) (za4 T.uar (zb (zf 0) ze))) zo)) nd)) zt) (zj (zp (j7 (zct (j7 (q0 (zct (zf 2) zo) (zct (zf 1) zo)) zo) (q0 (j7 (zf 2) zo) zo)) zo)))))))
 have uaj:Cal P w K mg base 1 "_law_key" qv:=(T.ue3.cal sc__law_key (fun _ _ _ _ _ _=>ls2 fun _ _=>rfl) (fun f cdv A outer s H E hr=>by as_aux_lemma=>
   have nd:=sc__law_key.nd;exact(zd (qj (zab hr (zf 0) zo) (zj (zp (yk zo (zf 1)))) zt) (zd (qj (zab hr (zf 0) zo) (zj (zp (jl (zb (j7 (zf 1) zo) (zb (zf 1) ze))))) zt) (zd (qj (zab hr (zf 0) zo) (zj (zp (zee (zf 1) zo))) zt) (zd (qj (zab hr (zf 0) zo) (zj (zp (ztm T.ugb (zb (zf 1) ze)))) zt) (zd (qj (zab hr (zf 0) zo) (zj (zp (jl (zb (za4 T.uar (zb (zf 1) ze)) (zb (zf 1) ze))))) zt) (zd (qj (zab hr (zf 0) zo) (zj (zp (zo5 (zf 1) zgg (zcm zo)))) zt) (zj (zp (zf 1)))))))))))
 have ua4:Cal P w K mg base 1 "check_place" xr:=(T.udb.cal sc_check_place (fun _ _ _ _ _ _=>ls2 fun _ _=>rfl) (fun f cdv A outer s H E hr=>by as_aux_lemma=>
   have nd:=sc_check_place.nd;exact(zj (qj (zaa (zv8 zo (zf 0) (zf 1))) (zj zb5) zt))))
 have uah:Cal P w K mg base 1 "size" xn:=(T.ugs.cal sc_size (fun _ _ _ _ _ _=>ls1 fun _=>rfl) (fun f cdv A outer s H E hr=>by as_aux_lemma=>
   have nd:=sc_size.nd;exact(zd (qj (zcn (zf 0) q9) (zj (zp zo)) zt) (zj (zp (zu (zf 0) (zx T.udo)))))))
 have uba:Mth P w K mg base 1 "Wood" "numbered" j0:=T.uci.mth sc_Wood_numbered (fun _ _ _ _ _ _=>ls2 fun _ _=>rfl) (fun f cdv A outer s H E hr=>by as_aux_lemma=>
   have nd:=sc_Wood_numbered.nd;exact(zd (zv 2 (ztl T.uam (zf 0)) nd) (zd (zow T.uam (zf 0) (q0 (zf 2) zo)) (zj (zp (q0 (jl (zb (zf 2) ze)) (zf 1)))))))
 have ua7:Cal P w K mg base 1 "check_room" x8:=(T.ud2.cal sc_check_room (fun _ _ _ _ _ _=>ls1 fun _=>rfl) (fun f cdv A outer s H E hr=>by as_aux_lemma=>
   have nd:=sc_check_room.nd;exact(zj (qj (zi7 (zf 0) (zx T.udn)) (zj zb5) zt))))
 have uaf:Cal P w K mg base 1 "height" jd:=(T.uf3.cal sc_height (fun _ _ _ _ _ _=>ls1 fun _=>rfl) (fun f cdv A outer s H E hr=>by as_aux_lemma=>
   have nd:=sc_height.nd;exact(zd (qj (zcn (zf 0) q9) (zj (zp zo)) zt) (zj (zp (zu (zf 0) (zx T.ub0)))))))
 have ubd:Cal P w K mg base 2 "height_above" xa:=(T.ucv.cal sc_height_above (fun _ _ _ _ _ _=>ls2 fun _ _=>rfl) (fun f cdv A outer s H E hr=>by as_aux_lemma=>
   have nd:=sc_height_above.nd;exact(zj (zp (q0 zo (zz3 T.ug5 (zb (zg uaf hr.rmd (zb (zf 0) ze)) (zb (zg uaf hr.rmd (zb (zf 1) ze)) ze))))))))
 have uas:Cal P w K mg base 2 "in_balance" jz:=(T.udx.cal sc_in_balance (fun _ _ _ _ _ _=>ls2 fun _ _=>rfl) (fun f cdv A outer s H E hr=>by as_aux_lemma=>
   have nd:=sc_in_balance.nd;exact(zj (zp (z2s (ztm T.ugb (zb (yk (zg uaf hr.rmd (zb (zf 0) ze)) (zg uaf hr.rmd (zb (zf 1) ze))) ze)) zo)))))
 have ubt:Cal P w K mg base 2 "size_above" x6:=(T.udw.cal sc_size_above (fun _ _ _ _ _ _=>ls2 fun _ _=>rfl) (fun f cdv A outer s H E hr=>by as_aux_lemma=>
   have nd:=sc_size_above.nd;exact(zj (zp (q0 (q0 (zg uah hr.rmd (zb (zf 0) ze)) zo) (zg uah hr.rmd (zb (zf 1) ze)))))))
 have udr:Cal P w K mg base 1 "back" zd8:=(T.ugu.cal sc_back (fun _ _ _ _ _ _=>ls1 fun _=>rfl) (fun f cdv A outer s H E hr=>by as_aux_lemma=>
   have nd:=sc_back.nd;exact(zd (qj (zcn (zf 0) q9) (zj (zp q9)) zt) (zj (zp (zu (zf 0) (zx T.ud8)))))))
 have hlt:∀t g,zhf t=some g->LCal P w K mg base 1 t g:=by
   intro t g e;unfold zhf at e;split at e
   · rename_i hx;cases e;subst hx;exact(z4l T).mono (by decide)
   cases e
 have hft:∀x g,ft x=some g->Cal P w K mg base 1 x g:=by intro x g e;unfold ft at e;cases e
 have ucr:Cal P w K mg base 2 "backward_sum" yr:=(T.uc4.cal sc_backward_sum (fun _ _ _ _ _ _=>ls4 fun _ _ _ _=>rfl) (fun f cdv A outer s H E hr=>by as_aux_lemma=>
   have nd:=sc_backward_sum.nd;exact(zd (zv 4 (zf 2) nd) (zd (qj (zde (zf 3) q9) (zj (zv 4 (zbi hft hlt hr.rmd (zf 0) (zb (zg udr hr.rmd (zb (zf 3) ze)) (zb (zf 4) ze))) nd)) zt) (zd (qj (zde (zf 1) q9) (zj (zv 4 (zbi hft hlt hr.rmd (zf 0) (zb (zf 4) (zb (zg udr hr.rmd (zb (zf 1) ze)) ze))) nd)) zt) (zj (zp (zf 4))))))))
 have ucw:Cal P w K mg base 1 "total" zaj:=(T.ugq.cal sc_total (fun _ _ _ _ _ _=>ls1 fun _=>rfl) (fun f cdv A outer s H E hr=>by as_aux_lemma=>
   have nd:=sc_total.nd;exact(zd (qj (zcn (zf 0) q9) (zj (zp q9)) zt) (zj (zp (zu (zf 0) (zx T.ucs)))))))
 have ud1:Cal P w K mg base 2 "onward_sum" za1:=(T.udu.cal sc_onward_sum (fun _ _ _ _ _ _=>ls4 fun _ _ _ _=>rfl) (fun f cdv A outer s H E hr=>by as_aux_lemma=>
   have nd:=sc_onward_sum.nd;exact(zd (zv 4 (zf 2) nd) (zd (qj (zde (zf 1) q9) (zj (zv 4 (zbi hft hlt hr.rmd (zf 0) (zb (zg ucw hr.rmd (zb (zf 1) ze)) (zb (zf 4) ze))) nd)) zt) (zd (qj (zde (zf 3) q9) (zj (zv 4 (zbi hft hlt hr.rmd (zf 0) (zb (zf 4) (zb (zg ucw hr.rmd (zb (zf 3) ze)) ze))) nd)) zt) (zj (zp (zf 4))))))))
 have ubr:Cal P w K mg base 3 "sums_above" xm:=(T.udy.cal sc_sums_above (fun _ _ _ _ _ _=>ls4 fun _ _ _ _=>rfl) (fun f cdv A outer s H E hr=>by as_aux_lemma=>
   have nd:=sc_sums_above.nd;exact(zd (qj (zcn (zf 0) q9) (zj (zp (jl (zb q9 (zb q9 ze))))) zt) (zj (zp (jl (zb (zg ud1 hr.rmd (zb (zf 0) (zb (zf 1) (zb (zf 2) (zb (zf 3) ze))))) (zb (zg ucr hr.rmd (zb (zf 0) (zb (zf 1) (zb (zf 2) (zb (zf 3) ze))))) ze))))))))
 have uac:Mth P w K mg base 4 "Wood" "node" qi:=T.ueo.mth sc_Wood_node (fun _ _ _ _ _ _=>ls4 fun _ _ _ _=>rfl) (fun f cdv A outer s H E hr=>by as_aux_lemma=>
   have nd:=sc_Wood_node.nd;exact(zd (zv 4 (zg ubt hr.rmd (zb (zf 1) (zb (zf 3) ze))) nd) (zd (yc (zg ua7 hr.rmd (zb (zf 4) ze))) (zd (qj (zaa (xu (zg uas hr.rmd (zb (zf 1) (zb (zf 3) ze))))) (zj zb5) zt) (zd (zv 5 (jl (zb (zf 4) (zb (zg ubd hr.rmd (zb (zf 1) (zb (zf 3) ze))) ze))) nd) (zd (zv 6 (zg ubr hr.rmd (zb (ztl T.ubm (zf 0)) (zb (zf 1) (zb (zf 2) (zb (zf 3) ze))))) nd) (zj (zp (jg uba hr.rmd (zf 0) (zb (q0 (q0 (jl (zb y9 (zb (zf 1) (zb (zf 2) (zb (zf 3) ze))))) (zf 5)) (zf 6)) ze))))))))))
 have uan:Mth P w K mg base 2 "Wood" "turned" qq:=T.uc8.mth sc_Wood_turned (fun _ _ _ _ _ _=>ls2 fun _ _=>rfl) (fun f cdv A outer s H E hr=>by as_aux_lemma=>
   have nd:=sc_Wood_turned.nd;exact(zd (qj (zcn (zf 1) q9) (zj (zp q9)) zt) (zd (zv 2 (jl (zb (zu (zf 1) (zx T.ua3)) (zb (zu (zf 1) (zx T.ua6)) (zb (zu (zf 1) (zx T.uao)) ze)))) nd) (zj (zp (jg uba hr.rmd (zf 0) (zb (q0 (q0 (jl (zb (zo6 (zu (zf 1) (zx T.ubg))) ze)) (zf 2)) (jl (zb (zg uah hr.rmd (zb (zf 1) ze)) (zb (zg uaf hr.rmd (zb (zf 1) ze)) (zb (zg udr hr.rmd (zb (zf 1) ze)) (zb (zg ucw hr.rmd (zb (zf 1) ze)) ze)))))) ze)))))))
 have ual:Cal P w K mg base 3 "parts" xi:=(T.ugk.cal sc_parts (fun _ _ _ _ _ _=>ls2 fun _ _=>rfl) (fun f cdv A outer s H E hr=>by as_aux_lemma=>
   have nd:=sc_parts.nd;exact(zd (qj (zaa (xu (zu (zf 1) (zx T.ubg)))) (zj (zp (jl (zb (zu (zf 1) (zx T.ua3)) (zb (zu (zf 1) (zx T.ua6)) (zb (zu (zf 1) (zx T.uao)) ze)))))) zt) (zd (zv 2 (jg uan hr.rmd (zf 0) (zb (zu (zf 1) (zx T.uao)) ze)) nd) (zd (zv 3 (jg uan hr.rmd (zf 0) (zb (zu (zf 1) (zx T.ua3)) ze)) nd) (zj (zp (jl (zb (zf 2) (zb (zu (zf 1) (zx T.ua6)) (zb (zf 3) ze)))))))))))
 have udh:Cal P w K mg base 5 "lifted_left" zak:=(T.udj.cal sc_lifted_left (fun _ _ _ _ _ _=>ls4 fun _ _ _ _=>rfl) (fun f cdv A outer s H E hr=>by as_aux_lemma=>
   have nd:=sc_lifted_left.nd;exact(zd (zv 4 (zg ual hr.rmd (zb (zf 0) (zb (zf 1) ze))) nd) (zd (qj (z0b (zg uaf hr.rmd (zb (zu (zf 4) (zx T.uaa)) ze)) (zg uaf hr.rmd (zb (zu (zf 4) (zx T.uab)) ze))) (zj (zp (jg uac hr.rmd (zf 0) (zb (zu (zf 4) (zx T.uaa)) (zb (zu (zf 4) (zx T.uad)) (zb (jg uac hr.rmd (zf 0) (zb (zu (zf 4) (zx T.uab)) (zb (zf 2) (zb (zf 3) ze)))) ze)))))) zt) (zd (zv 5 (zg ual hr.rmd (zb (zf 0) (zb (zu (zf 4) (zx T.uab)) ze))) nd) (zd (zv 6 (jg uac hr.rmd (zf 0) (zb (zu (zf 4) (zx T.uaa)) (zb (zu (zf 4) (zx T.uad)) (zb (zu (zf 5) (zx T.uaa)) ze)))) nd) (zd (zv 7 (jg uac hr.rmd (zf 0) (zb (zu (zf 5) (zx T.uab)) (zb (zf 2) (zb (zf 3) ze)))) nd) (zj (zp (jg uac hr.rmd (zf 0) (zb (zf 6) (zb (zu (zf 5) (zx T.uad)) (zb (zf 7) ze)))))))))))))
 have uc5:Cal P w K mg base 5 "lifted_right" yq:=(T.ucu.cal sc_lifted_right (fun _ _ _ _ _ _=>ls4 fun _ _ _ _=>rfl) (fun f cdv A outer s H E hr=>by as_aux_lemma=>
   have nd:=sc_lifted_right.nd;exact(zd (zv 4 (zg ual hr.rmd (zb (zf 0) (zb (zf 3) ze))) nd) (zd (qj (z0b (zg uaf hr.rmd (zb (zu (zf 4) (zx T.uab)) ze)) (zg uaf hr.rmd (zb (zu (zf 4) (zx T.uaa)) ze))) (zj (zp (jg uac hr.rmd (zf 0) (zb (jg uac hr.rmd (zf 0) (zb (zf 1) (zb (zf 2) (zb (zu (zf 4) (zx T.uaa)) ze)))) (zb (zu (zf 4) (zx T.uad)) (zb (zu (zf 4) (zx T.uab)) ze)))))) zt) (zd (zv 5 (zg ual hr.rmd (zb (zf 0) (zb (zu (zf 4) (zx T.uaa)) ze))) nd) (zd (zv 6 (jg uac hr.rmd (zf 0) (zb (zf 1) (zb (zf 2) (zb (zu (zf 5) (zx T.uaa)) ze)))) nd) (zd (zv 7 (jg uac hr.rmd (zf 0) (zb (zu (zf 5) (zx T.uab)) (zb (zu (zf 4) (zx T.uad)) (zb (zu (zf 4) (zx T.uab)) ze)))) nd) (zj (zp (jg uac hr.rmd (zf 0) (zb (zf 6) (zb (zu (zf 5) (zx T.uad)) (zb (zf 7) ze)))))))))))))
 have uat:Cal P w K mg base 6 "balanced" jt:=(T.ue1.cal sc_balanced (fun _ _ _ _ _ _=>ls4 fun _ _ _ _=>rfl) (fun f cdv A outer s H E hr=>by as_aux_lemma=>
   have nd:=sc_balanced.nd;exact(zd (qj (xu (zg uas hr.rmd (zb (zf 1) (zb (zf 3) ze)))) (zj (zp (jg uac hr.rmd (zf 0) (zb (zf 1) (zb (zf 2) (zb (zf 3) ze)))))) zt) (zd (qj (zi7 (zg uaf hr.rmd (zb (zf 1) ze)) (zg uaf hr.rmd (zb (zf 3) ze))) (zj (zp (zg udh hr.rmd (zb (zf 0) (zb (zf 1) (zb (zf 2) (zb (zf 3) ze))))))) zt) (zj (zp (zg uc5 hr.rmd (zb (zf 0) (zb (zf 1) (zb (zf 2) (zb (zf 3) ze)))))))))))
 have ua0:∀n:Nat,Cal P w K mg base (7+n) "joined" (kj n):=fun n=>by
   induction n with
   |zero=>exact T.udt.none0 (ps:=["wood", "left", "thing", "right"]) (fun _ _ _ _ _ _=>ls4 fun _ _ _ _=>rfl)
   | succ n hself=>exact T.udt.cal sc_joined (fun _ _ _ _ _ _=>ls4 fun _ _ _ _=>rfl) (fun f cdv A outer s H E hr0=>by as_aux_lemma=>
     have nd:=sc_joined.nd;have hr:=hr0.mono (z5h 7 n);exact(zd (qj (xu (zg uas hr.rmd (zb (zf 1) (zb (zf 3) ze)))) (zj (zp (jg uac hr.rmd (zf 0) (zb (zf 1) (zb (zf 2) (zb (zf 3) ze)))))) zt) (zd (qj (zi7 (zg uaf hr.rmd (zb (zf 1) ze)) (zg uaf hr.rmd (zb (zf 3) ze))) (zd (zv 4 (zg ual hr.rmd (zb (zf 0) (zb (zf 1) ze))) nd) (zj (zp (zg uat hr.rmd (zb (zf 0) (zb (zu (zf 4) (zx T.uaa)) (zb (zu (zf 4) (zx T.uad)) (zb (zg hself hr0 (zb (zf 0) (zb (zu (zf 4) (zx T.uab)) (zb (zf 2) (zb (zf 3) ze))))) ze)))))))) zt) (zd (zv 4 (zg ual hr.rmd (zb (zf 0) (zb (zf 3) ze))) nd) (zj (zp (zg uat hr.rmd (zb (zf 0) (zb (zg hself hr0 (zb (zf 0) (zb (zf 1) (zb (zf 2) (zb (zu (zf 4) (zx T.uaa)) ze))))) (zb (zu (zf 4) (zx T.uad)) (zb (zu (zf 4) (zx T.uab)) ze)))))))))))
 have ua0:=ua0 40;have ud0:Cal P w K mg base 1 "seen" zhl:=(T.ugt.cal sc_seen (fun _ _ _ _ _ _=>ls2 fun _ _=>rfl) (fun f cdv A outer s H E hr=>by as_aux_lemma=>
   have nd:=sc_seen.nd;exact(zd (qj (zab hr (zu (zf 0) (zx T.ubg)) (zf 1)) (zj (zp (jl (zb (zu (zf 0) (zx T.ua3)) (zb (zu (zf 0) (zx T.ua6)) (zb (zu (zf 0) (zx T.uao)) (zb y9 ze))))))) zt) (zj (zp (jl (zb (zu (zf 0) (zx T.uao)) (zb (zu (zf 0) (zx T.ua6)) (zb (zu (zf 0) (zx T.ua3)) (zb y9 ze))))))))))
 have uau:∀n:Nat,Cal P w K mg base (2+n) "thing_at" (xk n):=fun n=>by
   induction n with
   |zero=>exact T.ucc.none0 (ps:=["make", "turned", "place"]) (fun _ _ _ _ _ _=>ls3 fun _ _ _=>rfl)
   | succ n hself=>exact T.ucc.cal sc_thing_at (fun _ _ _ _ _ _=>ls3 fun _ _ _=>rfl) (fun f cdv A outer s H E hr0=>by as_aux_lemma=>
     have nd:=sc_thing_at.nd;have hr:=hr0.mono (z5h 2 n);exact(zd (zv 3 (zg ud0 hr.rmd (zb (zf 0) (zb (zf 1) ze))) nd) (zd (zv 4 (zg uah hr.rmd (zb (zu (zf 3) (zx T.uaa)) ze)) nd) (zd (qj (zrs (zf 2) (zf 4)) (zj (zp (zg hself hr0 (zb (zu (zf 3) (zx T.uaa)) (zb (zu (zf 3) (zx T.uaz)) (zb (zf 2) ze)))))) zt) (zd (qj (zi7 (zf 2) (zf 4)) (zj (zp (zg hself hr0 (zb (zu (zf 3) (zx T.uab)) (zb (zu (zf 3) (zx T.uaz)) (zb (yk (yk (zf 2) (zf 4)) zo) ze)))))) zt) (zj (zp (zu (zf 3) (zx T.uad)))))))))
 have uau:=uau 40;have ubz:=zcs (P:=P) (w:=w) (base:=base) T uat ual uah ua0 uau 40;have ua9:=zan (P:=P) (w:=w) (base:=base) T ua0 uau ubz;have ugc:Cal P w K mg base 129 "out" zrh:=(T.ug1.cal sc_out (fun _ _ _ _ _ _=>ls3 fun _ _ _=>rfl) (fun f cdv A outer s H E hr=>by as_aux_lemma=>
   have nd:=sc_out.nd;exact(zd (yc (zg ua4 hr.rmd (zb (zf 2) (zb (zg uah hr.rmd (zb (zf 1) ze)) ze)))) (zj (zp (zg ubz hr.rmd (zb (zf 0) (zb (zf 1) (zb (zf 2) ze)))))))))
 have ug7:Cal P w K mg base 43 "at" z2q:=(T.ug8.cal sc_at (fun _ _ _ _ _ _=>ls2 fun _ _=>rfl) (fun f cdv A outer s H E hr=>by as_aux_lemma=>
   have nd:=sc_at.nd;exact(zd (yc (zg ua4 hr.rmd (zb (zf 1) (zb (zg uah hr.rmd (zb (zf 0) ze)) ze)))) (zj (zp (zg uau hr.rmd (zb (zf 0) (zb y9 (zb (zf 1) ze)))))))))
 have hct:∀t g,ztz t=some g->CCal P w K mg base 2 t g:=by
   intro t g e;unfold ztz at e;split at e
   · rename_i hx;cases e;subst hx;exact(z3q T uaj).mono (by decide)
   split at e
   · rename_i hx;cases e;subst hx;exact(z3p T uaj).mono (by decide)
   cases e
 have ua5:Cal P w K mg base 44 "is_alike_at" j5:=(T.uc9.cal sc_is_alike_at (fun _ _ _ _ _ _=>ls4 fun _ _ _ _=>rfl) (fun f cdv A outer s H E hr=>by as_aux_lemma=>
   have nd:=sc_is_alike_at.nd;exact(zj (zp (zcv (zz5 (zf 1) (zg uah hr.rmd (zb (zf 0) ze))) (zec (zo6 (zkz (fun x g e=>(hft x g e).mono (by decide)) (fun t g e=>(hlt t g e).mono (by decide)) hct hr.rmd (zf 3) (zb (zf 2) (zb (zg ug7 hr.rmd (zb (zf 0) (zb (zf 1) ze))) ze))))))))))
 have uax:∀n:Nat,Cal P w K mg base (3+n) "count_before" (x4 n):=fun n=>by
   induction n with
   |zero=>exact T.ubf.none0 (ps:=["make", "turned", "thing", "before"]) (fun _ _ _ _ _ _=>ls4 fun _ _ _ _=>rfl)
   | succ n hself=>exact T.ubf.cal sc_count_before (fun _ _ _ _ _ _=>ls4 fun _ _ _ _=>rfl) (fun f cdv A outer s H E hr0=>by as_aux_lemma=>
     have nd:=sc_count_before.nd;have hr:=hr0.mono (z5h 3 n);exact(zd (qj (zcn (zf 0) q9) (zj (zp zo)) zt) (zd (zv 4 (zg ud0 hr.rmd (zb (zf 0) (zb (zf 1) ze))) nd) (zd (qj (xu (zkz (fun x g e=>(hft x g e).mono (by decide)) (fun t g e=>(hlt t g e).mono (by decide)) hct hr.rmd (zf 3) (zb (zu (zf 4) (zx T.uad)) (zb (zf 2) ze)))) (zj (zp (q0 (q0 (zg uah hr.rmd (zb (zu (zf 4) (zx T.uaa)) ze)) zo) (zg hself hr0 (zb (zu (zf 4) (zx T.uab)) (zb (zu (zf 4) (zx T.uaz)) (zb (zf 2) (zb (zf 3) ze)))))))) zt) (zj (zp (zg hself hr0 (zb (zu (zf 4) (zx T.uaa)) (zb (zu (zf 4) (zx T.uaz)) (zb (zf 2) (zb (zf 3) ze)))))))))))
 have uax:=uax 40;have ubj:Cal P w K mg base 44 "place_of" ko:=(T.uey.cal sc_place_of (fun _ _ _ _ _ _=>ls3 fun _ _ _=>rfl) (fun f cdv A outer s H E hr=>by as_aux_lemma=>
   have nd:=sc_place_of.nd;exact(zj (zp (zg uax hr.rmd (zb (zf 0) (zb y9 (zb (zf 1) (zb (zf 2) ze)))))))))
 have ub9:Cal P w K mg base 45 "place_of_alike" jq:=(T.ua8.cal sc_place_of_alike (fun _ _ _ _ _ _=>ls3 fun _ _ _=>rfl) (fun f cdv A outer s H E hr=>by as_aux_lemma=>
   have nd:=sc_place_of_alike.nd;exact(zd (zv 3 (zg ubj hr.rmd (zb (zf 0) (zb (zf 1) (zb (zf 2) ze)))) nd) (zd (qj (zaa (xu (zg ua5 hr.rmd (zb (zf 0) (zb (zf 3) (zb (zf 1) (zb (zf 2) ze))))))) (zj zb5) zt) (zj (zp (zf 3)))))))
 have ja:RCal P w K mg base 45 "place_of_alike" ja:=T.ua8.rcal sc_place_of_alike (fun _ _ _ _ _ _=>ls3 fun _ _ _=>rfl) (fun f cdv A outer s H E hr=>by as_aux_lemma=>
   have nd:=sc_place_of_alike.nd;exact(zqn (zv 3 (zg ubj hr.rmd (zb (zf 0) (zb (zf 1) (zb (zf 2) ze)))) nd) (zxs (zaa (xu (zg ua5 hr.rmd (zb (zf 0) (zb (zf 3) (zb (zf 1) (zb (zf 2) ze))))))) (zj2 (zqo T.ufa (zb zo4 ze))) zqm)))
 have uc7:Cal P w K mg base 130 "dropped" za3:=(T.uc6.cal sc_dropped (fun _ _ _ _ _ _=>ls4 fun _ _ _ _=>rfl) (fun f cdv A outer s H E hr=>by as_aux_lemma=>
   have nd:=sc_dropped.nd;exact(zj (zp (zg ugc hr.rmd (zb (zf 0) (zb (zf 1) (zb (zg ub9 hr.rmd (zb (zf 1) (zb (zf 2) (zb (zf 3) ze)))) ze))))))))
 have y7:RCal P w K mg base 130 "dropped" y7:=T.uc6.rcal sc_dropped (fun _ _ _ _ _ _=>ls4 fun _ _ _ _=>rfl) (fun f cdv A outer s H E hr=>by as_aux_lemma=>
   have nd:=sc_dropped.nd;exact(zj2 (zxt (zqu ugc (zno (zf 0) (zno (zf 1) (zuw (znm ja hr.rmd (zb (zf 1) (zb (zf 2) (zb (zf 3) ze)))))))))))
 have ucz:Cal P w K mg base 131 "_law_refusal" yu:=(T.uct.cal sc__law_refusal (fun _ _ _ _ _ _=>ls4 fun _ _ _ _=>rfl) (fun f cdv A outer s H E hr=>by as_aux_lemma=>
   have nd:=sc__law_refusal.nd;exact(zd (zv 4 (zcu ze) nd) (zd (zzy 5 (fun _=>(zj (yc (zg uc7 hr.rmd (zb (zf 0) (zb (zf 1) (zb (zf 2) (zb (zf 3) ze)))))))) (fun _=>(zql (zuv (znm y7 hr.rmd (zb (zf 0) (zb (zf 1) (zb (zf 2) (zb (zf 3) ze)))))))) (fun _ _=>(zd (zv 6 (zo8 T.up T.uag (zb (zf 5) (zb (jl (zb (zed T.ufd) (zb (zed T.ueq) (zb (zed T.uf8) (zb (zed T.ufz) (zb (zed T.uet) (zb (zed T.ufm) (zb (zed T.ugf) (zb (zed T.ugp) (zb (zed T.ugl) (zb (zed T.ufq) ze))))))))))) ze))) nd) (zj (zv 4 (zcu (zb (zo8 T.up T.uag (zb (zf 5) (zb (zed T.ufc) ze))) (zb (zo8 T.up T.uag (zb (zf 5) (zb (zhn "ValueError" T.udv F.boot_ValueError) ze))) (zb (zf 6) ze)))) nd)))) nd T.up.cat) (zj (zp (zf 4))))))).frz
 have ub4:∀n:Nat,Cal P w K mg base (7+n) "put_in" (zc9 n):=fun n=>by
   induction n with
   |zero=>exact T.ud5.none0 (ps:=["wood", "make", "place", "thing"]) (fun _ _ _ _ _ _=>ls4 fun _ _ _ _=>rfl)
   | succ n hself=>exact T.ud5.cal sc_put_in (fun _ _ _ _ _ _=>ls4 fun _ _ _ _=>rfl) (fun f cdv A outer s H E hr0=>by as_aux_lemma=>
     have nd:=sc_put_in.nd;have hr:=hr0.mono (z5h 7 n);exact(zd (qj (zcn (zf 1) q9) (zj (zp (jg uac hr.rmd (zf 0) (zb q9 (zb (zf 3) (zb q9 ze)))))) zt) (zd (zv 4 (zg ual hr.rmd (zb (zf 0) (zb (zf 1) ze))) nd) (zd (zv 5 (zg uah hr.rmd (zb (zu (zf 4) (zx T.uaa)) ze)) nd) (zd (qj (z0a (zf 2) (zf 5)) (zj (zp (zg uat hr.rmd (zb (zf 0) (zb (zg hself hr0 (zb (zf 0) (zb (zu (zf 4) (zx T.uaa)) (zb (zf 2) (zb (zf 3) ze))))) (zb (zu (zf 4) (zx T.uad)) (zb (zu (zf 4) (zx T.uab)) ze))))))) zt) (zj (zp (zg uat hr.rmd (zb (zf 0) (zb (zu (zf 4) (zx T.uaa)) (zb (zu (zf 4) (zx T.uad)) (zb (zg hself hr0 (zb (zf 0) (zb (zu (zf 4) (zx T.uab)) (zb (yk (yk (zf 2) (zf 5)) zo) (zb (zf 3) ze))))) ze))))))))))))
 have ub4:=ub4 40;have ug3:Cal P w K mg base 48 "put" zvy:=(T.ug6.cal sc_put (fun _ _ _ _ _ _=>ls4 fun _ _ _ _=>rfl) (fun f cdv A outer s H E hr=>by as_aux_lemma=>
   have nd:=sc_put.nd;exact(zd (yc (zg ua4 hr.rmd (zb (zf 2) (zb (q0 (zg uah hr.rmd (zb (zf 1) ze)) zo) ze)))) (zd (yc (zg ua7 hr.rmd (zb (q0 (zg uah hr.rmd (zb (zf 1) ze)) zo) ze))) (zj (zp (zg ub4 hr.rmd (zb (zf 0) (zb (zf 1) (zb (zf 2) (zb (zf 3) ze)))))))))))
 have ues:Cal P w K mg base 49 "added" zd9:=(T.ugo.cal sc_added (fun _ _ _ _ _ _=>ls4 fun _ _ _ _=>rfl) (fun f cdv A outer s H E hr=>by as_aux_lemma=>
   have nd:=sc_added.nd;exact(zd (zv 4 (zg ubj hr.rmd (zb (zf 1) (zb (zf 2) (zb (zf 3) ze)))) nd) (zd (qj (xu (zg ua5 hr.rmd (zb (zf 1) (zb (zf 4) (zb (zf 2) (zb (zf 3) ze)))))) (zj (zp (zf 1))) zt) (zj (zp (zg ug3 hr.rmd (zb (zf 0) (zb (zf 1) (zb (zf 4) (zb (zf 2) ze)))))))))))
 have ubc:Cal P w K mg base 132 "_law_done" yb:=(T.uee.calA sc__law_done (fun _ _ _ _ _ _=>ls6 fun _ _ _ _ _ _=>rfl) (fun f cdv co A outer s H E hr=>by as_aux_lemma=>
   have nd:=sc__law_done.nd;apply Exists.intro;exact(zd (zv 6 (zo7 0 co T.blt rfl) nd) (zd (zv 7 (by exact zv6 (zb8 (x:="_law_one") (N':=["_law_kind", "_law_thing_here"]) (fr:=[4,3]) (by decide +kernel) rfl rfl rfl rfl rfl) (zqf (zf 2)) (fun _ _ _ _=>.one (zab hr (zg uaj hr.rmd (zb (zf 1) (zb (zf 0) ze))) (zg uaj hr.rmd (zb (zf 1) (zb (zf 2) ze))))) (fun _ _ _ _=>(zf 0))) nd) (zd (qj (zv7 (zku (xu (zf 5)) (zgf (zab hr (zf 7) (zcu ze))))) (zd (qj (zhp hr (by exact(zdd ucz (CapsOk.mk rfl rfl (z52.mpr ⟨rfl,(fun _ h=>nomatch h)⟩) (by decide +kernel) rfl (z52.mpr ⟨rfl,(fun _ h=>nomatch h)⟩) (fun _ _=>rfl)) hr.rmd (xc (zf 0) (xc (zf 1) (xc (zf 3) (zdf (zf 6))))))) (zcu (zb y9 (zb y9 (zb y9 ze))))) (zj (zp q9)) zt) (zj (zp (jl (zb (zf 1) (zb (zf 2) ze)))))) zt) (zd (qj (xu (zf 5)) (zj (zp (jl (zb (by exact(zdd uc7 (CapsOk.mk rfl rfl (z52.mpr ⟨rfl,(fun _ h=>nomatch h)⟩) (by decide +kernel) rfl (z52.mpr ⟨rfl,(fun _ h=>nomatch h)⟩) (fun _ _=>rfl)) hr.rmd (xc (zf 0) (xc (zf 1) (xc (zf 3) (zdf (zf 6))))))) (zb (by exact zv6 (zb8 (x:="_law_one") (N':=["_law_alike"]) (fr:=[7]) (by decide +kernel) rfl rfl rfl rfl rfl) (zqf (zf 2)) (fun _ _ _ _=>.one (zhp hr (zf 0) (zu (zf 1) zo))) (fun _ _ _ _=>(zf 0))) ze))))) zt) (zd (qj (zhp hr (zf 7) (zcu ze)) (zd (zv 8 (by exact(zdd ues (CapsOk.mk rfl rfl (z52.mpr ⟨rfl,(fun _ h=>nomatch h)⟩) (by decide +kernel) rfl (z52.mpr ⟨rfl,(fun _ h=>nomatch h)⟩) (fun _ _=>rfl)) hr.rmd (xc (zf 0) (xc (zf 1) (xc (zf 3) (zdf (zf 6))))))) nd) (zd (qj (zhp hr (zf 8) (zf 1)) (zj (zp q9)) zt) (zj (zp (jl (zb (zf 8) (zb (zf 2) ze))))))) zt) (zd (by exact z2r 9 (t:=lt_1) (zb8 (x:="_law_one") (N':=["_law_before", "_law_thing_here"]) (fr:=[6,3]) (by decide +kernel) rfl rfl rfl rfl rfl) (zqf (zf 2)) (CapsOk.mk rfl rfl (z52.mpr ⟨rfl,(fun _ h=>nomatch h)⟩) (by decide +kernel) rfl (z52.mpr ⟨rfl,(fun _ h=>nomatch h)⟩) (fun _ _=>rfl)) (fun kv _ _ _ _ fc=>.one (xu (zrr (z3p T uaj) fc hr.rmd (zf 1) (zb (zf 0) (zb (zf 2) ze))))) (fun _ _ _ _=>(zf 0)) nd) (zj (zp (jl (zb (by exact(zdd ues (CapsOk.mk rfl rfl (z52.mpr ⟨rfl,(fun _ h=>nomatch h)⟩) (by decide +kernel) rfl (z52.mpr ⟨rfl,(fun _ h=>nomatch h)⟩) (fun _ _=>rfl)) hr.rmd (xc (zf 0) (xc (zf 1) (xc (zf 3) (zdf (zf 6))))))) (zb (q0 (q0 (zf 9) (zcu (zb (zf 3) ze))) (zdc (zf 2) (zcm (za4 T.uar (zb (zf 9) ze))) zgg)) ze)))))))))))))
 have ucx:∀n:Nat,Cal P w K mg base (5+n) "built" (zge n):=fun n=>by
   induction n with
   |zero=>exact T.uer.none0 (ps:=["wood", "things", "start", "end"]) (fun _ _ _ _ _ _=>ls4 fun _ _ _ _=>rfl)
   | succ n hself=>exact T.uer.cal sc_built (fun _ _ _ _ _ _=>ls4 fun _ _ _ _=>rfl) (fun f cdv A outer s H E hr0=>by as_aux_lemma=>
     have nd:=sc_built.nd;have hr:=hr0.mono (z5h 5 n);exact(zd (qj (zab hr (zf 2) (zf 3)) (zj (zp q9)) zt) (zd (zv 4 (zee (q0 (zf 2) (zf 3)) zo) nd) (zd (zv 5 (zg hself hr0 (zb (zf 0) (zb (zf 1) (zb (zf 2) (zb (zf 4) ze))))) nd) (zd (zv 6 (zg hself hr0 (zb (zf 0) (zb (zf 1) (zb (q0 (zf 4) zo) (zb (zf 3) ze))))) nd) (zj (zp (jg uac hr.rmd (zf 0) (zb (zf 5) (zb (zu (zf 1) (zf 4)) (zb (zf 6) ze)))))))))))
 have ucx:=ucx 40;have ubp:Cal P w K mg base 46 "make_of" za2:=(T.ufl.cal sc_make_of (fun _ _ _ _ _ _=>ls2 fun _ _=>rfl) (fun f cdv A outer s H E hr=>by as_aux_lemma=>
   have nd:=sc_make_of.nd;exact(zd (yc (zg ua7 hr.rmd (zb (za4 T.uar (zb (zf 1) ze)) ze))) (zj (zp (zg ucx hr.rmd (zb (zf 0) (zb (zf 1) (zb zo (zb (za4 T.uar (zb (zf 1) ze)) ze))))))))))
 have ucf:Cal P w K mg base 2 "check_stretch" k9:=(T.ucj.cal sc_check_stretch (fun _ _ _ _ _ _=>ls3 fun _ _ _=>rfl) (fun f cdv A outer s H E hr=>by as_aux_lemma=>
   have nd:=sc_check_stretch.nd;exact(zj (qj (zaa (zo9 zo (zf 1) (zf 2) (zg uah hr.rmd (zb (zf 0) ze)))) (zj zb5) zt))))
 have ua2:∀n:Nat,Cal P w K mg base (48+n) "cut_ahead" (kz n):=fun n=>by
   induction n with
   |zero=>exact T.ubx.none0 (ps:=["wood", "make", "place"]) (fun _ _ _ _ _ _=>ls3 fun _ _ _=>rfl)
   | succ n hself=>exact T.ubx.cal sc_cut_ahead (fun _ _ _ _ _ _=>ls3 fun _ _ _=>rfl) (fun f cdv A outer s H E hr0=>by as_aux_lemma=>
     have nd:=sc_cut_ahead.nd;have hr:=hr0.mono (z5h 48 n);exact(zd (qj (zab hr (zf 2) zo) (zj (zp (jl (zb q9 (zb (zf 1) ze))))) zt) (zd (qj (zab hr (zf 2) (zg uah hr.rmd (zb (zf 1) ze))) (zj (zp (jl (zb (zf 1) (zb q9 ze))))) zt) (zd (zv 3 (zg ual hr.rmd (zb (zf 0) (zb (zf 1) ze))) nd) (zd (zv 4 (zg uah hr.rmd (zb (zu (zf 3) (zx T.uaa)) ze)) nd) (zd (qj (z0a (zf 2) (zf 4)) (zd (zv 5 (zg hself hr0 (zb (zf 0) (zb (zu (zf 3) (zx T.uaa)) (zb (zf 2) ze)))) nd) (zj (zp (jl (zb (zu (zf 5) zo) (zb (zg ua0 hr.rmd (zb (zf 0) (zb (zu (zf 5) zo) (zb (zu (zf 3) (zx T.uad)) (zb (zu (zf 3) (zx T.uab)) ze))))) ze)))))) zt) (zd (zv 5 (zg hself hr0 (zb (zf 0) (zb (zu (zf 3) (zx T.uab)) (zb (yk (yk (zf 2) (zf 4)) zo) ze)))) nd) (zj (zp (jl (zb (zg ua0 hr.rmd (zb (zf 0) (zb (zu (zf 3) (zx T.uaa)) (zb (zu (zf 3) (zx T.uad)) (zb (zu (zf 5) zo) ze))))) (zb (zu (zf 5) zo) ze))))))))))))
 have ua2:=ua2 40;have udc:Cal P w K mg base 130 "turned_part" zai:=(T.udf.cal sc_turned_part (fun _ _ _ _ _ _=>ls4 fun _ _ _ _=>rfl) (fun f cdv A outer s H E hr=>by as_aux_lemma=>
   have nd:=sc_turned_part.nd;exact(zd (yc (zg ucf hr.rmd (zb (zf 1) (zb (zf 2) (zb (zf 3) ze))))) (zd (zv 4 (zg ua2 hr.rmd (zb (zf 0) (zb (zf 1) (zb (zf 3) ze)))) nd) (zd (zv 5 (zg ua2 hr.rmd (zb (zf 0) (zb (zu (zf 4) zo) (zb (zf 2) ze)))) nd) (zd (zv 6 (zg ua9 hr.rmd (zb (zf 0) (zb (zu (zf 5) zo) (zb (jg uan hr.rmd (zf 0) (zb (zu (zf 5) zo) ze)) ze)))) nd) (zj (zp (zg ua9 hr.rmd (zb (zf 0) (zb (zf 6) (zb (zu (zf 4) zo) ze))))))))))))
 have ubh:Cal P w K mg base 131 "_law_set" y8:=(T.uew.cal sc__law_set (fun _ _ _ _ _ _=>ls3 fun _ _ _=>rfl) (fun f cdv A outer s H E hr=>by as_aux_lemma=>
   have nd:=sc__law_set.nd;exact(zd (zv 3 (j7 (zg uae hr.rmd (zb (zf 0) (zb zo ze))) zo) nd) (zd (qj (zab hr (zf 3) zo) (zj (zp (zg ubp hr.rmd (zb (zf 1) (zb (zrp T.ubs (zb (zf 2) ze)) ze))))) zt) (zd (qj (zab hr (zf 3) zo) (zj (zp (jg uan hr.rmd (zf 1) (zb (zg ubp hr.rmd (zb (zf 1) (zb (zfh T.ubs T.uca (zf 2)) ze))) ze)))) zt) (zd (zv 4 (j7 (zg uae hr.rmd (zb (zf 0) (zb zo ze))) (q0 (za4 T.uar (zb (zf 2) ze)) zo)) nd) (zd (zv 5 (q0 (zf 4) (j7 (zg uae hr.rmd (zb (zf 0) (zb zo ze))) (yk (q0 (za4 T.uar (zb (zf 2) ze)) zo) (zf 4)))) nd) (zd (zv 6 (zfh T.ubs T.uca (zdc (zf 2) (zcm (zf 4)) (zcm (zf 5)))) nd) (zj (zp (zg udc hr.rmd (zb (zf 1) (zb (zg ubp hr.rmd (zb (zf 1) (zb (q0 (q0 (zdc (zf 2) zgg (zcm (zf 4))) (zf 6)) (zdc (zf 2) (zcm (zf 5)) zgg)) ze))) (zb (zf 4) (zb (zf 5) ze)))))))))))))))
 have uav:Cal P w K mg base 1 "_law_thing" ji:=(T.udz.cal sc__law_thing (fun _ _ _ _ _ _=>ls2 fun _ _=>rfl) (fun f cdv A outer s H E hr=>by as_aux_lemma=>
   have nd:=sc__law_thing.nd;exact(zd (qj (zv7 (zku (zrs (zf 0) zo) (zgf (zab hr (j7 (zf 1) zo) zo)))) (zj (zp (yk (q0 (j7 (zct (q0 (zf 1) zo) (zkv zo zo)) (yk (zct zo (zkv zo zo)) zo)) zo) (zkv zo zo)))) zt) (zd (qj (zrs (zf 0) zo) (zj (zp (yk (j7 (zee (zf 1) zo) zo) zo))) zt) (zd (zv 2 zo4 nd) (zd (zi4 3 nd T.uc2 (q0 zo (j7 (zf 1) zo)) (zj (zv 2 (q0 (zf 2) (zu zo4 (j7 (zee (zf 1) (zu (jl (zb zo (zb zo (zb zo (zb zo (zb zo (zb zo (zb zo (zb zo ze))))))))) (zf 3))) zo))) nd)) z94) (zj (zp (zf 2)))))))))
 have ubb:Cal P w K mg base 5 "_law_some" ya:=(T.ueb.calL sc__law_some (fun _ _ _ _ _ _=>ls4 fun _ _ _ _=>rfl) (fun f cdv co A outer s H E hr=>by as_aux_lemma=>
   have nd:=sc__law_some.nd;exact(zd (zv 4 (zi6 ze) nd) (zd (zi4 5 nd T.uc2 (zf 3) (zd (zv 6 (zg uav hr.rmd (zb (zf 1) (zb (zg uae hr.rmd (zb (zf 0) (zb (q0 (zf 2) (zf 5)) ze))) ze))) nd) (zj (qj (zab hr (by exact zv6 (zb8 (x:="_law_one") (N':=["_law_kind", "_law_thing_here"]) (fr:=[1,6]) (by decide +kernel) rfl rfl rfl rfl rfl) (zqf (zf 4)) (fun _ _ _ _=>.one (zab hr (zg uaj hr.rmd (zb (zf 1) (zb (zf 0) ze))) (zg uaj hr.rmd (zb (zf 1) (zb (zf 2) ze))))) (fun _ _ _ _=>(zf 0))) (zcu ze)) (zj (zea (zf 4) (zf 6))) zt))) z94) (zj (zp (zro (z3q T uaj) (CapsOk.mk rfl rfl (z52.mpr ⟨rfl,(fun _ h=>nomatch h)⟩) (by decide +kernel) rfl (z52.mpr ⟨rfl,(fun _ h=>nomatch h)⟩) (fun _ _=>rfl)) hr.rmd (zf 4) (zyl 1 co T.blt rfl) T.ufu))))))).frz
 have ubi:Cal P w K mg base 1 "is_whole" zbh:=(T.uex.cal sc_is_whole (fun _ _ _ _ _ _=>ls1 fun _=>rfl) (fun f cdv A outer s H E hr=>by as_aux_lemma=>
   have nd:=sc_is_whole.nd;exact(zj (zp (zcv (zkx T.uag (zb (zf 0) (zb (zhn "int" T.ug4 F.boot_int) ze))) (zec (zo6 (zkx T.uag (zb (zf 0) (zb (zhn "bool" T.ufp F.boot_bool) ze))))))))))
 have ue7:Cal P w K mg base 2 "has_form" zcl:=(T.ue4.cal sc_has_form (fun _ _ _ _ _ _=>ls1 fun _=>rfl) (fun f cdv A outer s H E hr=>by as_aux_lemma=>
   have nd:=sc_has_form.nd;exact(zd (qj (zv7 (zvz (zaa (xu (zkx T.uag (zb (zf 0) (zb (zhn "tuple" T.ugm F.boot_tuple) ze))))) (zov (zhp hr (za4 T.uar (zb (zf 0) ze)) (zx T.ubq))))) (zj (zp y9)) zt) (zd (qj (zaa (xu (zkx T.uag (zb (zu (zf 0) (zx T.ubg)) (zb (zhn "bool" T.ufp F.boot_bool) ze))))) (zj (zp y9)) zt) (zj (zp (zcv (zg ubi hr.rmd (zb (zu (zf 0) (zx T.ufs)) ze)) (zcv (zg ubi hr.rmd (zb (zu (zf 0) (zx T.udo)) ze)) (zec (zg ubi hr.rmd (zb (zu (zf 0) (zx T.ub0)) ze)))))))))))
 have ubk:Cal P w K mg base 3 "has_right_measures" je:=(T.ubl.cal sc_has_right_measures (fun _ _ _ _ _ _=>ls1 fun _=>rfl) (fun f cdv A outer s H E hr=>by as_aux_lemma=>
   have nd:=sc_has_right_measures.nd;exact(zd (zv 1 (zu (zf 0) (zx T.ua3)) nd) (zd (zv 2 (zu (zf 0) (zx T.uao)) nd) (zd (qj (zaa (xu (zg uas hr.rmd (zb (zf 1) (zb (zf 2) ze))))) (zj (zp y9)) zt) (zj (zp (zcv (zl8 hr (zu (zf 0) (zx T.udo)) (zg ubt hr.rmd (zb (zf 1) (zb (zf 2) ze)))) (zec (zl8 hr (zu (zf 0) (zx T.ub0)) (zg ubd hr.rmd (zb (zf 1) (zb (zf 2) ze)))))))))))))
 have ub5:Cal P w K mg base 4 "has_right_sums" jr:=(T.ub8.cal sc_has_right_sums (fun _ _ _ _ _ _=>ls2 fun _ _=>rfl) (fun f cdv A outer s H E hr=>by as_aux_lemma=>
   have nd:=sc_has_right_sums.nd;exact(zd (zv 2 (zg ubr hr.rmd (zb (zf 1) (zb (zu (zf 0) (zx T.ua3)) (zb (zu (zf 0) (zx T.ua6)) (zb (zu (zf 0) (zx T.uao)) ze))))) nd) (zd (qj (xu (zu (zf 0) (zx T.ubg))) (zj (zp (zcv (zl8 hr (zu (zf 0) (zx T.ucs)) (zu (zf 2) zo)) (zec (zl8 hr (zu (zf 0) (zx T.ud8)) (zu (zf 2) zo)))))) zt) (zj (zp (zcv (zl8 hr (zu (zf 0) (zx T.ucs)) (zu (zf 2) zo)) (zec (zl8 hr (zu (zf 0) (zx T.ud8)) (zu (zf 2) zo))))))))))
 have uaw:∀n:Nat,Cal P w K mg base (5+n) "is_right" (xy n):=fun n=>by
   induction n with
   |zero=>exact T.uch.none1 (ps:=["make", "add"]) (fun _ _ _ _ _ _ _=>ls2 fun _ _=>⟨_,rfl,rfl⟩)
   | succ n hself=>exact T.uch.cal1 sc_is_right (fun _ _ _ _ _ _ _=>ls2 fun _ _=>⟨_,rfl,rfl⟩) (fun f cdv A outer s H E hr0=>by as_aux_lemma=>
     have nd:=sc_is_right.nd;have hr:=hr0.mono (z5h 5 n);exact(zd (qj (zcn (zf 0) q9) (zj (zp y9)) zt) (zd (qj (zaa (xu (zg ue7 hr.rmd (zb (zf 0) ze)))) (zj (zp y9)) zt) (zd (qj (zv7 (zvz (zaa (xu (zg hself hr0 (zb (zu (zf 0) (zx T.ua3)) (zb (zf 1) ze))))) (zov (zaa (xu (zg hself hr0 (zb (zu (zf 0) (zx T.uao)) (zb (zf 1) ze)))))))) (zj (zp y9)) zt) (zj (zp (zcv (zg ubk hr.rmd (zb (zf 0) ze)) (zec (zg ub5 hr.rmd (zb (zf 0) (zb (zf 1) ze)))))))))))
 have uaw:=uaw 40;have ub3:∀n:Nat,Cal P w K mg base (2+n) "gather" (zda n):=fun n=>by
   induction n with
   |zero=>exact T.udp.none0 (ps:=["make", "turned", "found"]) (fun _ _ _ _ _ _=>ls3 fun _ _ _=>rfl)
   | succ n hself=>exact T.udp.cal sc_gather (fun _ _ _ _ _ _=>ls3 fun _ _ _=>rfl) (fun f cdv A outer s H E hr0=>by as_aux_lemma=>
     have nd:=sc_gather.nd;have hr:=hr0.mono (z5h 2 n);exact(zd (qj (zcn (zf 0) q9) (zj zv0) zt) (zd (zv 3 (zg ud0 hr.rmd (zb (zf 0) (zb (zf 1) ze))) nd) (zd (yc (zg hself hr0 (zb (zu (zf 3) (zx T.uaa)) (zb (zu (zf 3) (zx T.uaz)) (zb (zf 2) ze))))) (zd (zea (zf 2) (zu (zf 3) (zx T.uad))) (zj (yc (zg hself hr0 (zb (zu (zf 3) (zx T.uab)) (zb (zu (zf 3) (zx T.uaz)) (zb (zf 2) ze)))))))))))
 have ub3:=ub3 40;have ua1:Cal P w K mg base 43 "things_of" jy:=(T.uef.cal sc_things_of (fun _ _ _ _ _ _=>ls1 fun _=>rfl) (fun f cdv A outer s H E hr=>by as_aux_lemma=>
   have nd:=sc_things_of.nd;exact(zd (zv 1 (zi6 ze) nd) (zd (yc (zg ub3 hr.rmd (zb (zf 0) (zb y9 (zb (zf 1) ze))))) (zj (zp (zf 1))))))).frz
 exact⟨T,⟨uap,uae,ubc,ubh,ubb,uav,uaw,ua1⟩⟩
end Pg
open PySem PySem.W L2 F PySem.Spec PyProof.Rows
namespace PySem.W.Fast
def tw7171611966230972105:=()
def tw14202639967791757813:=()
def tw13644275563480276842:=()
def tw4104538202966059993:=()
def tw1731650551479944459:=()
def tw5386688748208958992:=()
def tw14672653024852872054:=()
def tw14630131489213598259:=()
def tw12774999249962734649:=()
def tw777797793357570144:=()
def tw15698354586150198224:=()
def tw15743823313761435805:=()
def tw9262939019686152467:=()
def tw10887882828407033243:=()
def tw7871759907101083077:=()
def tw4344268095606809604:=()
def tw14640769172575343507:=()
def tw6226839042679709129:=()
def tw16450749203161261531:=()
def tw4642150818479942029:=()
def tw15240104153591300886:=()
def tw5008600591668307552:=()
def tw6492159161779107638:=()
def tw1028533159305604775:=()
def tw11393651113125175342:=()
def tw13994279911578998788:=()
def tw3521372027205813027:=()
def tw11691277804297061323:=()
def tw12670477963426740512:=()
def tw16701703073022001743:=()
def tw4607725433898964517:=()
def tw17284888459028314373:=()
def tw14074675202556582234:=()
def tw12108856048858530135:=()
def tw14583441156089705794:=()
def tw15754586801730579966:=()
def tw7392704789168648940:=()
def tw15690630825140928747:=()
def tw8897441250917727683:=()
def tw11646890796595648013:=()
def tw13746239372337216606:=()
def tw5466791602772208749:=()
def tw1794371690990003691:=()
def tw16392705700302412428:=()
def tw16484509957375966697:=()
def tw2347235105154264616:=()
def tw3874187777405189223:=()
def tw7270479758648371673:=()
def tw13909393167690136958:=()
def tw12913413177747918908:=()
def tw14576250627015143696:=()
def tw12043324666754647403:=()
def tw4195683372978070319:=()
def tw7188275184557714037:=()
def tw15128474842519160545:=()
def tw15927649069849329079:=()
def tw13297026222469391298:=()
def tw7046559845035355051:=()
def tw9041552176483073504:=()
def tw6018893614467916931:=()
def tw17290565105186286738:=()
def tw3637735671327164468:=()
def tw17011030000570831830:=()
def tw12240898324333551081:=()
def tw9183767794269771554:=()
def tw6807039837086564356:=()
def tw15326322775841733251:=()
def tw11976552082244838878:=()
def tw8073834648650458980:=()
def tw16984447008518555648:=()
def tw11114205063219806105:=()
def tw1648952872780951255:=()
def tw15036952202565191217:=()
def tw15658094128999239467:=()
def tw1005572461097052833:=()
def tw5040239358247518129:=()
def tw3211465557524299892:=()
def tw3014726883254776972:=()
def tw4010523879205118269:=()
def tw8443386239114283005:=()
def tw1732069716049234510:=()
def tw15445435324764966565:=()
def tw8202716883994556328:=()
def tw16637991517505142961:=()
def tw6480006217998015442:=()
def tw5277124744944219639:=()
def tw16817636763277327186:=()
def tw10541669374800072783:=()
def tw8304928135104839270:=()
def tw9388733890559455424:=()
def tw4396939217968383522:=()
def tw14063632470052535677:=()
def tw17038025316143553048:=()
def tw4036915290831232883:=()
def tw12691086363535925864:=()
def tw17761871682955582543:=()
def tw15859619175885365467:=()
def tw2214220138594636903:=()
def tw821764443319236024:=()
def tw5470918952515349961:=()
def tw4408930984503503154:=()
def tw14847631948347423106:=()
def tw18369688092179995273:=()
def tw1576784799448249984:=()
def tw11123555763025741666:=()
def tw1479415997683994206:=()
def tw7095033511067672164:=()
def tw11025662355171692896:=()
def tw7747866358606223282:=()
def tw17395911857112887742:=()
def tw9036542390720645631:=()
def tw265525783891349689:=()
def tw11716320207729217686:=()
def tw12317694623887256737:=()
def tw16797253451261406553:=()
def tw7411801314953401643:=()
def tw7614793588023648281:=()
def tw3526811971541159365:=()
def tw1954508717391678186:=()
def tw15024447438985107150:=()
def tw12574043744405125207:=()
def tw6467289186898566528:=()
def tw9126149322170746537:=()
def tw139381356213269531:=()
def tw13284765810672176266:=()
def tw2991210053954119399:=()
def tw9067597468798269286:=()
def tw9039231547922568229:=()
def tw13620534486494353087:=()
def tw3869083658399395491:=()
def tw14783618162658728030:=()
def tw12604222907375996217:=()
def tw15146876486537844025:=()
def tw4814943495504108244:=()
def tw14804830632648157184:=()
def tw6494296627059840801:=()
def tw7158077978644209936:=()
def tw15311376785818289423:=()
def tw6182759858969686779:=()
def tw18202567663747954236:=()
def tw10611522630320239566:=()
def tw7638504563751694700:=()
def tw14538636582083742229:=()
def tw3592853495356239377:=()
def tw1977309624800095563:=()
def tw14998674548971157233:=()
def tw15587864551874006450:=()
def tw14299583050499225328:=()
def tw17171995491639892483:=()
def tw4255168427264549343:=()
def tw16628532732393488362:=()
def tw2200337009431429401:=()
def tw3023829990272853408:=()
def tw17829852105075539792:=()
def tw8945219073633783392:=()
def tw2576384428015367183:=()
def tw12065009275785835743:=()
def tw2731557670811368928:=()
def tw17264918836373883116:=()
def tw17293119820510468225:=()
def tw2122880195718487988:=()
def tw16572698737949482743:=()
def tw17093867868986022320:=()
def tw11738463221311863710:=()
def tw8639906482970769156:=()
def tw14373935363317168945:=()
def tw8186650927901750208:=()
def tw7586468392283989530:=()
def tw3486757747277233428:=()
def tw9247565244265998789:=()
def tw8481025773343768656:=()
def tw14711590868667314704:=()
def tw4736036975721137233:=()
def tw3178604964449713024:=()
def tw8768806031305008298:=()
def tw15877679052502087645:=()
def tw8118131673727434606:=()
def tw2958909967554493929:=()
def tw2840582679575753346:=()
def tw944593782153727525:=()
def tw8023052028274015127:=()
def tw18402968436563239252:=()
def tw16978103400404916821:=()
def tw4036458182727759640:=()
def tw2156882330512387049:=()
def tw17115725565256790429:=()
def tw363813783923634376:=()
def tw16609867751976565310:=()
def tw1432616024187787718:=()
def tw9033785349255180416:=()
def tw3863486526612321561:=()
def tw7653409206150230108:=()
def tw6127388601496514977:=()
def tw10398340824747303075:=()
def tw2638858188591360125:=()
def tw13799617781863596225:=()
def tw14420650874703622147:=()
def tw8932503476066958401:=()
def tw14508800726229233435:=()
def tw17331005736082680526:=()
def tw15359284342270565469:=()
def tw6167478630983890390:=()
def tw9358589979879008439:=()
def tw14899911760424684799:=()
def tw3037296095467619872:=()
def tw17019944657345824099:=()
def tw1161826653521760647:=()
def tw17148083513894027561:=()
def tw10970457541597750271:=()
def tw4788410632343659239:=()
def tw17738153083595917897:=()
def tw11392129108252273335:=()
def tw11161615751107470057:=()
def tw5270712439498002281:=()
def tw13890895553978825000:=()
def tw5531222573222931779:=()
def tw14452240241916751223:=()
def tw16962916313418228346:=()
def tw446752872189637818:=()
def tw7647622040507804291:=()
def tw12118902582426728233:=()
def tw1730722073804631656:=()
def tw18098265127675305624:=()
def tw13311508168857642706:=()
def tw4925656666079843915:=()
def tw6637558014136638916:=()
def tw14122522809650887640:=()
def tw4529572337086153431:=()
def tw12344449764723723950:=()
def tw2182986551849945653:=()
def tw4207760996647160092:=()
def tw15102026433573564120:=()
def tw1736064174154978356:=()
def tw3781053727537513208:=()
def tw10788040203493366829:=()
def tw646015211248645616:=()
def tw16046954584555286034:=()
def tw1771272498849983808:=()
def tw825868320469447289:=()
def tw10837501018404930423:=()
def tw8686161388020882447:=()
def tw834926548283534374:=()
def tw16126942448366836265:=()
def tw14106385203357936982:=()
def tw14123136651551896918:=()
def tw9909146974605397515:=()
def tw7671421005322019887:=()
def tw15079062849680231048:=()
def tw5051493723904531125:=()
def tw11897992517902238550:=()
def tw4802779278938816970:=()
def tw8904970815040184559:=()
def tw1414299242475101980:=()
def tw9058395320702165476:=()
def tw17409426500620440942:=()
def tw10210322829773023266:=()
def tw4161031942492576081:=()
def tw5809713326228720036:=()
def tw7213630662712816823:=()
def tw16540306074383426925:=()
def tw6166179291822814836:=()
def tw16896481686397596321:=()
def tw16018016724522417601:=()
def tw10136723918082275361:=()
def tw1885829877871269577:=()
def tw9175249227958089274:=()
def tw8991577385209705158:=()
def tw10872367766594276514:=()
def tw7115429061476901267:=()
def tw18278280133187942022:=()
def tw9902408536666587424:=()
def tw17296732789971950069:=()
def tw8490784102046207544:=()
def tw3368667022887269295:=()
def tw11938470078504429016:=()
def tw4144188328531582251:=()
def tw18288030567074118900:=()
def tw10002571295825662953:=()
def tw36780669016194836:=()
def tw16216749057314553035:=()
def tw17336064578925678926:=()
def tw14014397382139377526:=()
def tw12082786232071113056:=()
def tw2608887381276590250:=()
def tw16831472083184842083:=()
def tw4230171121533338837:=()
def tw10095457912605010095:=()
def tw4235770165270522991:=()
def tw1517880990883881775:=()
def tw13401688736487121941:=()
def tw17033578845618844436:=()
def tw10885096085387627618:=()
def tw11045208326142286724:=()
def tw10417456225585828049:=()
def tw13672956212070269140:=()
def tw11389648553236577262:=()
def tw13470540763073324376:=()
def tw14620048402638428768:=()
def tw2829881864059281666:=()
def tw10938685572609465258:=()
def tw18169341785581731919:=()
def tw1198676010089062498:=()
def tw14555038998303773020:=()
def tw12177395223093173127:=()
def tw16807950161662591106:=()
def tw16453101583870376840:=()
def tw6419715601559390003:=()
def tw6313075051852089179:=()
def tw9185492663666459111:=()
def tw12034943745847177632:=()
def tw15759288032252416371:=()
def tw15319051569283361132:=()
def tw17339648516207318046:=()
def tw7431099576747081309:=()
def tw2523170277727926561:=()
def tw5141763963948202504:=()
def tw15608911948051746453:=()
def tw12266248004248075270:=()
def tw6428494825687609134:=()
def tw4166468214930546558:=()
def tw2356261660566097002:=()
def tw2585076982195526828:=()
def tw1934295556192580665:=()
def tw11788274822731205816:=()
def tw14189731508758200128:=()
def tw7464843168428808758:=()
def tw7639738520041112214:=()
def tw15560240837017926489:=()
def tw1124952189473791576:=()
def tw14149317078551176365:=()
def tw3386291282555290181:=()
def tw12115514942716892642:=()
def tw12265617357647681825:=()
def tw18407743987062142873:=()
def tw15704340998106416368:=()
def tw14607950728569351725:=()
def tw3412795344721561076:=()
def tw10456075436759016998:=()
def tw15916570625019237166:=()
def tw13269961874235602419:=()
def tw8023248551634413617:=()
def tw14029024201745588334:=()
def tw17031877029134125687:=()
def tw407317772397951144:=()
def tw16814224008817031117:=()
def tw5824669065626979155:=()
def tw6212626705552820225:=()
def tw4862210590680588804:=()
def tw1722012769931961768:=()
def tw9038745657773989299:=()
def tw11708643839502736277:=()
def tw1504254218121703796:=()
def tw11284593411943475126:=()
def tw1704564970110194927:=()
def tw7773811089225496987:=()
def tw9717502905806505447:=()
def tw9033016916478190933:=()
def tw16152579963913701032:=()
end PySem.W.Fast
set_option maxRecDepth 100000 in
set_option maxHeartbeats 0 in
theorem PySem.Challenge.cw_ownshelf_k21_added_and_dropped_holds : PySem.Challenge.rw_ownshelf_k21_added_and_dropped.Holds := by
 w_on;o_law;k_head;(case hw=>w_witness2)
 k_fill
 refine F.law_walkT (l:=PySem.Challenge.rw_ownshelf_k21_added_and_dropped) (k:=133) (g:=Pg.g_law) (x:="_law_script") Pg.tabs rfl rfl ⟨rfl,by decide,by decide⟩ (by decide) (by decide) rfl Pg.law_ok ?F
 case F=>
   intro w mg fa h KX G hmg;have udl:mg "ValueError"=none:=by refine' z6g KX G ?a_7;k_is
   have ugx:mg "abs"=none:=by refine' z6g KX G ?a_8;k_is
   have ugd:mg "bool"=none:=by refine' z6g KX G ?a_9;k_is
   have ugv:mg "int"=none:=by refine' z6g KX G ?a_10;k_is
   have udd:mg "isinstance"=none:=by refine' z6g KX G ?a_11;k_is
   have ug0:mg "len"=none:=by refine' z6g KX G ?a_12;k_is
   have ugg:mg "list"=none:=by refine' z6g KX G ?a_13;k_is
   have ugw:mg "max"=none:=by refine' z6g KX G ?a_14;k_is
   have ufv:mg "range"=none:=by refine' z6g KX G ?a_15;k_is
   have uep:mg "reversed"=none:=by refine' z6g KX G ?a_16;k_is
   have ue9:mg "sorted"=none:=by refine' z6g KX G ?a_17;k_is
   have uft:mg "tuple"=none:=by refine' z6g KX G ?a_18;k_is
   have ufx:∃t,mg "ABOUT"=some (.int 1 t):=by refine' F.has_int KX G ?a_19;(case a_19=>k_is)
   have uf2:∃t,mg "AHEAD"=some (.int 0 t):=by refine' F.has_int KX G ?a_20;(case a_20=>k_is)
   have ugh:∃t,mg "BACK"=some (.int 8 t):=by refine' F.has_int KX G ?a_21;(case a_21=>k_is)
   have ue8:∃t,mg "BEHIND"=some (.int 2 t):=by refine' F.has_int KX G ?a_22;(case a_22=>k_is)
   have ufn:∃t,mg "HEIGHT"=some (.int 6 t):=by refine' F.has_int KX G ?a_23;(case a_23=>k_is)
   have uge:∃t,mg "LEFT"=some (.int 2 t):=by refine' F.has_int KX G ?a_24;(case a_24=>k_is)
   have ufr:∃t,mg "MIDDLE"=some (.int 1 t):=by refine' F.has_int KX G ?a_25;(case a_25=>k_is)
   have uc1:∃t,mg "MOST_THINGS"=some (.int 2000 t):=by refine' F.has_int KX G ?a_26;(case a_26=>k_is)
   have ufe:∃t,mg "NUMBER"=some (.int 0 t):=by refine' F.has_int KX G ?a_27;(case a_27=>k_is)
   have uf7:∃t,mg "RIGHT"=some (.int 4 t):=by refine' F.has_int KX G ?a_28;(case a_28=>k_is)
   have ugj:∃t,mg "SIZE"=some (.int 5 t):=by refine' F.has_int KX G ?a_29;(case a_29=>k_is)
   have uf4:∃t,mg "THING"=some (.int 3 t):=by refine' F.has_int KX G ?a_30;(case a_30=>k_is)
   have uf1:∃t,mg "TOTAL"=some (.int 7 t):=by refine' F.has_int KX G ?a_31;(case a_31=>k_is)
   have ufg:∃t,mg "TURNED"=some (.int 3 t):=by refine' F.has_int KX G ?a_32;(case a_32=>k_is)
   have ubn:∃t,mg "VALUES_OF_A_NODE"=some (.int 9 t):=by refine' F.has_int KX G ?a_33;(case a_33=>k_is)
   have uez:∃f,mg "Changed"=some (.ref f):=by refine' F.has_val KX G ?a_34;(case a_34=>k_is)
   have ud9:∃f,mg "NoBalance"=some (.ref f):=by refine' F.has_val KX G ?a_35;(case a_35=>k_is)
   have ufo:∃f,mg "NoMore"=some (.ref f):=by refine' F.has_val KX G ?a_36;(case a_36=>k_is)
   have ufh:∃f,mg "NoName"=some (.ref f):=by refine' F.has_val KX G ?a_37;(case a_37=>k_is)
   have uem:∃f,mg "NoNumber"=some (.ref f):=by refine' F.has_val KX G ?a_38;(case a_38=>k_is)
   have ueu:∃f,mg "NoPlace"=some (.ref f):=by refine' F.has_val KX G ?a_39;(case a_39=>k_is)
   have ufw:∃f,mg "NoRow"=some (.ref f):=by refine' F.has_val KX G ?a_40;(case a_40=>k_is)
   have uf5:∃f,mg "NoSum"=some (.ref f):=by refine' F.has_val KX G ?a_41;(case a_41=>k_is)
   have uev:∃f,mg "NoThing"=some (.ref f):=by refine' F.has_val KX G ?a_42;(case a_42=>k_is)
   have uga:∃f,mg "NoWay"=some (.ref f):=by refine' F.has_val KX G ?a_43;(case a_43=>k_is)
   have ue2:∃f,mg "TooMany"=some (.ref f):=by refine' F.has_val KX G ?a_44;(case a_44=>k_is)
   have ue0:F.ExcCls (L2.KOf KX) mg "NoThing":=by refine' F.has_exc KX G ?a_45 ?q_45;(case a_45=>k_is);(case q_45=>k_exc)
   have he_NoThing:F.ExcI (L2.KOf KX) mg "NoThing":=by refine' F.has_ei KX G ?a_46 ?h1_46 ?h2_46 ?h3_46 ?h4_46 ?h5_46 ?h6_46 ?h7_46 ?h8_46 ?h9_46;(case a_46=>k_is);(case h1_46=>k_is);(case h2_46=>k_is);(case h3_46=>k_is);(case h4_46=>k_is);(case h5_46=>k_is);(case h6_46=>k_is);(case h7_46=>k_is);(case h8_46=>k_is);(case h9_46=>kit_is)
   have hc_NoThing:F.Cat (L2.KOf KX) mg "NoThing" "ShelfError":=by refine' F.has_cat KX G ?a_47 ?b_47 ?h1_47 ?h2_47 ?h3_47 ?h4_47;(case a_47=>k_is);(case b_47=>k_is);(case h1_47=>k_is);(case h2_47=>k_is);(case h3_47=>k_is);(case h4_47=>k_is)
   have hq_NoThing_Changed:F.IsF (L2.KOf KX) mg "NoThing" "Changed" false:=by refine' F.has_is KX G ?a_48 ?b_48 ?q_48;(case a_48=>k_is);(case b_48=>k_is);(case q_48=>kit_is)
   have hq_NoThing_NoBalance:F.IsF (L2.KOf KX) mg "NoThing" "NoBalance" false:=by refine' F.has_is KX G ?a_49 ?b_49 ?q_49;(case a_49=>k_is);(case b_49=>k_is);(case q_49=>kit_is)
   have hq_NoThing_NoMore:F.IsF (L2.KOf KX) mg "NoThing" "NoMore" false:=by refine' F.has_is KX G ?a_50 ?b_50 ?q_50;(case a_50=>k_is);(case b_50=>k_is);(case q_50=>kit_is)
   have hq_NoThing_NoName:F.IsF (L2.KOf KX) mg "NoThing" "NoName" false:=by refine' F.has_is KX G ?a_51 ?b_51 ?q_51;(case a_51=>k_is);(case b_51=>k_is);(case q_51=>kit_is)
   have hq_NoThing_NoNumber:F.IsF (L2.KOf KX) mg "NoThing" "NoNumber" false:=by refine' F.has_is KX G ?a_52 ?b_52 ?q_52;(case a_52=>k_is);(case b_52=>k_is);(case q_52=>kit_is)
   have hq_NoThing_NoPlace:F.IsF (L2.KOf KX) mg "NoThing" "NoPlace" false:=by refine' F.has_is KX G ?a_53 ?b_53 ?q_53;(case a_53=>k_is);(case b_53=>k_is);(case q_53=>kit_is)
   have hq_NoThing_NoRow:F.IsF (L2.KOf KX) mg "NoThing" "NoRow" false:=by refine' F.has_is KX G ?a_54 ?b_54 ?q_54;(case a_54=>k_is);(case b_54=>k_is);(case q_54=>kit_is)
   have hq_NoThing_NoSum:F.IsF (L2.KOf KX) mg "NoThing" "NoSum" false:=by refine' F.has_is KX G ?a_55 ?b_55 ?q_55;(case a_55=>k_is);(case b_55=>k_is);(case q_55=>kit_is)
   have hq_NoThing_NoThing:F.IsF (L2.KOf KX) mg "NoThing" "NoThing" true:=by refine' F.has_is KX G ?a_56 ?b_56 ?q_56;(case a_56=>k_is);(case b_56=>k_is);(case q_56=>kit_is)
   have hq_NoThing_NoWay:F.IsF (L2.KOf KX) mg "NoThing" "NoWay" false:=by refine' F.has_is KX G ?a_57 ?b_57 ?q_57;(case a_57=>k_is);(case b_57=>k_is);(case q_57=>kit_is)
   have hq_NoThing_TooMany:F.IsF (L2.KOf KX) mg "NoThing" "TooMany" false:=by refine' F.has_is KX G ?a_58 ?b_58 ?q_58;(case a_58=>k_is);(case b_58=>k_is);(case q_58=>kit_is)
   have hup:F.UpOk (L2.KOf KX) mg Pg.up:=⟨(F.all_cons (hc_NoThing) F.all_nil),(F.all_cons (he_NoThing) F.all_nil),(F.all_cons ((F.all_cons (F.is_of hq_NoThing_Changed) (F.all_cons (F.is_of hq_NoThing_NoBalance) (F.all_cons (F.is_of hq_NoThing_NoMore) (F.all_cons (F.is_of hq_NoThing_NoName) (F.all_cons (F.is_of hq_NoThing_NoNumber) (F.all_cons (F.is_of hq_NoThing_NoPlace) (F.all_cons (F.is_of hq_NoThing_NoRow) (F.all_cons (F.is_of hq_NoThing_NoSum) (F.all_cons (F.is_of hq_NoThing_NoThing) (F.all_cons (F.is_of hq_NoThing_NoWay) (F.all_cons (F.is_of hq_NoThing_TooMany) F.all_nil)))))))))))) F.all_nil)⟩
   have ucq:F.Fld (L2.KOf KX) mg "Wood" "adding":=by refine' F.has_fld KX G ?aC_60 (F.has_cls KX G ?aC_60 ?pg_60 ?hd_60 ?po_60 ?sa_60) ?n_60;(case aC_60=>k_is);(case pg_60=>k_is);(case hd_60=>k_is);(case po_60=>k_is);(case sa_60=>k_is);(case n_60=>k_is)
   have ubo:F.Fld (L2.KOf KX) mg "Wood" "nodes_made":=by refine' F.has_fld KX G ?aC_61 (F.has_cls KX G ?aC_61 ?pg_61 ?hd_61 ?po_61 ?sa_61) ?n_61;(case aC_61=>k_is);(case pg_61=>k_is);(case hd_61=>k_is);(case po_61=>k_is);(case sa_61=>k_is);(case n_61=>k_is)
   have ub1:F.HasMk (L2.KOf KX) mg "Wood" "Wood.__init__" Pg.s_Wood___init__ 1:=by refine' F.has_mk1 KX G ?aC_62 ?mk_62 ?kc_62 ?a_62 ?i_62 ?l_62 ?c_62 ?k_62 ?t_62;(case aC_62=>k_is);(case mk_62=>k_is);(case kc_62=>k_is);(case a_62=>k_is);(case i_62=>k_is);(case l_62=>k_is);(case c_62=>k_is);(case k_62=>k_is);(case t_62=>k_is)
   have udq:F.HasDef (L2.KOf KX) mg "_law_cell" Pg.s__law_cell 0:=by refine' F.has_def KX G ?a_63 ?l_63 ?c_63 ?k_63;(case a_63=>k_is);(case l_63=>k_is);(case c_63=>k_is);(case k_63=>k_is)
   have uek:F.HasDef (L2.KOf KX) mg "_law_key" Pg.s__law_key 0:=by refine' F.has_def KX G ?a_64 ?l_64 ?c_64 ?k_64;(case a_64=>k_is);(case l_64=>k_is);(case c_64=>k_is);(case k_64=>k_is)
   have ucp:F.HasDef (L2.KOf KX) mg "check_place" Pg.s_check_place 0:=by refine' F.has_def KX G ?a_65 ?l_65 ?c_65 ?k_65;(case a_65=>k_is);(case l_65=>k_is);(case c_65=>k_is);(case k_65=>k_is)
   have ugr:F.HasDef (L2.KOf KX) mg "size" Pg.s_size 0:=by refine' F.has_def KX G ?a_66 ?l_66 ?c_66 ?k_66;(case a_66=>k_is);(case l_66=>k_is);(case c_66=>k_is);(case k_66=>k_is)
   have ub2:F.HasMth (L2.KOf KX) mg "Wood" "numbered" "Wood.numbered" Pg.s_Wood_numbered:=by refine' F.has_mth KX G ?aC_67 (F.has_cls KX G ?aC_67 ?pg_67 ?hd_67 ?po_67 ?sa_67) ?a_67 ?i_67 ?l_67 ?c_67 ?k_67;(case aC_67=>k_is);(case pg_67=>k_is);(case hd_67=>k_is);(case po_67=>k_is);(case sa_67=>k_is);(case a_67=>k_is);(case i_67=>k_is);(case l_67=>k_is);(case c_67=>k_is);(case k_67=>k_is)
   have udm:F.HasDef (L2.KOf KX) mg "check_room" Pg.s_check_room 0:=by refine' F.has_def KX G ?a_68 ?l_68 ?c_68 ?k_68;(case a_68=>k_is);(case l_68=>k_is);(case c_68=>k_is);(case k_68=>k_is)
   have ufb:F.HasDef (L2.KOf KX) mg "height" Pg.s_height 0:=by refine' F.has_def KX G ?a_69 ?l_69 ?c_69 ?k_69;(case a_69=>k_is);(case l_69=>k_is);(case c_69=>k_is);(case k_69=>k_is)
   have ucm:F.HasDef (L2.KOf KX) mg "height_above" Pg.s_height_above 0:=by refine' F.has_def KX G ?a_70 ?l_70 ?c_70 ?k_70;(case a_70=>k_is);(case l_70=>k_is);(case c_70=>k_is);(case k_70=>k_is)
   have ude:F.HasDef (L2.KOf KX) mg "in_balance" Pg.s_in_balance 0:=by refine' F.has_def KX G ?a_71 ?l_71 ?c_71 ?k_71;(case a_71=>k_is);(case l_71=>k_is);(case c_71=>k_is);(case k_71=>k_is)
   have udi:F.HasDef (L2.KOf KX) mg "size_above" Pg.s_size_above 0:=by refine' F.has_def KX G ?a_72 ?l_72 ?c_72 ?k_72;(case a_72=>k_is);(case l_72=>k_is);(case c_72=>k_is);(case k_72=>k_is)
   have ugi:F.HasDef (L2.KOf KX) mg "back" Pg.s_back 0:=by refine' F.has_def KX G ?a_73 ?l_73 ?c_73 ?k_73;(case a_73=>k_is);(case l_73=>k_is);(case c_73=>k_is);(case k_73=>k_is)
   have ucb:F.HasDef (L2.KOf KX) mg "backward_sum" Pg.s_backward_sum 0:=by refine' F.has_def KX G ?a_74 ?l_74 ?c_74 ?k_74;(case a_74=>k_is);(case l_74=>k_is);(case c_74=>k_is);(case k_74=>k_is)
   have uf0:F.HasDef (L2.KOf KX) mg "total" Pg.s_total 0:=by refine' F.has_def KX G ?a_75 ?l_75 ?c_75 ?k_75;(case a_75=>k_is);(case l_75=>k_is);(case c_75=>k_is);(case k_75=>k_is)
   have udg:F.HasDef (L2.KOf KX) mg "onward_sum" Pg.s_onward_sum 0:=by refine' F.has_def KX G ?a_76 ?l_76 ?c_76 ?k_76;(case a_76=>k_is);(case l_76=>k_is);(case c_76=>k_is);(case k_76=>k_is)
   have uda:F.HasDef (L2.KOf KX) mg "sums_above" Pg.s_sums_above 0:=by refine' F.has_def KX G ?a_77 ?l_77 ?c_77 ?k_77;(case a_77=>k_is);(case l_77=>k_is);(case c_77=>k_is);(case k_77=>k_is)
   have ud3:F.HasMth (L2.KOf KX) mg "Wood" "node" "Wood.node" Pg.s_Wood_node:=by refine' F.has_mth KX G ?aC_78 (F.has_cls KX G ?aC_78 ?pg_78 ?hd_78 ?po_78 ?sa_78) ?a_78 ?i_78 ?l_78 ?c_78 ?k_78;(case aC_78=>k_is);(case pg_78=>k_is);(case hd_78=>k_is);(case po_78=>k_is);(case sa_78=>k_is);(case a_78=>k_is);(case i_78=>k_is);(case l_78=>k_is);(case c_78=>k_is);(case k_78=>k_is)
   have ucy:F.HasMth (L2.KOf KX) mg "Wood" "turned" "Wood.turned" Pg.s_Wood_turned:=by refine' F.has_mth KX G ?aC_79 (F.has_cls KX G ?aC_79 ?pg_79 ?hd_79 ?po_79 ?sa_79) ?a_79 ?i_79 ?l_79 ?c_79 ?k_79;(case aC_79=>k_is);(case pg_79=>k_is);(case hd_79=>k_is);(case po_79=>k_is);(case sa_79=>k_is);(case a_79=>k_is);(case i_79=>k_is);(case l_79=>k_is);(case c_79=>k_is);(case k_79=>k_is)
   have ufy:F.HasDef (L2.KOf KX) mg "parts" Pg.s_parts 0:=by refine' F.has_def KX G ?a_80 ?l_80 ?c_80 ?k_80;(case a_80=>k_is);(case l_80=>k_is);(case c_80=>k_is);(case k_80=>k_is)
   have uc3:F.HasDef (L2.KOf KX) mg "lifted_left" Pg.s_lifted_left 0:=by refine' F.has_def KX G ?a_81 ?l_81 ?c_81 ?k_81;(case a_81=>k_is);(case l_81=>k_is);(case c_81=>k_is);(case k_81=>k_is)
   have uce:F.HasDef (L2.KOf KX) mg "lifted_right" Pg.s_lifted_right 0:=by refine' F.has_def KX G ?a_82 ?l_82 ?c_82 ?k_82;(case a_82=>k_is);(case l_82=>k_is);(case c_82=>k_is);(case k_82=>k_is)
   have uen:F.HasDef (L2.KOf KX) mg "balanced" Pg.s_balanced 0:=by refine' F.has_def KX G ?a_83 ?l_83 ?c_83 ?k_83;(case a_83=>k_is);(case l_83=>k_is);(case c_83=>k_is);(case k_83=>k_is)
   have ufj:F.HasDef (L2.KOf KX) mg "joined" Pg.s_joined 0:=by refine' F.has_def KX G ?a_84 ?l_84 ?c_84 ?k_84;(case a_84=>k_is);(case l_84=>k_is);(case c_84=>k_is);(case k_84=>k_is)
   have ugn:F.HasDef (L2.KOf KX) mg "seen" Pg.s_seen 0:=by refine' F.has_def KX G ?a_85 ?l_85 ?c_85 ?k_85;(case a_85=>k_is);(case l_85=>k_is);(case c_85=>k_is);(case k_85=>k_is)
   have ued:F.HasDef (L2.KOf KX) mg "thing_at" Pg.s_thing_at 0:=by refine' F.has_def KX G ?a_86 ?l_86 ?c_86 ?k_86;(case a_86=>k_is);(case l_86=>k_is);(case c_86=>k_is);(case k_86=>k_is)
   have ub7:F.HasDef (L2.KOf KX) mg "laid_together" Pg.s_laid_together 0:=by refine' F.has_def KX G ?a_87 ?l_87 ?c_87 ?k_87;(case a_87=>k_is);(case l_87=>k_is);(case c_87=>k_is);(case k_87=>k_is)
   have uea:F.HasDef (L2.KOf KX) mg "taken_out" Pg.s_taken_out 0:=by refine' F.has_def KX G ?a_88 ?l_88 ?c_88 ?k_88;(case a_88=>k_is);(case l_88=>k_is);(case c_88=>k_is);(case k_88=>k_is)
   have ugz:F.HasDef (L2.KOf KX) mg "out" Pg.s_out 0:=by refine' F.has_def KX G ?a_89 ?l_89 ?c_89 ?k_89;(case a_89=>k_is);(case l_89=>k_is);(case c_89=>k_is);(case k_89=>k_is)
   have ug2:F.HasDef (L2.KOf KX) mg "at" Pg.s_at 0:=by refine' F.has_def KX G ?a_90 ?l_90 ?c_90 ?k_90;(case a_90=>k_is);(case l_90=>k_is);(case c_90=>k_is);(case k_90=>k_is)
   have uco:F.HasDef (L2.KOf KX) mg "is_alike_at" Pg.s_is_alike_at 0:=by refine' F.has_def KX G ?a_91 ?l_91 ?c_91 ?k_91;(case a_91=>k_is);(case l_91=>k_is);(case c_91=>k_is);(case k_91=>k_is)
   have ucn:F.HasDef (L2.KOf KX) mg "count_before" Pg.s_count_before 0:=by refine' F.has_def KX G ?a_92 ?l_92 ?c_92 ?k_92;(case a_92=>k_is);(case l_92=>k_is);(case c_92=>k_is);(case k_92=>k_is)
   have ueg:F.HasDef (L2.KOf KX) mg "place_of" Pg.s_place_of 0:=by refine' F.has_def KX G ?a_93 ?l_93 ?c_93 ?k_93;(case a_93=>k_is);(case l_93=>k_is);(case c_93=>k_is);(case k_93=>k_is)
   have ubv:F.HasDef (L2.KOf KX) mg "place_of_alike" Pg.s_place_of_alike 0:=by refine' F.has_def KX G ?a_94 ?l_94 ?c_94 ?k_94;(case a_94=>k_is);(case l_94=>k_is);(case c_94=>k_is);(case k_94=>k_is)
   have ue6:F.HasDef (L2.KOf KX) mg "dropped" Pg.s_dropped 0:=by refine' F.has_def KX G ?a_95 ?l_95 ?c_95 ?k_95;(case a_95=>k_is);(case l_95=>k_is);(case c_95=>k_is);(case k_95=>k_is)
   have ucl:F.HasDef (L2.KOf KX) mg "_law_refusal" Pg.s__law_refusal 0:=by refine' F.has_def KX G ?a_96 ?l_96 ?c_96 ?k_96;(case a_96=>k_is);(case l_96=>k_is);(case c_96=>k_is);(case k_96=>k_is)
   have uff:F.HasDef (L2.KOf KX) mg "put_in" Pg.s_put_in 0:=by refine' F.has_def KX G ?a_97 ?l_97 ?c_97 ?k_97;(case a_97=>k_is);(case l_97=>k_is);(case c_97=>k_is);(case k_97=>k_is)
   have ugy:F.HasDef (L2.KOf KX) mg "put" Pg.s_put 0:=by refine' F.has_def KX G ?a_98 ?l_98 ?c_98 ?k_98;(case a_98=>k_is);(case l_98=>k_is);(case c_98=>k_is);(case k_98=>k_is)
   have uf9:F.HasDef (L2.KOf KX) mg "added" Pg.s_added 0:=by refine' F.has_def KX G ?a_99 ?l_99 ?c_99 ?k_99;(case a_99=>k_is);(case l_99=>k_is);(case c_99=>k_is);(case k_99=>k_is)
   have ud4:F.HasDef (L2.KOf KX) mg "_law_done" Pg.s__law_done 0:=by refine' F.has_def KX G ?a_100 ?l_100 ?c_100 ?k_100;(case a_100=>k_is);(case l_100=>k_is);(case c_100=>k_is);(case k_100=>k_is)
   have uf6:F.HasDef (L2.KOf KX) mg "built" Pg.s_built 0:=by refine' F.has_def KX G ?a_101 ?l_101 ?c_101 ?k_101;(case a_101=>k_is);(case l_101=>k_is);(case c_101=>k_is);(case k_101=>k_is)
   have ue5:F.HasDef (L2.KOf KX) mg "make_of" Pg.s_make_of 0:=by refine' F.has_def KX G ?a_102 ?l_102 ?c_102 ?k_102;(case a_102=>k_is);(case l_102=>k_is);(case c_102=>k_is);(case k_102=>k_is)
   have ub6:F.HasDef (L2.KOf KX) mg "check_stretch" Pg.s_check_stretch 0:=by refine' F.has_def KX G ?a_103 ?l_103 ?c_103 ?k_103;(case a_103=>k_is);(case l_103=>k_is);(case c_103=>k_is);(case k_103=>k_is)
   have ud6:F.HasDef (L2.KOf KX) mg "cut_ahead" Pg.s_cut_ahead 0:=by refine' F.has_def KX G ?a_104 ?l_104 ?c_104 ?k_104;(case a_104=>k_is);(case l_104=>k_is);(case c_104=>k_is);(case k_104=>k_is)
   have uc0:F.HasDef (L2.KOf KX) mg "turned_part" Pg.s_turned_part 0:=by refine' F.has_def KX G ?a_105 ?l_105 ?c_105 ?k_105;(case a_105=>k_is);(case l_105=>k_is);(case c_105=>k_is);(case k_105=>k_is)
   have uec:F.HasDef (L2.KOf KX) mg "_law_set" Pg.s__law_set 0:=by refine' F.has_def KX G ?a_106 ?l_106 ?c_106 ?k_106;(case a_106=>k_is);(case l_106=>k_is);(case c_106=>k_is);(case k_106=>k_is)
   have udk:F.HasDef (L2.KOf KX) mg "_law_thing" Pg.s__law_thing 0:=by refine' F.has_def KX G ?a_107 ?l_107 ?c_107 ?k_107;(case a_107=>k_is);(case l_107=>k_is);(case c_107=>k_is);(case k_107=>k_is)
   have ud7:F.HasDef (L2.KOf KX) mg "_law_some" Pg.s__law_some 0:=by refine' F.has_def KX G ?a_108 ?l_108 ?c_108 ?k_108;(case a_108=>k_is);(case l_108=>k_is);(case c_108=>k_is);(case k_108=>k_is)
   have uel:F.HasDef (L2.KOf KX) mg "is_whole" Pg.s_is_whole 0:=by refine' F.has_def KX G ?a_109 ?l_109 ?c_109 ?k_109;(case a_109=>k_is);(case l_109=>k_is);(case c_109=>k_is);(case k_109=>k_is)
   have uei:F.HasDef (L2.KOf KX) mg "has_form" Pg.s_has_form 0:=by refine' F.has_def KX G ?a_110 ?l_110 ?c_110 ?k_110;(case a_110=>k_is);(case l_110=>k_is);(case c_110=>k_is);(case k_110=>k_is)
   have ube:F.HasDef (L2.KOf KX) mg "has_right_measures" Pg.s_has_right_measures 0:=by refine' F.has_def KX G ?a_111 ?l_111 ?c_111 ?k_111;(case a_111=>k_is);(case l_111=>k_is);(case c_111=>k_is);(case k_111=>k_is)
   have ubw:F.HasDef (L2.KOf KX) mg "has_right_sums" Pg.s_has_right_sums 0:=by refine' F.has_def KX G ?a_112 ?l_112 ?c_112 ?k_112;(case a_112=>k_is);(case l_112=>k_is);(case c_112=>k_is);(case k_112=>k_is)
   have ueh:F.HasDef (L2.KOf KX) mg "is_right" Pg.s_is_right 1:=by refine' F.has_def1 KX G ?a_113 ?l_113 ?c_113 ?k_113 ?t_113;(case a_113=>k_is);(case l_113=>k_is);(case c_113=>k_is);(case k_113=>k_is);(case t_113=>k_is)
   have ufk:F.HasDef (L2.KOf KX) mg "gather" Pg.s_gather 0:=by refine' F.has_def KX G ?a_114 ?l_114 ?c_114 ?k_114;(case a_114=>k_is);(case l_114=>k_is);(case c_114=>k_is);(case k_114=>k_is)
   have uds:F.HasDef (L2.KOf KX) mg "things_of" Pg.s_things_of 0:=by refine' F.has_def KX G ?a_115 ?l_115 ?c_115 ?k_115;(case a_115=>k_is);(case l_115=>k_is);(case c_115=>k_is);(case k_115=>k_is)
   have ufi:F.HasDef (L2.KOf KX) mg "law" Pg.s_law 0:=by refine' F.has_def KX G ?a_116 ?l_116 ?c_116 ?k_116;(case a_116=>k_is);(case l_116=>k_is);(case c_116=>k_is);(case k_116=>k_is)
   obtain⟨fa',fd,hm,hb,hF⟩:=Pg.law_all (P:=(PySem.Challenge.rw_ownshelf_k21_added_and_dropped).prog) (w:=w) (fun base hB=>⟨udl,ugx,ugd,ugv,udd,ug0,ugg,ugw,ufv,uep,ue9,uft,ufx,uf2,ugh,ue8,ufn,uge,ufr,uc1,ufe,uf7,ugj,uf4,uf1,ufg,ubn,ucq,ubo,uez,ud9,ufo,ufh,uem,ueu,ufw,uf5,uev,uga,ue2,ue0,hup,hB,ub1,udq,uek,ucp,ugr,ub2,udm,ufb,ucm,ude,udi,ugi,ucb,uf0,udg,uda,ud3,ucy,ufy,uc3,uce,uen,ufj,ugn,ued,ub7,uea,ugz,ug2,uco,ucn,ueg,ubv,ue6,ucl,uff,ugy,uf9,ud4,uf6,ue5,ub6,ud6,uc0,uec,udk,ud7,uel,uei,ube,ubw,ueh,ufk,uds,ufi⟩) ufi;have e:=hmg.symm.trans hm;cases e;refine⟨fun i p Q e1 e2=>?_,fd,hb,fun base _ _ hB=>hF base hB⟩
   match i,e1,e2 with
   | 0,e1,e2=>
     cases e1;cases e2;refine' F.has_tab (st:=Pg.s__law_done) KX G ?ta0_118 ?tl0_118 ?tz0_118;(case ta0_118=>k_is);(case tl0_118=>k_is);(case tz0_118=>kernel_rfl)
   | 1,e1,e2=>
     cases e1;cases e2;refine' F.has_tab (st:=Pg.s__law_some) KX G ?ta1_118 ?tl1_118 ?tz1_118;(case ta1_118=>k_is);(case tl1_118=>k_is);(case tz1_118=>kernel_rfl)
   | 2,e1,e2=>
     cases e1;cases e2;refine' F.has_tab (st:=Pg.s_law) KX G ?ta2_118 ?tl2_118 ?tz2_118;(case ta2_118=>k_is);(case tl2_118=>k_is);(case tz2_118=>kernel_rfl)
   |i+3,e1,_=>cases e1
